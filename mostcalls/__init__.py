"""Mostcalls: the most calls, work and time that one request can cause, exactly."""
