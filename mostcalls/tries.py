"""Tries: the tables of calls by a policy."""

from mostcalls.attempts import Call
from mostcalls.checks import is_count
from mostcalls.errors import InvalidNumber, InvalidPolicy, InvalidTable
from mostcalls.policies import Policy
from mostcalls.tables import Recipe, Table
from mostcalls.ways import Want


def call_table(policy, callee, cost=0):
    """The table of a call by a policy of a service whose block has the table callee; each try costs so much."""
    if not isinstance(policy, Policy):
        raise InvalidPolicy(None)
    if not isinstance(callee, Table):
        raise InvalidTable(callee)
    if not is_count(cost):
        raise InvalidNumber(cost)
    manner = callee.manner
    return Table(Recipe(manner, Call(manner, policy, callee, cost)))


def want_table(table):
    """The table in which the fails of a table are answers."""
    if not isinstance(table, Table):
        raise InvalidTable(table)
    return Table(Recipe(table.manner, Want(table.manner, table)))
