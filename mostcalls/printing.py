"""Printing: the text of a system, of a policy, and of a block."""


def format_system(system):
    """The text of a system, which texts.parse_system reads."""
    lines = [policy_line(system.policy(name)) for name in system.policies()]
    for name in system:
        lines += [f"service {name}"] + block_lines(system[name], 1) + ["end"]
    return "\n".join(lines)


def policy_line(policy):
    """The line of a policy."""
    words = ["policy", policy.name, "limit", str(policy.limit), "tries", str(policy.tries)]
    if policy.early is not None:
        words += ["early", str(policy.early)]
    elif policy.tries > 1:
        words += ["pauses"] + [str(ticks) for ticks in policy.pauses]
    if policy.lossy:
        words.append("lossy")
    words += [str(word) for word in policy.ending]
    return " ".join(words)


def block_lines(block, depth):
    """The lines of a block with so many blocks around its parts."""
    lines = []
    for part in block:
        lines += _part_lines(part, depth)
    return lines


def _part_lines(part, depth):
    """The lines of a part."""
    indent = "  " * depth
    if part[0] == "maybe":
        return [indent + "maybe"] + block_lines(part[1], depth + 1) + [indent + "end"]
    if part[0] == "both":
        first = block_lines(part[1], depth + 1)
        second = block_lines(part[2], depth + 1)
        return [indent + "both"] + first + [indent + "beside"] + second + [indent + "end"]
    return [indent + " ".join([str(word) for word in part])]
