"""Striking out, until nothing more is struck, what needs something that does not stand."""


def struck_out(needs, gone):
    """Which nodes are out, each with the node that it needed in vain, or with None if it is out by itself.

    needs has for each node the nodes that it needs, None where it is out by itself; gone are nodes that were
    out before. Nearer reasons come first, so each chain of reasons comes to an end.
    """
    users = {}
    reasons = {}
    for node, needed in needs.items():
        if needed is None:
            reasons[node] = None
            continue
        for need in needed:
            users.setdefault(need, []).append(node)
            if need in gone:
                reasons.setdefault(node, need)
    layer = list(reasons)
    while layer:
        following = []
        for need in layer:
            for node in users.get(need, []):
                if node not in reasons:
                    reasons[node] = need
                    following.append(node)
        layer = following
    return reasons
