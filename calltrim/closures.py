"""What is found by going on step by step: closures of starts by steps.

steps has for a node the sequence of nodes that come with it, or nothing.
"""


def closure(starts, steps):
    """The starts and all that come with these, as the keys of a dict."""
    found = {}
    fresh = list(starts)
    while fresh:
        node = fresh.pop()
        if node not in found:
            found[node] = True
            fresh.extend(steps.get(node, []))
    return found


def is_closed(found, starts, steps):
    """Whether a dict has all starts, and with each of its nodes all that come with it."""
    if any([start not in found for start in starts]):
        return False
    return all([behind in found for node in found for behind in steps.get(node, [])])
