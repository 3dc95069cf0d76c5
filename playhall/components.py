"""Components: the largest sets of nodes of a net that reach each other."""


def components(ways):
    """For each node the number of its component, where `ways` lists for each node the nodes to
    which a way leads from it. No way leads to a lesser number."""
    sources = [[] for _ in ways]
    for node, row in enumerate(ways):
        for to in row:
            sources[to].append(node)
    numbers = {}
    count = 0
    # What was finished last reaches all that is left, or is not reached by it.
    for root in _finished(ways)[::-1]:
        if root not in numbers:
            found = _reached(sources, root, numbers)
            numbers.update({node: count for node in found})
            count += 1
    return [numbers[node] for node in range(len(ways))]


def _finished(ways):
    """All nodes, each behind the nodes that it reached first when the ways were followed."""
    order = []
    seen = {}
    for root in range(len(ways)):
        path = [] if root in seen else [(root, 0)]
        seen[root] = True
        while path:
            node, at = path.pop()
            if at == len(ways[node]):
                order.append(node)
                continue
            path.append((node, at + 1))
            behind = ways[node][at]
            if behind not in seen:
                seen[behind] = True
                path.append((behind, 0))
    return order


def _reached(ways, root, barred):
    """The nodes that are reached from the root without touching a barred one."""
    order = [root]
    seen = {root: True}
    at = 0
    while at < len(order):
        new = []
        for to in ways[order[at]]:
            if to not in seen and to not in barred:
                seen[to] = True
                new.append(to)
        order.extend(new)
        at += 1
    return order
