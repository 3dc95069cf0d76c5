"""Greatest flows in nets, and the dams that show that they are greatest."""


def greatest_flow(nodes, arcs, source, sink):
    """The amounts of a greatest flow, and the nodes of a dam whose arcs it uses up."""
    amounts = [0 for _ in arcs]
    steps_at = _steps_at(nodes, arcs)
    arrivals = _arrivals(arcs, amounts, steps_at, source)
    # Each way is a shortest one, so the number of ways is limited whatever the capacities are.
    while sink in arrivals:
        way = _way_to(arrivals, sink)
        room = min([_room(arcs, amounts, step) for _, step in way])
        changes = [(index, sign * room) for _, (index, sign) in way]
        for index, change in changes:
            amounts[index] += change
        arrivals = _arrivals(arcs, amounts, steps_at, source)
    return (amounts, sorted(arrivals))


def _steps_at(nodes, arcs):
    """For each node its steps to neighbours: the node behind, and the index of the arc with 1 if
    the step goes along the arc, or -1 if it goes against it."""
    found = [[] for _ in range(nodes)]
    for index, (start, end, _) in enumerate(arcs):
        found[start].append((end, (index, 1)))
        found[end].append((start, (index, -1)))
    return found


def _room(arcs, amounts, step):
    """By how much the amount of a step's arc can still be changed in the direction of the step."""
    index, sign = step
    return arcs[index][2] - amounts[index] if sign == 1 else amounts[index]


def _arrivals(arcs, amounts, steps_at, source):
    """For each node that more can still be led to, the node before it on a shortest way, and the step."""
    found = {source: None}
    order = [source]
    at = 0
    while at < len(order):
        present = order[at]
        new = []
        for node, step in steps_at[present]:
            if node not in found and _room(arcs, amounts, step) > 0:
                found[node] = (present, step)
                new.append(node)
        order.extend(new)
        at += 1
    return found


def _way_to(arrivals, node):
    """The steps of the way to a node, each with the node before it."""
    way = []
    at = node
    while arrivals[at] is not None:
        way.append(arrivals[at])
        at = arrivals[at][0]
    return way
