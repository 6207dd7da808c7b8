"""The search for the places at which an order shows a pattern.

A plan says, entry by entry from the left, between which two of the numbers that are held the next number must
stand, and which of them must still be held behind it. Only numbers that are next to one that is still to come
are held, so that few different states of a search come up even in long orders.
"""


def plan_of(pattern):
    """Return a (below, above, kept) for each entry: indexes of the numbers that are held."""
    held = [0, len(pattern) + 1]
    plan = []
    for at, entry in enumerate(pattern):
        below = max([number for number in held if number < entry])
        above = min([number for number in held if number > entry])
        grown = held + [entry]
        needed = _next_to(grown, pattern[at + 1:])
        kept = [index for index, number in enumerate(grown) if number in needed]
        plan.append((held.index(below), held.index(above), kept))
        held = [grown[index] for index in kept]
    return plan


def _next_to(held, coming):
    """Return a dict of the held numbers that are next to one that is still to come."""
    needed = {}
    for entry in coming:
        needed[max([number for number in held if number < entry])] = True
        needed[min([number for number in held if number > entry])] = True
    return needed


def placings(order, pattern, most):
    """Return the first tuples of places at which an order shows a pattern: all if most is below 0."""
    return placings_by(order, plan_of(pattern), most)


def placings_by(order, plan, most):
    """Return the first tuples of places at which an order shows the pattern of a plan: all if most is below 0."""
    found = []
    task = (order, plan, most, {}, found)
    _gather(task, (), (0, len(order) + 1))
    return found


def _gather(task, chosen, held):
    """Add to the found ones those that begin with the chosen places; tell whether there are any."""
    order, plan, most, failed, found = task
    at = len(chosen)
    below, above, kept = plan[at]
    bottom = held[below]
    top = held[above]
    many = len(found)
    start = chosen[-1] + 1 if chosen else 0
    for place in range(start, len(order) - len(plan) + at + 1):
        number = order[place]
        if bottom < number < top:
            if at + 1 == len(plan):
                found.append(chosen + (place,))
            else:
                _gather_behind(task, chosen + (place,), held + (number,))
            if len(found) == most:
                return True
    return len(found) > many


def _gather_behind(task, chosen, grown):
    """Go on behind the chosen places, unless the same is known to fail from there, or from further left."""
    plan, failed = task[1], task[3]
    rest = tuple([grown[index] for index in plan[len(chosen) - 1][2]])
    key = (len(chosen), rest)
    if chosen[-1] < failed.get(key, chosen[-1] + 1):
        if not _gather(task, chosen, rest):
            failed[key] = chosen[-1]


def count_placings(order, pattern):
    """Return how many tuples of places there are at which an order shows a pattern."""
    states = {(-1, (0, len(order) + 1)): 1}
    for step in plan_of(pattern):
        states = _counted_on(order, step, states)
    return sum(states.values())


def _counted_on(order, step, states):
    """Return how often each state (last place, held numbers) is come to by one more entry."""
    below, above, kept = step
    behind = {}
    for (last, held), many in states.items():
        for place in range(last + 1, len(order)):
            if held[below] < order[place] < held[above]:
                grown = held + (order[place],)
                key = (place, tuple([grown[index] for index in kept]))
                behind[key] = behind.get(key, 0) + many
    return behind
