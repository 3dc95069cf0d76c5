"""Which hands cannot be told apart by a question in which honesty is plainly best."""

from playhall.components import components


def reaches(rule, box, party):
    """For each hand of the party's side the outcomes of the box that it reaches, ascending."""
    found = {hand: {} for hand in box.sides[party]}
    for combination in box:
        found[combination[party]][rule(combination)] = True
    return {hand: sorted(outcomes) for hand, outcomes in found.items()}


def least_worth(rule, party, hand, outcomes):
    """What the worst of the outcomes is worth to the party with the hand."""
    return min([rule.worth(party, hand, outcome) for outcome in outcomes])


def greatest_worth(rule, party, hand, outcomes):
    """What the best of the outcomes is worth to the party with the hand."""
    return max([rule.worth(party, hand, outcome) for outcome in outcomes])


def reach(rule, box, party, hand):
    """The outcomes of the combinations in which the party has the hand."""
    return tuple(reaches(rule, box, party)[hand])


def floor(rule, box, party, hand):
    """The least worth that the outcomes can have for the party with the hand."""
    return least_worth(rule, party, hand, reach(rule, box, party, hand))


def promise(rule, box, party, hand, cell):
    """The promise of a departure from the cell, or None if nothing lies outside of it."""
    reached = reaches(rule, box, party)
    outside = [outcome for other, outcomes in reached.items() if other not in cell for outcome in outcomes]
    return greatest_worth(rule, party, hand, outside) if outside else None


def tie(rule, box, party, first, second):
    """A witness that the hands are tied, or None."""
    for hand, told in ((first, second), (second, first)):
        owns = [combination for combination in box if combination[party] == hand]
        others = [combination for combination in box if combination[party] == told]
        own = min(owns, key=lambda combination: rule.worth(party, hand, rule(combination)))
        other = max(others, key=lambda combination: rule.worth(party, hand, rule(combination)))
        if rule.worth(party, hand, rule(own)) < rule.worth(party, hand, rule(other)):
            return (own, other)
    return None


def groups(rule, box, party):
    """The groups of the party's side, by their least hands."""
    side = box.sides[party]
    reached = reaches(rule, box, party)
    floors = [least_worth(rule, party, hand, reached[hand]) for hand in side]
    # Whether an outcome of the other hand is worth more to the party with the hand than its floor.
    lured = [[greatest_worth(rule, party, hand, reached[other]) > least for other in side]
             for hand, least in zip(side, floors)]
    places = list(range(len(side)))
    numbers = components([[other for other in places if other != place and (lured[place][other] or lured[other][place])]
                          for place in places])
    found = {}
    for hand, number in zip(side, numbers):
        found.setdefault(number, []).append(hand)
    return [tuple(hands) for hands in found.values()]
