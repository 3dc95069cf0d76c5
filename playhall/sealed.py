"""Sealed rounds, in which each party tells one hand, and the lies that pay there."""

LEAST_GAIN = 1


def lies(rule, *, least=LEAST_GAIN):
    """Yields `(party, combination, told)` for each lie with a gain of at least `least`, in order."""
    for combination in rule.full:
        for party, size in enumerate(rule.sizes):
            for told in range(size):
                if told != combination[party] and _gain(rule, party, combination, told) >= least:
                    yield (party, combination, told)


def _gain(rule, party, combination, told):
    """What the party gains if it tells this hand."""
    heard = (*combination[:party], told, *combination[party + 1:])
    own = combination[party]
    return rule.worth(party, own, rule(heard)) - rule.worth(party, own, rule(combination))


def first_lie(rule, *, least=LEAST_GAIN):
    """The first lie with a gain of at least `least`, or None."""
    for lie in lies(rule, least=least):
        return lie
    return None
