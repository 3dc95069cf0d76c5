"""Greatest pairings of players, and barriers that show that they are greatest."""


def greatest_pairing(count, barred):
    """A greatest pairing: pairs of a lesser and a greater player, in ascending order."""
    partners = _partners(count, barred)
    sizes = _greatest_sizes(count, partners)
    pairs = []
    team = (1 << count) - 1
    for player in range(count):
        partner = _partner_in(team, player, partners[player], sizes)
        if partner is not None:
            pairs.append((player, partner))
            team -= (1 << player) + (1 << partner)
    return pairs


def _partner_in(team, player, partners, sizes):
    """With whom a greatest pairing of the team may pair the player, or None."""
    if not team >> player & 1:
        return None
    for partner in partners:
        if team >> partner & 1 and sizes[team - (1 << player) - (1 << partner)] + 1 == sizes[team]:
            return partner
    return None


def barrier(count, barred):
    """A barrier that shows that no pairing leaves out fewer players than a greatest one."""
    partners = _partners(count, barred)
    sizes = _greatest_sizes(count, partners)
    everybody = (1 << count) - 1
    # By the theorem of Gallai and Edmonds: the players whom every greatest pairing pairs, but who
    # may be paired with one whom some greatest pairing leaves out.
    spared = [player for player in range(count) if sizes[everybody - (1 << player)] == sizes[everybody]]
    return [player for player in range(count)
            if player not in spared and any([partner in spared for partner in partners[player]])]


def _partners(count, barred):
    """For each player the players with whom it may be paired."""
    refused = {pair: True for pair in [(one, other) for one, other in barred] + [(other, one) for one, other in barred]}
    return [[other for other in range(count) if other != player and (player, other) not in refused]
            for player in range(count)]


def _greatest_sizes(count, partners):
    """For each team the number of pairs of a greatest pairing of its players. A team is the sum of
    `1 << player` over its players."""
    sizes = [0]
    for player in range(count):
        # The teams whose greatest player is this one.
        for rest in range(1 << player):
            found = [sizes[rest - (1 << other)] + 1 for other in partners[player] if rest >> other & 1]
            sizes.append(max([sizes[rest], *found]))
    return sizes
