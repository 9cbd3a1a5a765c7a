"""Chances of rows of tokens, drawn by a net alone or guessed with a weigher."""

from answersalone.errors import InvalidWeights
from answersalone.shares import Share
from answersalone.walks import Walk
from answersalone.words import END, is_number

GREATEST_WEIGHT = 99


def shares_of(weights):
    """The list of the shares of weights."""
    total = sum(weights)
    if total == 0:
        return [Share(1 if token == END else 0) for token in range(len(weights))]
    return [Share(weight, total) for weight in weights]


def kept_share(p, q):
    """The sum, over the tokens, of the lesser one of both shares."""
    return _sum_of([_lesser(one, other) for one, other in zip(p, q)])


def rest_shares(p, q):
    """The list of the shares by which a token is drawn in the place of a refused one, None if none is refused."""
    if kept_share(p, q) == Share(1):
        return None
    differences = [one - _lesser(one, other) for one, other in zip(p, q)]
    total = _sum_of(differences)
    return [difference.over(total) for difference in differences]


def guessed_shares(p, q):
    """The list of the chances of all tokens at one guessed place."""
    return [kept + instead for kept, instead in zip(_kept_chances_of(p, q), _instead_chances_of(p, q))]


def row_chance(net, text, row):
    """The chance of a row of tokens behind a text, by the net alone."""
    return _chance_from(_shares_along(net, text, row), row, 0)


def guessed_chance(net, text, row, weigher):
    """The chance of a row behind a text by guessing, with one place less than the row has."""
    shares = _shares_along(net, text, row)
    chance = Share(0)
    # The chance that the tokens of the row so far are guessed and kept.
    reached = Share(1)
    for at in range(len(row) - 1):
        p = shares[at]
        q = _asked_shares(net, list(text) + list(row[:at]), weigher)
        token = row[at]
        instead = _instead_chances_of(p, q)[token]
        chance = chance + reached * instead * _chance_from(shares, row, at + 1)
        reached = reached * _kept_chance(p[token], q[token])
        # No weigher is asked for a text that guessing cannot come to.
        if not reached:
            return chance
    return chance + reached * _chance_from(shares, row, len(row) - 1)


def kept_chances(net, text, places, weigher):
    """The list, for each number from 0 to places, of the chance that just so many guessed tokens are kept."""
    if places == 0:
        return [Share(1)]
    p = _shares_behind(net, text)
    q = _asked_shares(net, text, weigher)
    chances = [Share(1) - kept_share(p, q)] + [Share(0)] * places
    for token, kept in enumerate(_kept_chances_of(p, q)):
        if kept:
            behind = kept_chances(net, list(text) + [token], places - 1, weigher)
            for many, chance in enumerate(behind, 1):
                chances[many] = chances[many] + kept * chance
    return chances


def all_rows(tokens, length):
    """All rows of so many token numbers below tokens, ascending."""
    rows = [()]
    for _ in range(length):
        rows = [(*row, token) for row in rows for token in range(tokens)]
    for row in rows:
        yield row


def _sum_of(shares):
    total = Share(0)
    for share in shares:
        total = total + share
    return total


def _lesser(one, other):
    return one if one.below(other) else other


def _kept_chance(p, q):
    """The chance that a token is drawn by the share q and kept, where the net's share is p."""
    if not q:
        return Share(0)
    return q * _lesser(p.over(q), Share(1))


def _kept_chances_of(p, q):
    """For each token the chance that it is guessed and kept."""
    return [_kept_chance(one, other) for one, other in zip(p, q)]


def _instead_chances_of(p, q):
    """For each token the chance that it is drawn in the place of a refused one."""
    rest = rest_shares(p, q)
    if rest is None:
        return [Share(0)] * len(p)
    refused = Share(1) - kept_share(p, q)
    return [refused * share for share in rest]


def _shares_along(net, text, row):
    """The list of the net's shares of the tokens at each place of a row behind a text."""
    walk = Walk(net, text)
    found = []
    for token in row:
        found.append(shares_of(net.weights(walk.last)))
        walk.go_on(token)
    return found


def _chance_from(shares, row, start):
    """The chance that the tokens of a row from a place on are drawn by these shares."""
    chance = Share(1)
    for place in range(start, len(row)):
        chance = chance * shares[place][row[place]]
    return chance


def _shares_behind(net, text):
    """The net's shares of the tokens behind a text."""
    walk = Walk(net, text)
    return shares_of(net.weights(walk.last))


def _asked_shares(net, text, weigher):
    """The weigher's shares of the tokens behind a text."""
    weights = weigher(list(text))
    if not _are_weights(weights, len(net.tokens)):
        raise InvalidWeights()
    return shares_of(weights)


def _are_weights(value, tokens):
    if not isinstance(value, (list, tuple)) or len(value) != tokens:
        return False
    if not all([is_number(weight, 0, GREATEST_WEIGHT) for weight in value]):
        return False
    return max(value) > 0
