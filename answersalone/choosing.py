"""Choosing a token from weights."""


def draw_number(seed, place):
    """The number by which a token is drawn for a seed and a place."""
    return (seed * 40503 + place * 30011 + 12345) % 65521


def choose(weights, *, allowed=None, knob="best", seed=0, place=0):
    """The token that is chosen from weights; allowed None stands for all tokens."""
    counted = _counted(weights, allowed)
    if max(counted) == 0:
        return 0 if allowed is None else allowed[0]
    if knob == "best":
        return counted.index(max(counted))
    return _token_above(counted, draw_number(seed, place) % sum(counted))


def _counted(weights, allowed):
    if allowed is None:
        return list(weights)
    return [weight if token in allowed else 0 for token, weight in enumerate(weights)]


def _token_above(weights, number):
    """The least token up to which the sum of the weights is above a number."""
    token = 0
    total = weights[0]
    while total <= number:
        token += 1
        total = total + weights[token]
    return token
