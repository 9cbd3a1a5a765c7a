"""Plain answers: those that a net gives to one run alone, worked from nothing."""

from answersalone.answers import Answer
from answersalone.choosing import choose
from answersalone.errors import InvalidRequest, UnknownRun
from answersalone.requests import misfit
from answersalone.words import END, is_number


def worked(net, text):
    """The list of the pairs (kept row, last row) of all places of a text."""
    pairs = []
    for token in text:
        kept = [pair[0] for pair in pairs]
        pairs.append(net.place(kept, token))
    return pairs


def next_token(net, request, tokens, run=0):
    """The token that is chosen behind the tokens of an answer so far."""
    _refuse_wrong(net, request, run)
    _, last = worked(net, [*request.text, *tokens])[-1]
    return token_behind(net, request, tokens, run, last)


def token_behind(net, request, tokens, run, last):
    """The token that is chosen behind the tokens of an answer so far, whose last place has this last row."""
    return choose(
        net.weights(last),
        allowed=_allowed(request, tokens),
        knob=request.knob,
        seed=request.seed + run,
        place=len(request.text) + len(tokens),
    )


def plain_answer(net, request, run=0):
    """The plain answer of a run."""
    tokens = list(plain_tokens(net, request, run))
    return Answer(tokens, "full" if len(tokens) == request.most else "end")


def plain_tokens(net, request, run=0):
    """The tokens of the plain answer of a run, one by one."""
    tokens = []
    while len(tokens) < request.most:
        token = next_token(net, request, tokens, run)
        if token == END:
            return
        tokens.append(token)
        yield token


def _allowed(request, tokens):
    if request.automaton is None:
        return None
    state = request.automaton.state_of(tokens)
    return request.automaton.allowed(state, request.most - len(tokens))


def _refuse_wrong(net, request, run):
    wrong = misfit(request, len(net.tokens))
    if wrong is not None:
        raise InvalidRequest(wrong)
    if not request.possible:
        raise InvalidRequest("most")
    if not is_number(run, 0, request.copies - 1):
        raise UnknownRun(run)
