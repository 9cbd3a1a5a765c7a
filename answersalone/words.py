"""Numbers, names and tokens: which values are such, and how numbers are written."""

PAGE = 2
ROOM = 12
BUDGET = 4
ROUNDS = 400

# The token that ends an answer.
END = 0

DIGITS = "0123456789"
LETTERS = "abcdefghijklmnopqrstuvwxyz"
PERCENT = 37
GROUP_DIGITS = 9
GROUP = 1000000000


def is_number(value, least, most):
    """Whether any value is a number from least to most."""
    # True and False are integers for Python, but no numbers here.
    return isinstance(value, int) and not isinstance(value, bool) and least <= value <= most


def is_name(value):
    """Whether any value is a name."""
    if not isinstance(value, str) or not 1 <= len(value) <= 8:
        return False
    return all([character in LETTERS for character in value])


def is_tokens(value):
    """Whether any value is a string that can be the tokens of a net."""
    if not isinstance(value, str) or not 2 <= len(value) <= 6:
        return False
    return len(set(value)) == len(value) and all([_can_be_token(character) for character in value])


def _can_be_token(character):
    return "!" <= character <= "~" and ord(character) != PERCENT


def number_word(number):
    """The number as it is written in texts."""
    # By groups of digits, because str() refuses numbers of some thousand digits.
    rest = abs(number)
    groups = []
    while rest >= GROUP:
        rest, group = divmod(rest, GROUP)
        groups.append(str(group).zfill(GROUP_DIGITS))
    groups.append(str(rest))
    digits = "".join(groups[::-1])
    return f"-{digits}" if number < 0 else digits


def read_number(word, least, most):
    """The number from least to most whose word a string is, None for any other value."""
    if not isinstance(word, str):
        return None
    # No word of the range is longer than those of both its ends.
    if len(word) > max(len(number_word(least)), len(number_word(most))):
        return None
    number = _signed_number(word)
    # The word is written again to refuse leading zeros and -0.
    if not is_number(number, least, most) or number_word(number) != word:
        return None
    return number


def _signed_number(word):
    if word.startswith("-"):
        number = _digits_number(word[1:])
        return None if number is None else -number
    return _digits_number(word)


def _digits_number(digits):
    number = 0
    for digit in digits:
        if digit not in DIGITS:
            return None
        number = number * 10 + DIGITS.index(digit)
    return number
