"""The lines of the text of a net, read and written."""

from answersalone.errors import InvalidText
from answersalone.netparts import GREATEST_CAP, GREATEST_ENTRY, MOST_PLACE_ROWS
from answersalone.shapes import MOST_HEADS, MOST_LAYERS, MOST_WIDTH
from answersalone.words import is_tokens, number_word, read_number

HEAD_WORDS = ("query", "key", "value")


class NetLines:
    """The lines of a text, taken one by one; a line that cannot stand raises InvalidText."""

    def __init__(self, text):
        # What stands behind the last line feed is the last item; it is empty if each line has its line feed.
        self._lines = text.split("\n")
        self._at = 0

    def begins_with(self, word):
        """Whether the next line is there and begins with a word."""
        return self._at < len(self._lines) - 1 and self._lines[self._at].split(" ")[0] == word

    def take_opening(self):
        """The tokens and the cap of the line net."""
        words = self._words()
        if len(words) != 3 or words[0] != "net" or not is_tokens(words[1]):
            raise InvalidText(self._at)
        cap = read_number(words[2], 1, GREATEST_CAP)
        if cap is None:
            raise InvalidText(self._at)
        self._at += 1
        return words[1], cap

    def take_row(self, word, least, most):
        """The row of a line with this word and with least to most numbers."""
        words = self._words()
        row = [read_number(part, -GREATEST_ENTRY, GREATEST_ENTRY) for part in words[1:]]
        if words[0] != word or not least <= len(row) <= most or None in row:
            raise InvalidText(self._at)
        self._at += 1
        return tuple(row)

    def take_rows(self, word, many, width):
        """The rows of so many lines with this word."""
        return tuple([self.take_row(word, width, width) for _ in range(many)])

    def take_word(self, word):
        """A line that has this word alone."""
        if self._words() != [word]:
            raise InvalidText(self._at)
        self._at += 1

    def take_nothing(self):
        """The end of the text, without anything behind its last line feed."""
        if self._lines[self._at:] != [""]:
            raise InvalidText(self._at)

    def _words(self):
        if self._at >= len(self._lines) - 1:
            raise InvalidText(self._at)
        return self._lines[self._at].split(" ")


def read_parts(text):
    """The seven parts of the net of a text, in the order in which a net takes them."""
    lines = NetLines(text)
    tokens, cap = lines.take_opening()
    many = len(tokens)
    first = lines.take_row("token", 1, MOST_WIDTH)
    width = len(first)
    token_rows = (first, *lines.take_rows("token", many - 1, width))
    place_rows = _place_rows(lines, width)
    layers = _layers(lines, width)
    out_rows = lines.take_rows("out", many, width)
    base = lines.take_row("base", many, many)
    lines.take_word("end")
    lines.take_nothing()
    return tokens, cap, token_rows, place_rows, layers, out_rows, base


def _place_rows(lines, width):
    rows = [lines.take_row("place", width, width)]
    while len(rows) < MOST_PLACE_ROWS and lines.begins_with("place"):
        rows.append(lines.take_row("place", width, width))
    return tuple(rows)


def _layers(lines, width):
    layers = [_layer(lines, width, 1, MOST_HEADS)]
    # The first layer tells the number of the heads of all layers.
    heads = len(layers[0][0])
    while len(layers) < MOST_LAYERS and lines.begins_with("layer"):
        layers.append(_layer(lines, width, heads, heads))
    return tuple(layers)


def _layer(lines, width, least, most):
    lines.take_word("layer")
    heads = [_head(lines, width) for _ in range(least)]
    while len(heads) < most and lines.begins_with("head"):
        heads.append(_head(lines, width))
    up = lines.take_rows("up", width, width)
    down = lines.take_rows("down", width, width)
    return tuple(heads), up, down


def _head(lines, width):
    lines.take_word("head")
    return tuple([lines.take_rows(word, width, width) for word in HEAD_WORDS])


def lines_of(net):
    """The list of the lines of the text of a net."""
    lines = [f"net {net.tokens} {number_word(net.cap)}"]
    lines.extend(_row_lines("token", net.token_rows))
    lines.extend(_row_lines("place", net.place_rows))
    for heads, up, down in net.layers:
        lines.append("layer")
        for head in heads:
            lines.append("head")
            for word, table in zip(HEAD_WORDS, head):
                lines.extend(_row_lines(word, table))
        lines.extend(_row_lines("up", up))
        lines.extend(_row_lines("down", down))
    lines.extend(_row_lines("out", net.out_rows))
    lines.extend(_row_lines("base", [net.base]))
    lines.append("end")
    return lines


def _row_lines(word, rows):
    return [" ".join([word] + [number_word(number) for number in row]) for row in rows]
