"""Which values can be the parts of a net."""

from answersalone.shapes import MOST_HEADS, MOST_LAYERS, MOST_WIDTH
from answersalone.words import is_number, is_tokens

GREATEST_ENTRY = 9
GREATEST_CAP = 99
MOST_PLACE_ROWS = 6
LAYER_PARTS = 3
HEAD_TABLES = 3


def wrong_part(tokens, cap, token_rows, place_rows, layers, out_rows, base):
    """The word of the first part of a net that is wrong, None if all are right."""
    if not is_tokens(tokens):
        return "tokens"
    if not is_number(cap, 1, GREATEST_CAP):
        return "cap"
    many = len(tokens)
    if not _are_token_rows(token_rows, many):
        return "token_rows"
    width = len(token_rows[0])
    if not _are_rows(place_rows, 1, MOST_PLACE_ROWS, width):
        return "place_rows"
    if not _are_layers(layers, width):
        return "layers"
    if not _are_rows(out_rows, many, many, width):
        return "out_rows"
    return None if _is_row(base, many) else "base"


def _is_list(value, least, most):
    return isinstance(value, (list, tuple)) and least <= len(value) <= most


def _is_row(value, width):
    if not _is_list(value, width, width):
        return False
    return all([is_number(item, -GREATEST_ENTRY, GREATEST_ENTRY) for item in value])


def _are_rows(value, least, most, width):
    return _is_list(value, least, most) and all([_is_row(row, width) for row in value])


def _are_token_rows(value, many):
    # The first token row tells the width of all rows.
    if not _is_list(value, many, many) or not _is_list(value[0], 1, MOST_WIDTH):
        return False
    return _are_rows(value, many, many, len(value[0]))


def _are_layers(value, width):
    if not _is_list(value, 1, MOST_LAYERS):
        return False
    if not all([_is_list(layer, LAYER_PARTS, LAYER_PARTS) for layer in value]):
        return False
    # The first layer tells the number of the heads of all layers.
    if not _is_list(value[0][0], 1, MOST_HEADS):
        return False
    heads = len(value[0][0])
    return all([_is_layer(layer, heads, width) for layer in value])


def _is_layer(value, heads, width):
    parts, up, down = value
    if not _is_list(parts, heads, heads) or not all([_is_head(head, width) for head in parts]):
        return False
    return _is_table(up, width) and _is_table(down, width)


def _is_head(value, width):
    if not _is_list(value, HEAD_TABLES, HEAD_TABLES):
        return False
    return all([_is_table(table, width) for table in value])


def _is_table(value, width):
    return _are_rows(value, width, width, width)
