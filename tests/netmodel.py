"""Nets by the words of [6], written for the tests without a look at the package's own."""


def tupled(value):
    return tuple(tupled(item) for item in value) if isinstance(value, (list, tuple)) else value


def listed(value):
    return [listed(item) for item in value] if isinstance(value, (list, tuple)) else value


def product(table, row):
    return [sum(line[at] * row[at] for at in range(len(row))) for line in table]


def places_by_the_words(parts, text):
    """The pairs (kept row, last row) of all places, as [6] tells them."""
    return [(kept_row, rows[-1]) for kept_row, rows in stages_by_the_words(parts, text)]


def stages_by_the_words(parts, text):
    """For each place the pair of its kept row and its rows behind 0 layers, 1 layer and so on."""
    width = len(parts["token_rows"][0])
    cap = parts["cap"]

    def cutting(row):
        return [cap if number > cap else -cap if number < -cap else number for number in row]

    kept = []
    pairs = []
    for place, token in enumerate(text):
        place_row = parts["place_rows"][place % len(parts["place_rows"])]
        x = cutting([parts["token_rows"][token][at] + place_row[at] for at in range(width)])
        kept.append([])
        rows = [tuple(x)]
        for layer, (heads, up, down) in enumerate(parts["layers"]):
            kept[place].append([(product(key, x), product(value, x)) for _, key, value in heads])
            summed = list(x)
            for head, (query, _, _) in enumerate(heads):
                asked = product(query, x)
                best = None
                for earlier in range(place + 1):
                    first, second = kept[earlier][layer][head]
                    score = sum(asked[at] * first[at] for at in range(width))
                    if best is None or score >= best[0]:
                        best = (score, second)
                summed = [summed[at] + best[1][at] for at in range(width)]
            x = cutting(summed)
            z = [number if number > 0 else 0 for number in product(up, x)]
            more = product(down, z)
            x = cutting([x[at] + more[at] for at in range(width)])
            rows.append(tuple(x))
        pairs.append((tupled(kept[place]), rows))
    return pairs


def weights_by_the_words(parts, row):
    rows = zip(parts["out_rows"], parts["base"])
    return [max(0, sum(out[at] * row[at] for at in range(len(row))) + number) for out, number in rows]
