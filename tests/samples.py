"""Tables and slow, plain answers that the tests measure the program against."""

from itertools import product


def texts_of(size):
    """All addresses of a size, by rising numbers."""
    return ["".join(signs) for signs in product("01", repeat=size)]


def all_heads(size):
    return [text for length in range(size + 1) for text in texts_of(length)]


def slow_way(rows, address):
    ways = dict(rows)
    for length in range(len(address), -1, -1):
        if address[:length] in ways:
            return ways[address[:length]]
    return None


def slow_spans(rows, size):
    told = []
    for number, address in enumerate(texts_of(size)):
        way = slow_way(rows, address)
        if told and told[-1][2] == way:
            told[-1] = (told[-1][0], number, way)
        else:
            told.append((number, number, way))
    return told


def slow_parting(ones, others, size):
    for address in texts_of(size):
        if slow_way(ones, address) != slow_way(others, address):
            return address
    return None


def many_tables(size, how_many, most_rows=60):
    """Tables that look mixed but are the same in each run: the steps come from a plain counting rule."""
    heads = all_heads(size)
    ways = [None, 0, 1, 7, 9999]
    state = 12345
    tables = []
    for _ in range(how_many):
        state = (state * 1103515245 + 12345) % 2147483648
        length = (state >> 8) % (min(most_rows, len(heads)) + 1)
        rows = {}
        for _ in range(length):
            state = (state * 1103515245 + 12345) % 2147483648
            head = heads[(state >> 8) % len(heads)]
            rows[head] = ways[(state >> 20) % len(ways)]
        tables.append(list(rows.items()))
    return tables


def table_of_sixty():
    """Sixty rows for size 16: one empty head, heads of each length along 0101.., and short ones between."""
    rows = [("", 9999)]
    rows += [(("01" * 8)[:length], length) for length in range(1, 17)]
    rows += [("1" + text, 100 + place) for place, text in enumerate(texts_of(5))]
    rows += [("0011" + text, None) for text in texts_of(3)]
    rows += [("00001", 0), ("000010", None), ("0000000000000000", 5)]
    return rows


def heads_in(rows):
    return [row[0] for row in rows]


def stands_by_heads(rows):
    """Whether each head is ahead of the next one: shorter and its beginning, or with 0 where they part."""
    for one, following in zip(heads_in(rows), heads_in(rows)[1:]):
        parts = [place for place, pair in enumerate(zip(one, following)) if pair[0] != pair[1]]
        ahead = one[parts[0]] == "0" if parts else len(one) < len(following)
        if not ahead:
            return False
    return True


def is_table(rows):
    shapes = type(rows) is list and all(type(row) is tuple and len(row) == 2 for row in rows)
    return shapes and len(set(heads_in(rows))) == len(rows)
