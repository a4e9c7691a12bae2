"""Where a table leads the addresses of a size."""

from headroad.heads import address_of, begins, last_number, span_of


def leading_row(rows, address):
    leading = None
    for row in rows:
        if begins(row[0], address) and (leading is None or len(row[0]) > len(leading[0])):
            leading = row
    return leading


def head_for(rows, address):
    row = leading_row(rows, address)
    return None if row is None else row[0]


def way_for(rows, address):
    row = leading_row(rows, address)
    return None if row is None else row[1]


def cuts_of(rows, size):
    # The way can change only where a head's stretch starts or has just ended,
    # so the address at a cut speaks for all up to the next cut.
    cuts = [0]
    for row in rows:
        span = span_of(row[0], size)
        cuts.append(span[0])
        if span[1] < last_number(size):
            cuts.append(span[1] + 1)
    return sorted(set(cuts))


def spans(rows, size):
    told = []
    low = 0
    way = way_for(rows, address_of(low, size))
    for cut in cuts_of(rows, size):
        way_here = way_for(rows, address_of(cut, size))
        if way_here != way:
            told.append((low, cut - 1, way))
            low = cut
            way = way_here
    told.append((low, last_number(size), way))
    return told


def parting(ones, others, size):
    for cut in cuts_of(ones + others, size):
        address = address_of(cut, size)
        if way_for(ones, address) != way_for(others, address):
            return address
    return None
