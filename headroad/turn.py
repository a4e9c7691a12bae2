"""One table turned into another, and one laid over another."""

from headroad.ways import head_for


def by_heads(rows):
    return sorted(rows, key=lambda row: row[0])


def deeds(ones, others):
    had = dict(ones)
    wanted = dict(others)
    drops = [("drop", head) for head in sorted(had) if head not in wanted]
    puts = [("put", head, wanted[head]) for head in sorted(wanted) if head not in had or had[head] != wanted[head]]
    return drops + puts


def done(rows, deed):
    head = deed[1]
    table = [row for row in rows if row[0] != head]
    if deed[0] == "put":
        table.append((head, deed[2]))
    return by_heads(table)


def laid_over(ones, others):
    # A head of the first table that begins a head of the other one begins all that this one does.
    kept = [row for row in others if head_for(ones, row[0]) is None]
    return by_heads(ones + kept)
