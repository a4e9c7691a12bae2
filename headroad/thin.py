"""A table of the fewest rows that leads as a given one does."""


def places_of(rows):
    # Each place has both of its next longer places or neither: below one that has neither, all is led alike.
    places = {"": True}
    for row in rows:
        for length in range(len(row[0])):
            places[row[0][:length] + "0"] = True
            places[row[0][:length] + "1"] = True
    return sorted(places)


def way_above(ways, place):
    # Where no row is told above, addresses are led nowhere without a row.
    return None if place == "" else ways[place[:-1]]


def ways_at(rows, places):
    told = dict(rows)
    ways = {}
    for place in places:
        ways[place] = told[place] if place in told else way_above(ways, place)
    return ways


def best_of_both(ones, others):
    # A way that is best on both sides saves a row over one that is best on a single side.
    shared = [way for way in ones if way in others]
    return shared if shared else ones + others


def best_ways(rows):
    # The best ways of a place are those that, told from above, leave the fewest rows to be put below;
    # any other way costs just one row more, so the best ones of two sides settle those of the place above them.
    places = places_of(rows)
    ways = ways_at(rows, places)
    best = {}
    # In order as texts a shorter place stands ahead of those it begins, so backwards it comes behind them.
    for place in reversed(places):
        if place + "0" in best:
            best[place] = best_of_both(best[place + "0"], best[place + "1"])
        else:
            best[place] = [ways[place]]
    return best


def thinned(rows):
    best = best_ways(rows)
    led = {}
    told = []
    for place in sorted(best):
        way = way_above(led, place)
        if way not in best[place]:
            way = best[place][0]
            told.append((place, way))
        led[place] = way
    return told
