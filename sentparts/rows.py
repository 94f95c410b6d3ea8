"""What steps do to rows, which are tuples of cells, by the places of their columns."""


def place_of(columns, name):
    """The place of a column."""
    return [column[0] for column in columns].index(name)


def places_of(columns, names):
    """The places of columns."""
    return [place_of(columns, name) for name in names]


def picked(row, places):
    """What stands at these places of a row, or of columns."""
    return tuple([row[place] for place in places])


def replaced(rows, place, cells):
    """The rows with these cells, one for each, at this place."""
    return [row[:place] + (cell,) + row[place + 1:] for row, cell in zip(rows, cells)]


def firsts(rows, places, ways):
    """Pairs, in order: a row to which none ahead is alike at these places, and how many are, itself too."""
    rows_found = {}
    counts = {}
    for row in rows:
        seen = tuple([ways.seen(row[place]) for place in places])
        if seen not in rows_found:
            rows_found[seen] = row
        counts[seen] = counts.get(seen, 0) + 1
    return [(row, counts[seen]) for seen, row in rows_found.items()]


def ordered(rows, place, way, ways):
    """The rows ordered by their cells at one place, up or down; those that are alike stay in their order."""
    if way == "up":
        return sorted(rows, key=lambda row: _rank(row[place], ways))
    # Python keeps the order of what is equal in this direction, too.
    return sorted(rows, key=lambda row: _rank(row[place], ways), reverse=True)


def _rank(cell, ways):
    """What is less for one cell than for another one if the store has it ahead."""
    seen = ways.seen(cell)
    if seen is None:
        return (2, 0) if ways.last else (0, 0)
    return (1, seen)
