"""The least and greatest sums that keep rows, or a ring of rows that no sums keep.

A row here is a tuple (start, end, number, name): the sum of the end is at most the number greater than that of the
start.
"""


def raised(sums, rows):
    """Raise the sums until they keep all rows: return them and None, or None and a ring of rows if they never do."""
    least = dict(sums)
    causes = {}
    for turn in range(len(sums)):
        risen = None
        for row in rows:
            start, end, number, name = row
            if least[start] < least[end] - number:
                least[start] = least[end] - number
                causes[start] = row
                risen = start
        if risen is None:
            return least, None
    # What rises once more after so many turns as there are sums is raised round and round.
    return None, ring_behind(risen, causes)


def ring_behind(node, causes):
    """Return the ring to which one comes from the node, by the rows that raised each sum last."""
    at = node
    for turn in range(len(causes)):
        at = causes[at][1]
    ring = [causes[at]]
    while ring[-1][1] != at:
        ring.append(causes[ring[-1][1]])
    return ring


def bounded(source, rows, turns):
    """Return the greatest sums that keep all rows, beside 0 for the source, of all that have one.

    There must be sums that keep all rows, and at most so many things beside the source.
    """
    greatest = {source: 0}
    for turn in range(turns):
        for start, end, number, name in rows:
            if start in greatest and (end not in greatest or greatest[start] + number < greatest[end]):
                greatest[end] = greatest[start] + number
    return greatest
