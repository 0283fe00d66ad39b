"""Asking in a row, and in rows of unlike neighbours."""

from morethanhalf.asks import ask


def told(asks, thing, is_found):
    """The asks with the thing that was found, or with none."""
    return (asks, ("one", thing) if is_found else ("none",))


def taken_last(kinds, asks):
    """Go along the row once, counting: the thing that is taken last."""
    taken = count = 0
    for thing in range(len(kinds)):
        if count == 0:
            taken, count = thing, 1
        elif ask(kinds, asks, taken, thing):
            count += 1
        else:
            count -= 1
    return taken


def is_settled(many, known):
    """Whether it is known that more than half are alike, or that they cannot be."""
    alike = sum(known.values())
    unlike = len(known) - alike
    return 2 * alike > many or 2 * (many - unlike) <= many


def more_than_half_alike(kinds, asks, taken):
    """Ask for the rest with the taken one, till it is settled whether more than half are alike with it."""
    # Only what was asked with the taken one counts as known, not what follows from other asks.
    known = {taken: True}
    known.update({j: alike for i, j, alike in asks if i == taken})
    for thing in range(len(kinds)):
        if is_settled(len(kinds), known):
            break
        if thing not in known:
            known[thing] = ask(kinds, asks, taken, thing)
    return 2 * sum(known.values()) > len(kinds)


def in_a_row(kinds):
    """Asked in a row: the asks, and a thing of the kind that more than half are."""
    asks = []
    if not kinds:
        return told(asks, 0, False)
    taken = taken_last(kinds, asks)
    return told(asks, taken, more_than_half_alike(kinds, asks, taken))


def laid(kinds, asks):
    """Lay all things: the row, and the heap of things that are alike with the row's last one."""
    row, heap = [0], []
    for thing in range(1, len(kinds)):
        if ask(kinds, asks, row[-1], thing):
            heap.append(thing)
        else:
            row.append(thing)
            if heap:
                row.append(heap.pop())
    return row, heap


def is_left(kinds, asks, row, heap):
    """Take the row away from behind, by twos of unlike things: whether one like the last is left."""
    t = row[-1]
    while row:
        last = row.pop()
        if last == t or ask(kinds, asks, t, last):
            # The one before it is its neighbour, so it is unlike without an ask.
            if row:
                row.pop()
            else:
                heap.append(last)
        elif heap:
            heap.pop()
        else:
            return False
    return len(heap) > 0


def in_rows(kinds):
    """Asked in rows of unlike neighbours: the asks, and a thing of the kind that more than half are."""
    asks = []
    if not kinds:
        return told(asks, 0, False)
    row, heap = laid(kinds, asks)
    t = row[-1]
    return told(asks, t, is_left(kinds, asks, row, heap))
