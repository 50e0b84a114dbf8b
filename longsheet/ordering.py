"""Orders and rings of what hangs next on what: of the keys of a dict that has the list of all such keys for each."""


def order_of(following):
    """The list of the keys, each behind those on which it hangs next; without those on rings or that hang on one."""
    back = hung_from(following)
    lacking = {here: len(following[here]) for here in following}
    order = [here for here in following if lacking[here] == 0]
    at = 0
    while at < len(order):
        done = order[at]
        for here in back[done]:
            lacking[here] -= 1
            if lacking[here] == 0:
                order.append(here)
        at += 1
    return order


def hung_from(following):
    """The dict from each key to the list of those that hang next on it."""
    back = {here: [] for here in following}
    for here in following:
        for other in following[here]:
            back[other].append(here)
    return back


def reached_from(following, start):
    """The dict of True for each key on which one hangs."""
    found = {}
    waiting = [start]
    while waiting:
        here = waiting.pop()
        for other in following[here]:
            if other not in found:
                found[other] = True
                waiting.append(other)
    return found


def ring_of(following, ordered):
    """A ring of keys that do not stand in their order."""
    done = {here: True for here in ordered}
    here = [key for key in following if key not in done][0]
    places, walk = {}, []
    # Each key without a place in the order hangs next on one without; in the end one of them comes again.
    while here not in places:
        places[here] = len(walk)
        walk.append(here)
        here = [other for other in following[here] if other not in done][0]
    return walk[places[here]:]


def on_themselves(following):
    """The ascending list of the keys that hang on themselves."""
    keys = list(following)
    places = {here: at for at, here in enumerate(keys)}
    led = [_bits([places[other] for other in following[here]]) for here in keys]
    for between in range(len(keys)):
        for at in range(len(keys)):
            if led[at] >> between & 1:
                led[at] = led[at] | led[between]
    return sorted([here for at, here in enumerate(keys) if led[at] >> at & 1])


def _bits(places):
    mask = 0
    for place in places:
        mask = mask | 1 << place
    return mask
