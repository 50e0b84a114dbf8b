"""Where columns go: lists that have for each column of a sheet the one to which it goes, or None if it is struck."""


def places_to_put(many, at):
    """Those of so many columns if one is put in ahead of the column at."""
    return [old if old < at else old + 1 for old in range(many)]


def places_to_strike(many, at):
    """Those of so many columns if one is taken out."""
    return [None if old == at else old if old < at else old - 1 for old in range(many)]


def places_to_move(many, at, to):
    """Those of so many columns if one is moved so that it is column to."""
    others = [old for old in range(many) if old != at]
    order = others[:to] + [at] + others[to:]
    return [order.index(old) for old in range(many)]


def places_to_exchange(many, at, to):
    """Those of so many columns if two are exchanged."""
    return [to if old == at else at if old == to else old for old in range(many)]
