"""Reckoning: on which cells a cell hangs, orders of all cells, rings, and values."""

from longsheet.cells import cells_of, is_address, meant_by, value_by
from longsheet.errors import Ring
from longsheet.ordering import on_themselves, order_of, reached_from, ring_of


def next_cells(sheet, rows, address):
    """The ascending list of the addresses on which a cell hangs next."""
    return cells_of(meant_by(sheet, rows, address))


def hanging(sheet, rows, address):
    """The ascending list of the addresses on which a cell hangs."""
    meant = meant_from(sheet, rows, address)
    return sorted(list(reached_from(next_by(meant), address)))


def on_rings(sheet, rows):
    """The ascending list of the addresses of the cells that lie on a ring."""
    return on_themselves(next_by(all_meant(sheet, rows)))


def value_at(sheet, rows, contents, address):
    """The value of a cell."""
    return values_by(sheet, rows, contents, meant_from(sheet, rows, address))[address]


def values(sheet, rows, contents):
    """The dict from all addresses to their values."""
    return values_by(sheet, rows, contents, all_meant(sheet, rows))


def order_for(sheet, rows):
    """A list of all addresses, each behind those on which it hangs next."""
    following = next_by(all_meant(sheet, rows))
    order = order_of(following)
    if len(order) < len(following):
        raise Ring(ring_of(following, order))
    return order


def is_order(sheet, rows, thing):
    """Whether any value is a list of all addresses, each behind those on which it hangs next."""
    if not _are_addresses(sheet, rows, thing) or len(thing) != len(sheet.addresses(rows)):
        return False
    done = {}
    for address in thing:
        if address in done or not all([cell in done for cell in next_cells(sheet, rows, address)]):
            return False
        done[address] = True
    return True


def is_ring(sheet, rows, thing):
    """Whether any value is a list of different addresses that is a ring of cells."""
    if not _are_addresses(sheet, rows, thing) or len(thing) == 0 or len(set(thing)) < len(thing):
        return False
    return all([other in next_cells(sheet, rows, one) for one, other in zip(thing, thing[1:] + thing[:1])])


def all_meant(sheet, rows):
    """The dict from all addresses to what their names and ranges mean."""
    return {address: meant_by(sheet, rows, address) for address in sheet.addresses(rows)}


def next_by(meant):
    """The dict from cells to the lists of those on which they hang next, by what is meant."""
    return {address: cells_of(meant[address]) for address in meant}


def values_by(sheet, rows, contents, meant):
    """The dict from cells to their values, by what is meant; all on which they hang are among them."""
    known = {address: "#ring" for address in meant}
    for address in order_of(next_by(meant)):
        known[address] = value_by(sheet, rows, contents, address, meant[address], known)
    return known


def meant_from(sheet, rows, address):
    """What is meant by a cell and by all on which it hangs."""
    meant = {}
    waiting = [address]
    while waiting:
        here = waiting.pop()
        if here not in meant:
            meant[here] = meant_by(sheet, rows, here)
            waiting.extend(cells_of(meant[here]))
    return meant


def _are_addresses(sheet, rows, thing):
    if not isinstance(thing, list):
        return False
    for part in thing:
        if not is_address(sheet, rows, part):
            return False
    return True
