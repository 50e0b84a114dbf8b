"""Values of cells straight from the definitions, cell by cell, to hold the program against."""

from longsheet.formulas import reads
from longsheet.names import is_name


def next_cells(sheet, rows, address):
    formula = sheet.formula_at(address, rows)
    found = []
    for read in reads(formula):
        found += sheet.means(address, read, rows) or []
    return sorted(set(found))


def hanging(sheet, rows, address):
    """The addresses on which a cell hangs."""
    found, waiting = set(), [address]
    while waiting:
        for cell in next_cells(sheet, rows, waiting.pop()):
            if cell not in found:
                found.add(cell)
                waiting.append(cell)
    return found


def on_rings(sheet, rows):
    """The addresses of the cells that lie on a ring."""
    return [address for address in sheet.addresses(rows) if address in hanging(sheet, rows, address)]


def values(sheet, rows, contents):
    rings = set(on_rings(sheet, rows))
    known = {}

    def value(address):
        if address not in known:
            if address in rings or hanging(sheet, rows, address) & rings:
                known[address] = "#ring"
            else:
                known[address] = worked(sheet.formula_at(address, rows), address)
        return known[address]

    def several(read, address):
        cells = sheet.means(address, read, rows)
        if cells is None:
            return ["#lost"]
        return [value(cell) for cell in cells]

    def errors(found):
        return [one for one in found if isinstance(one, str)]

    def worked(formula, address):
        word = formula[0]
        if word == "number":
            return formula[1]
        if word == "empty":
            return None
        if word == "input":
            return contents.get(address)
        if is_name(formula):
            return (several(formula, address) + [None])[0]
        if word in ("total", "many", "top", "low"):
            found = several(formula[1], address)
            return errors(found)[0] if errors(found) else gathered(word, found)
        if word == "case":
            return chosen(formula, address)
        inner = formula[1] if word in ("sum", "most", "least") else [part for part in formula[1:] if part != formula[0]]
        if word == "times":
            inner = [formula[2]]
        found = []
        for part in inner:
            found.append(worked(part, address))
            if isinstance(found[-1], str):
                return found[-1]
        if word == "times":
            return formula[1] * (found[0] or 0)
        if word == "over":
            return "#zero" if not found[1] else (found[0] or 0) // found[1]
        return gathered(word, found)

    def gathered(word, found):
        there = [one for one in found if one is not None]
        if word in ("sum", "total"):
            return sum(there)
        if word == "many":
            return len(there)
        if not there:
            return None
        return max(there) if word in ("most", "top") else min(there)

    def chosen(formula, address):
        one = worked(formula[1], address)
        if isinstance(one, str):
            return one
        other = worked(formula[3], address)
        if isinstance(other, str):
            return other
        one, other = one or 0, other or 0
        holds = {"=": one == other, "<>": one != other, "<": one < other, "<=": one <= other, ">": one > other,
                 ">=": one >= other}[formula[2]]
        return worked(formula[4] if holds else formula[5], address)

    return {address: value(address) for address in sheet.addresses(rows)}
