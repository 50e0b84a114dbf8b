"""What several tests need: values of all kinds, and drawn formulas, sheets and Webs."""

import random

from longsheet.book import Book
from longsheet.formulas import GATHERING, SIGNS
from longsheet.graph import Web
from longsheet.sheets import Sheet
from longsheet.spans import Spans

FAR = 10 ** 12
NONE = ("empty",)


def some_values():
    """Values of kinds that are told nowhere as right but for a few plain ones."""
    return [
        None, True, False, 0, 1, -1, 7, 10 ** 59, -(10 ** 59), "", "a", "name", "head", "empty", "#lost", "#nothing",
        "input", "down", "=", b"", b"name", (), [], {}, set(), {1}, {0: 0}, {True: 0}, {"a": [1]}, [[]], [()], ((),),
        (0,), (0, 0), [0, 0], (True, 0), (0, True), (0, None), ("name",), ("number",), ("number", True), ["empty"],
        (None, None), ([], []), [(0, 0)], [[0, 0]], [(0, 0), (0, 0)], (1, {0: 0}), (1, {}), [(1, {})], [([0], 0, {0: 0})],
        Web(0, []), Web(1, [(0, 0, 0, 0)]), Sheet([]), Sheet([(NONE, NONE, NONE)]), frozenset([1]), (1, 2, 3), range(3),
        ("empty", "empty"), (("empty",),), [("empty",)], ("sum", [("empty",)]), ("input",), 10 ** 12, 10 ** 12 + 1,
    ]


def more_values():
    """Values of more kinds: those of books and of lots and their like."""
    return some_values() + [
        Book(Sheet([])), Spans([]), Spans([(1, 2)]), (Spans([]), False, ()), (Spans([(None, None)]), True, ("#lost",)),
        ("rows", 1), ("value", (0, 0), 1), ("strike", 0), [("rows", 1)], (1, 2), [(1, 2)], ((None, 3),), ("empty", 0),
        ("asks", ("name", ("at", 0), ("by", 0)), "=", 0), ("all", ()), [("any", ())], ("not", ("empty", 7)), {0: None},
    ]


def nested(depth):
    """A value so deep."""
    thing = ("sum", ())
    for turn in range(depth):
        thing = [thing] if turn % 2 else (thing,)
    return thing


class Draw:
    """Draws things by a seed."""

    def __init__(self, seed):
        self.random = random.Random(seed)

    def one(self, things):
        return self.random.choice(things)

    def number(self, low, high):
        return self.random.randint(low, high)

    def column_part(self, far=3):
        kind = self.number(0, 9)
        if kind == 0:
            return ("lost",)
        if kind < 4:
            return ("at", self.number(0, far))
        return ("by", self.number(-far, far))

    def read(self, place, ranges, far=3):
        """A name or range that fits; place None takes all sorts of rows."""
        column = self.column_part(far)
        if ranges and place != "head":
            ends = (None,) if place == "foot" else (None, -5, -2, -1, 0, 1, 3, 5)
            return ("rows", column, self.one(ends), self.one(ends))
        rows = {"head": [("head",)], "body": [("head",), ("by", self.number(-5, 5)), ("by", self.number(-1, 1))],
                "foot": [("head",), ("foot",), ("last", self.number(0, 5))]}
        rows[None] = rows["body"] + rows["foot"]
        return ("name", column, self.one(rows[place]))

    def formula(self, place, deep=3, inputs=False, far=3):
        """A formula that fits a place; place None and inputs bring others, too."""
        kinds = ["number", "empty", "name", "name"]
        if place != "head":
            kinds += ["total", "many", "top", "low"]
        if inputs:
            kinds.append("input")
        if deep > 0:
            kinds += ["sum", "most", "least", "times", "over", "case"]
        kind = self.one(kinds)
        if kind in ("empty", "input"):
            return (kind,)
        if kind == "number":
            return ("number", self.one([0, 1, -1, 12, FAR, -FAR, self.number(-9, 9)]))
        if kind == "name":
            return self.read(place, False, far)
        if kind in ("total", "many", "top", "low"):
            return (kind, self.read(place, True, far))
        inner = [self.formula(place, deep - 1, inputs, far) for _ in range(4)]
        if kind in GATHERING:
            return (kind, tuple(inner[:self.number(0, 3)]))
        if kind == "times":
            return (kind, self.number(-3, 3), inner[0])
        if kind == "over":
            return (kind, inner[0], inner[1])
        return (kind, inner[0], self.one(SIGNS), inner[1], inner[2], inner[3])

    def sheet(self, most=4, deep=2):
        """A sheet with inputs, of columns that read each other."""
        columns = []
        many = self.number(0, most)
        for _ in range(many):
            column = [self.formula(place, deep, False, max(1, many - 1)) for place in ("head", "body", "foot")]
            for at in (0, 1):
                if self.number(0, 2) == 0:
                    column[at] = ("input",)
            columns.append(tuple(column))
        return Sheet(columns)

    def contents(self, sheet, rows, others=False):
        """Numbers for some of the inputs, in any order; others brings keys that mean nothing."""
        found = {}
        inputs = sheet.inputs(rows)
        self.random.shuffle(inputs)
        for address in inputs:
            if self.number(0, 3):
                found[address] = self.one([0, 1, -1, FAR, -FAR, self.number(-9, 9), self.number(-99, 99)])
        if others:
            for address in sheet.addresses(rows + 1) + [(len(sheet), 0)]:
                if address not in inputs and self.number(0, 2) == 0:
                    found[address] = self.number(-9, 9)
        return found

    def linear_formula(self, place, reads, deep=2):
        """A linear formula that is no input, of reads that are drawn by a call."""
        kind = self.one(["number", "empty", "read", "read", "read"] + ["sum", "sum", "times"] * min(deep, 1))
        if kind == "number":
            return ("number", self.number(-5, 5))
        if kind == "empty":
            return ("empty",)
        if kind == "read":
            read = reads()
            return read if read[0] == "name" else ("total", read)
        if kind == "times":
            return ("times", self.number(-3, 3), self.linear_formula(place, reads, deep - 1))
        return ("sum", tuple([self.linear_formula(place, reads, deep - 1) for _ in range(self.number(0, 3))]))

    def linear_sheet(self, most=4):
        """A sheet of linear formulas without lost names, with inputs, perhaps with rings."""
        many = self.number(1, most)
        leans = self.one([0, 1, 2])
        columns = []
        for column in range(many):
            found = []
            for place in ("head", "body", "foot"):
                found.append(self.linear_formula(place, lambda: self.linear_read(place, column, many, leans)))
            for at in (0, 1):
                if self.number(0, 2) == 0:
                    found[at] = ("input",)
            columns.append(tuple(found))
        return Sheet(columns)

    def linear_read(self, place, column, many, leans):
        there = self.number(0, many - 1)
        if leans and (place != "body" or leans == 2):
            # To columns ahead alone, if there are any: no ring comes of these.
            there = self.number(0, max(0, column - 1))
        part = self.one([("at", there), ("by", there - column)])
        if place == "head":
            return ("name", part, ("head",))
        if place == "foot":
            kinds = [("head",), ("last", self.number(0, 3))] + ([("foot",)] if there < column else [])
            return self.one([("name", part, self.one(kinds)), ("rows", part, None, None)])
        d = self.number(-3, 3 if leans == 2 and there < column else -1)
        ends = (None, d) if self.number(0, 1) else (d - 1, d)
        return self.one([("name", part, self.one([("head",), ("by", d), ("by", d)])), ("rows", part) + ends])

    def rising_sheet(self, most=4):
        """A rising sheet: each column reads those ahead of it in its row, and all in the rows above."""
        many = self.number(1, most)
        order = list(range(many))
        self.random.shuffle(order)
        columns = [None] * many
        for at, column in enumerate(order):
            def read():
                there = order[self.number(0, many - 1)]
                top = 0 if there in order[:at] else -1
                part = self.one([("at", there), ("by", there - column)])
                d = self.number(-3, top)
                low = self.one([None, None, d, -3, -1, 1])
                return self.one([("name", part, ("by", d)), ("name", part, ("by", d)), ("name", part, ("head",)),
                                 ("rows", part, low, d)])
            body = ("input",) if self.number(0, 3) == 0 else self.linear_formula("body", read)
            columns[column] = (self.one([NONE, ("input",), ("over", NONE, NONE)]), body, NONE)
        return Sheet(columns)

    def flows(self, sheet, most=61):
        heads = {column: self.number(-9, 9) for column in range(len(sheet)) if self.number(0, 2)}
        lists = {}
        for column in range(len(sheet)):
            if sheet[column][1] == ("input",) and self.number(0, 4):
                many = self.one([1, min(2, most), min(3, most), most, self.number(1, most)])
                lists[column] = [self.number(-9, 9) for _ in range(many)]
        return (heads, lists)

    def edit(self, sheet, rows):
        """An edit; now and then one that can't be done."""
        word = self.one(["rows", "value", "value", "set", "put", "strike", "move", "exchange", "copy"])
        many = len(sheet)
        at, to = self.number(-(self.number(0, 9) == 0), many), self.number(0, max(0, many - 1))
        if word == "rows":
            return (word, self.number(0, 5))
        if word == "value":
            inputs = sheet.inputs(rows)
            address = self.one(inputs) if inputs and self.number(0, 5) else (self.number(0, 3), self.number(-1, rows))
            return (word, address, self.one([None, 0, self.number(-9, 9), FAR]))
        if word == "set":
            place = self.one(["head", "body", "foot"])
            formula = ("input",) if self.number(0, 3) == 0 else self.formula(place, 2, False, max(1, many - 1))
            return (word, at, place, formula)
        if word == "put":
            column = [self.formula(place, 2, False, max(1, many)) for place in ("head", "body", "foot")]
            if self.number(0, 1):
                column[1] = ("input",)
            return (word, at, tuple(column))
        if word == "strike":
            return (word, at)
        return (word, at, to, self.number(1, 2)) if word == "copy" else (word, at, to)

    def spans(self, far=20):
        """Spans of a few stretches, some without an end."""
        pairs = []
        for _ in range(self.number(0, 4)):
            low = self.number(-far, far)
            pairs.append((low, low + self.one([0, 0, 1, 2, self.number(0, far)])))
        if self.number(0, 3) == 0:
            pairs.append((None, self.number(-far, far)))
        if self.number(0, 3) == 0:
            pairs.append((self.number(-far, far), None))
        return Spans(pairs)

    def lot(self, far=20):
        errors = [error for error in ("#lost", "#ring", "#zero") if self.number(0, 1)]
        return (self.spans(far), self.one([True, False]), tuple(errors))

    def formula_of(self, read, deep=3, spread=9):
        """A formula that reads a name just once, and nothing else."""
        if deep == 0 or self.number(0, 5) == 0:
            return read
        inner = self.formula_of(read, deep - 1, spread)
        others = [("number", self.number(-spread, spread)) for _ in range(3)]
        kind = self.one(["sum", "most", "least", "times", "over", "over", "case", "case"])
        if self.number(0, 5) == 0:
            others[0] = self.one([NONE, ("over", NONE, NONE), ("sum", ()), ("most", ()), ("number", 0)])
        if kind in GATHERING:
            formulas = [inner] + others[:self.number(0, 2)]
            self.random.shuffle(formulas)
            return (kind, tuple(formulas))
        if kind == "times":
            return (kind, self.number(-3, 3), inner)
        if kind == "over":
            return (kind,) + self.one([(inner, others[0]), (others[0], inner), (others[1], inner)])
        at = self.number(0, 3)
        told = others[:at] + [inner] + others[at:]
        return (kind, told[0], self.one(SIGNS)) + tuple(told[1:])

    def test(self, column, spread=9):
        """A test that asks a column."""
        if self.number(0, 5) == 0:
            return ("empty", column)
        formula = self.formula_of(("name", ("at", column), ("by", 0)), self.number(0, 3), spread)
        return ("asks", formula, self.one(SIGNS), self.number(-spread, spread))

    def check(self, tests, deep=2):
        """A check that is made of some of these tests."""
        kind = self.number(0, 5)
        if not tests or (kind == 0 and deep > 0):
            return (self.one(["all", "any"]), ())
        if deep == 0 or kind < 3:
            return self.one(tests)
        if kind == 3:
            return ("not", self.check(tests, deep - 1))
        inner = [self.check(tests, deep - 1) for _ in range(self.number(1, 3))]
        return (self.one(["all", "any"]), tuple(inner))

    def checks(self, columns, most=4, each=2):
        """A list of checks that ask some columns, each by a few tests."""
        tests = [self.test(column) for column in columns for _ in range(self.number(0, each))]
        return [self.check(tests) for _ in range(self.number(0, most))]

    def input_sheet(self, most=3):
        """A sheet with some input columns, and others that divide."""
        columns = []
        many = self.number(1, most)
        for column in range(many):
            there = self.number(0, many - 1)
            read = ("name", self.one([("at", there), ("by", there - column)]), ("by", 0))
            body = ("input",) if self.number(0, 3) else self.formula_of(read, 2)
            columns.append((self.one([NONE, ("input",)]), body, NONE))
        return Sheet(columns)

    def end(self, spread=5):
        return self.one([None, self.number(-spread, spread), self.number(-spread, spread)])

    def edge(self, many):
        here, there = self.number(0, many - 1), self.number(0, many - 1)
        spread = self.one([1, 2, 5])
        low = self.number(-spread, spread)
        kind = self.number(0, 9)
        if kind < 6:
            return (here, there, low, low)
        high = self.number(low, spread)
        return (here, there, None if kind == 9 else low, None if kind == 8 else high)

    def leaning_edge(self, many, lean):
        """An edge along which lean tells the way: most of such Webs have no rings."""
        here, there = self.number(0, many - 1), self.number(0, many - 1)
        low = high = here - there + lean * self.number(1, 2)
        if lean < 0 and self.number(0, 4) == 0:
            low = None
        if lean > 0 and self.number(0, 4) == 0:
            high = None
        within = [end is None or -5 <= end <= 5 for end in (low, high)]
        return (here, there, low, high) if all(within) else (here, here, lean, lean)

    def web(self, most=8):
        """A Web with or without rings, with loops that go up, or down, or both."""
        many = self.number(0, most)
        if many == 0:
            return Web(0, [])
        edges = self.number(0, self.one([3, 8, 16, 48]))
        kind = self.number(0, 3)
        if kind == 0:
            return Web(many, [self.edge(many) for _ in range(edges)])
        if kind == 3:
            return self.thin_web()
        if kind == 1:
            lean = self.one([-1, 1])
            return Web(many, [self.leaning_edge(many, lean) for _ in range(edges)])
        return self.tiered_web(many, edges)

    def thin_web(self):
        """A Web of few edges, of which many have a ring, but not at one row."""
        many = self.one([1, 1, 2, 3])
        ends = [self.one([-5, -3, -2, -1, 1, 2, 4]) for _ in range(self.number(2, 5))]
        return Web(many, [(self.number(0, many - 1), self.number(0, many - 1), end, end) for end in ends])

    def tiered_web(self, many, edges):
        """A Web without rings, of columns that go up, or down, or stand alone, and read columns ahead of them."""
        order = list(range(many))
        self.random.shuffle(order)
        found = []
        for at, here in enumerate(order):
            kind = self.number(0, 2)
            if kind < 2:
                found.append((here, here, -1, -1) if kind == 0 else (here, here, 1, 2))
            if at > 0:
                for _ in range(max(1, edges // many)):
                    low = self.number(-3, 3)
                    ends = self.one([(low, low), (None, low), (low, None), (low, low + 1)])
                    found.append((here, order[self.number(0, at - 1)]) + ends)
        return Web(many, found[:48])


def cells_of(web, rows):
    return [(column, row) for column in range(len(web)) for row in range(rows)]


def plain_next(web, rows, cell):
    """The cells on which a cell hangs next, each one asked by itself."""
    found = []
    for other in cells_of(web, rows):
        for here, there, low, high in web.edges():
            distance = other[1] - cell[1]
            if (here, there) == (cell[0], other[0]) and (low is None or low <= distance):
                if (high is None or distance <= high) and other not in found:
                    found.append(other)
    return found


def plain_ringed(web, rows):
    """The cells that are left when those without a next one are taken out, again and again."""
    left = cells_of(web, rows)
    following = {cell: set(plain_next(web, rows, cell)) for cell in left}
    while True:
        kept = [cell for cell in left if following[cell] & set(left)]
        if kept == left:
            return left
        left = kept


def plain_shortest(web, rows, start, goal):
    """The number of cells of a shortest walk of at least two cells, or None."""
    reached, many = {start}, 1
    while many <= len(web) * rows:
        many += 1
        reached = {other for cell in reached for other in plain_next(web, rows, cell)}
        if goal in reached:
            return many
    return None
