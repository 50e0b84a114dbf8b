"""[50] graph."""

import unittest

from longsheet.errors import Wrong
from longsheet.formulas import reads
from longsheet.graph import Web, next_from, next_on, web_of
from longsheet.sheets import Sheet
from tests.things import NONE, Draw, cells_of, nested, plain_next, some_values

ENDS = [None] + list(range(-5, 6))


def sheet_of(*bodies, heads=NONE, feet=NONE):
    return Sheet([(heads, body, feet) for body in bodies])


class Making(unittest.TestCase):
    def wrong(self, place, many, edges):
        with self.assertRaises(Wrong) as caught:
            Web(many, edges)
        self.assertEqual(caught.exception.place, place, (many, edges))

    def test_lists_and_tuples(self):
        edges = [(0, 1, -5, 5), (1, 0, None, None), (1, 1, 0, None)]
        self.assertEqual(Web(2, edges), Web(2, tuple(edges)))
        self.assertEqual(Web(2, edges).edges(), edges)
        self.assertEqual(Web(0, []).edges(), [])
        self.assertEqual(Web(0, ()), Web(0, []))

    def test_edges_that_stand_several_times(self):
        web = Web(1, [(0, 0, 1, 1), (0, 0, 0, 0), (0, 0, 1, 1)] * 16)
        self.assertEqual(web.edges(), [(0, 0, 0, 0), (0, 0, 1, 1)])
        self.assertEqual(web, Web(1, [(0, 0, 1, 1), (0, 0, 0, 0)]))

    def test_what_was_passed_is_changed_later(self):
        edges = [(0, 0, 1, 1)]
        web = Web(1, edges)
        edges[0] = (0, 0, 2, 2)
        edges.append((0, 0, 3, 3))
        self.assertEqual(web.edges(), [(0, 0, 1, 1)])
        told = web.edges()
        told.clear()
        self.assertEqual(web.edges(), [(0, 0, 1, 1)])

    def test_wrong_number_of_columns(self):
        for many in [thing for thing in some_values() if thing not in (0, 1, 7) or isinstance(thing, bool)] + [9, -1]:
            self.wrong(0, many, [])
            self.wrong(0, many, None)
            self.wrong(0, many, [(0, 0, 0, True)])
        for many in range(9):
            self.assertEqual(len(Web(many, [])), many)

    def test_wrong_edges(self):
        for edges in some_values() + [nested(30), [None], [(0, 0, 0, 0), None], "0000", {(0, 0, 0, 0)}, {(0, 0, 0, 0): 1}]:
            if edges not in ([], ()):
                self.wrong(1, 2, edges)
        self.wrong(1, 2, [(0, 0, 0, 0)] * 49)
        self.assertEqual(len(Web(2, [(0, 0, 0, 0)] * 48).edges()), 1)
        self.assertEqual(len(Web(2, ((0, 0, 0, 0),) * 48).edges()), 1)

    def test_wrong_in_one_thing(self):
        for edge in ([0, 0, 0, 0], (0, 0, 0), (0, 0, 0, 0, 0), (2, 0, 0, 0), (0, 2, 0, 0), (-1, 0, 0, 0), (0, -1, 0, 0),
                     (True, 0, 0, 0), (0, False, 0, 0), (0, 0, True, 1), (0, 0, 0, True), (0, 0, 1, 0), (0, 0, 6, 6),
                     (0, 0, -6, 0), (0, 0, 0, 6), (0, 0, None, 6), (0, 0, -6, None), (None, 0, 0, 0), (0, None, 0, 0),
                     (0, 0, "0", 0), (0, 0, 0, ()), ("0", 0, 0, 0), (0, 0, 5, -5), ((0,), 0, 0, 0)):
            self.wrong(1, 2, [edge])
            self.wrong(1, 2, [(0, 0, 0, 0), edge])
        self.wrong(1, 0, [(0, 0, 0, 0)])

    def test_ends(self):
        for low in ENDS:
            for high in ENDS:
                if low is None or high is None or low <= high:
                    self.assertEqual(Web(1, [(0, 0, low, high)]).edges(), [(0, 0, low, high)])
                else:
                    self.wrong(1, 1, [(0, 0, low, high)])


class Asking(unittest.TestCase):
    def test_order_of_edges(self):
        ordered = [(0, 0, None, 0), (0, 0, None, 4), (0, 0, None, None), (0, 0, -5, -5), (0, 0, -5, 0), (0, 0, -5, None),
                   (0, 0, 0, 0), (0, 0, 0, 5), (0, 0, 0, None), (0, 1, None, None), (0, 1, 0, 0), (1, 0, 3, 3),
                   (1, 1, None, None), (1, 1, -1, None), (7, 0, 0, 0)]
        draw = Draw(50)
        for _ in range(20):
            mixed = list(ordered)
            draw.random.shuffle(mixed)
            self.assertEqual(Web(8, mixed).edges(), ordered)

    def test_equality(self):
        web = Web(2, [(0, 1, 1, 1), (1, 0, None, 2)])
        self.assertIs(web == Web(2, [(1, 0, None, 2), (0, 1, 1, 1), (0, 1, 1, 1)]), True)
        self.assertIs(web != Web(2, [(1, 0, None, 2), (0, 1, 1, 1)]), False)
        for thing in some_values() + [Web(3, web.edges()), Web(2, [(0, 1, 1, 1)]), Web(2, [(0, 1, 1, 1), (1, 0, 2, 2)]),
                                      web.edges(), (2, web.edges()), Sheet([(NONE, NONE, NONE)] * 2), ~web]:
            self.assertIs(web == thing, False)
            self.assertIs(web != thing, True)
        self.assertIs(Web(0, []) == Sheet([]), False)
        self.assertIs(Web(3, []) == Web(2, []), False)

    def test_upside_down(self):
        web = Web(3, [(0, 1, 1, 3), (1, 0, None, -2), (2, 2, 0, None), (1, 1, None, None), (2, 0, -5, -5)])
        self.assertEqual((~web).edges(), [(0, 1, -3, -1), (1, 0, 2, None), (1, 1, None, None), (2, 0, 5, 5),
                                          (2, 2, None, 0)])
        self.assertEqual(len(~web), 3)
        draw = Draw(51)
        for _ in range(100):
            web = draw.web()
            kept = web.edges()
            self.assertEqual(~~web, web)
            self.assertEqual(web.edges(), kept)
            for cell in cells_of(web, 4):
                told = next_on(~web, 4, (cell[0], 3 - cell[1]))
                self.assertEqual(sorted((column, 3 - row) for column, row in told), next_on(web, 4, cell))


class WebOf(unittest.TestCase):
    def test_names_and_ranges(self):
        body = ("sum", (("name", ("by", 1), ("by", -2)), ("name", ("at", 0), ("by", 5)), ("total", ("rows", ("by", 0), -1, 3)),
                        ("low", ("rows", ("at", 1), None, 0)), ("over", ("name", ("by", 1), ("by", -2)), ("number", 2))))
        self.assertEqual(web_of(sheet_of(body, NONE)), Web(2, [(0, 1, -2, -2), (0, 0, 5, 5), (0, 0, -1, 3), (0, 1, None, 0)]))

    def test_what_leads_to_no_body_cells(self):
        for read in (("name", ("by", 0), ("head",)), ("name", ("lost",), ("by", 0)), ("name", ("by", 1), ("by", 0)),
                     ("name", ("by", -1), ("by", 0)), ("name", ("at", 1), ("by", 0))):
            self.assertEqual(web_of(sheet_of(read)), Web(1, []))
        for read in (("rows", ("by", 0), 1, 0), ("rows", ("by", 0), 5, -5), ("rows", ("lost",), None, None),
                     ("rows", ("by", 1), None, None), ("rows", ("at", 1), 0, 0), ("rows", ("by", -1), 0, 0)):
            self.assertEqual(web_of(sheet_of(("many", read))), Web(1, []))
        for read in (("rows", ("by", 0), 0, 0), ("rows", ("by", 0), None, -5), ("rows", ("at", 0), 5, None)):
            self.assertEqual(web_of(sheet_of(("many", read))).edges(), [(0, 0) + read[2:]])

    def test_heads_and_feet_tell_nothing(self):
        head, foot = ("name", ("by", 0), ("head",)), ("sum", (("name", ("by", 0), ("last", 1)),
                                                              ("total", ("rows", ("by", 0), None, None))))
        self.assertEqual(web_of(sheet_of(("input",), NONE, heads=head, feet=foot)), Web(2, []))
        self.assertEqual(web_of(Sheet([])), Web(0, []))

    def test_in_all_parts_of_a_case(self):
        names = [("name", ("by", 0), ("by", distance)) for distance in range(4)]
        case = ("case", names[0], "=", names[1], names[2], names[3])
        self.assertEqual(web_of(sheet_of(case)), Web(1, [(0, 0, distance, distance) for distance in range(4)]))

    def test_hangs_next_as_the_sheet_means(self):
        draw = Draw(52)
        for _ in range(80):
            sheet = draw.sheet()
            web = web_of(sheet)
            self.assertEqual(len(web), len(sheet))
            for column, row in cells_of(web, 4):
                told = []
                for read in reads(sheet[column][1]):
                    told += [cell for cell in sheet.means((column, row), read, 4) or [] if cell[1] >= 0]
                self.assertEqual(next_on(web, 4, (column, row)), sorted(set(told)))

    def test_sheets_beyond_the_bounds(self):
        names = tuple(("name", ("at", column), ("by", -9)) for column in range(9))
        web = web_of(sheet_of(*[("sum", names)] * 9))
        self.assertEqual([len(web), len(web.edges()), (~web).edges()[80]], [9, 81, (8, 8, 9, 9)])
        self.assertEqual(~~web, web)


class HangingNext(unittest.TestCase):
    def test_no_rows_left(self):
        web = Web(2, [(0, 1, 1, 1), (1, 0, -5, 5)])
        self.assertEqual(next_on(web, 1, (0, 0)), [])
        self.assertEqual(next_on(web, 1, (1, 0)), [(0, 0)])
        self.assertEqual(next_from(web, 1, (0, 0)), [(1, 0)])
        self.assertEqual(next_from(web, 1, (1, 0)), [])

    def test_ends_that_are_none(self):
        for low, high, told in ((None, None, range(30)), (None, 0, range(11)), (None, -5, range(6)), (None, 5, range(16)),
                                (0, None, range(10, 30)), (5, None, range(15, 30)), (-5, None, range(5, 30)),
                                (-2, 2, range(8, 13))):
            web = Web(2, [(0, 1, low, high)])
            self.assertEqual(next_on(web, 30, (0, 10)), [(1, row) for row in told])
            self.assertEqual(next_on(web, 30, (1, 10)), [])
            self.assertEqual(next_from(web, 30, (0, 10)), [])
            for row in range(30):
                self.assertEqual((0, 10) in next_from(web, 30, (1, row)), row in told)

    def test_drawn(self):
        draw = Draw(53)
        for _ in range(80):
            web = draw.web(4)
            for rows in (1, 5, 30)[:2 if len(web) > 2 else 3]:
                led = {cell: plain_next(web, rows, cell) for cell in cells_of(web, rows)}
                for cell in led:
                    self.assertEqual(next_on(web, rows, cell), led[cell])
                    self.assertEqual(next_from(web, rows, cell), [other for other in led if cell in led[other]])
                    self.assertIsNot(next_on(web, rows, cell), next_on(web, rows, cell))


if __name__ == "__main__":
    unittest.main()
