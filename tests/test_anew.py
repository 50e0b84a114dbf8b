"""[82] anew: what a change reaches, and values that are kept up."""

import unittest

from longsheet.anew import Live, changed, reached
from longsheet.errors import NoCell, NoInput, Wrong
from longsheet.reckoning import hanging, next_cells, values
from longsheet.sheets import Sheet
from tests.test_reckoning import sheet_of
from tests.things import FAR, NONE, Draw, nested, some_values

# The balance of what is paid in, row by row, and what lies on a ring or hangs on one.
PAID = sheet_of("input | sum(.[-1], >1[0]) | . last 0", "empty | input | total(.[:])",
                "sum(. head, $0 head) | sum(<1[0], . head) | 7")


def told(live, sheet, rows):
    return {address: live.value(address) for address in sheet.addresses(rows)}


class Reached(unittest.TestCase):
    def test_drawn(self):
        draw = Draw(820)
        for _ in range(80):
            sheet, rows = draw.sheet(), draw.number(0, 3)
            hung = {address: hanging(sheet, rows, address) for address in sheet.addresses(rows)}
            for address in hung:
                self.assertEqual(reached(sheet, rows, address), [one for one in hung if address in hung[one] or one == address])

    def test_changed(self):
        draw = Draw(821)
        for _ in range(80):
            sheet, rows = draw.sheet(), draw.number(0, 3)
            contents, later = draw.contents(sheet, rows, True), draw.contents(sheet, rows)
            one, other = values(sheet, rows, contents), values(sheet, rows, later)
            self.assertEqual(changed(sheet, rows, contents, later), [at for at in one if one[at] != other[at]])
            self.assertEqual(changed(sheet, rows, contents, contents), [])

    def test_empty_and_nought(self):
        sheet = sheet_of("input | sum(. head, 0) | . head")
        self.assertEqual(changed(sheet, 1, {}, {(0, -1): 0}), [(0, -1), (0, 1)])
        self.assertEqual(reached(sheet, 1, (0, -1)), [(0, -1), (0, 0), (0, 1)])
        self.assertEqual(reached(sheet, 0, (0, 0)), [(0, 0)])


class Lives(unittest.TestCase):
    def test_wrong(self):
        bad = [thing for thing in some_values() if not isinstance(thing, Sheet)]
        for sheet in bad + [nested(30)]:
            for rows in (0, -1):
                with self.assertRaises(Wrong) as caught:
                    Live(sheet, rows, None)
                self.assertEqual(caught.exception.place, 0)
        for rows in [thing for thing in some_values() if not (type(thing) is int and thing >= 0)] + [nested(30), -(10 ** 59)]:
            with self.assertRaises(Wrong) as caught:
                Live(PAID, rows, None)
            self.assertEqual(caught.exception.place, 1)
        for contents in [thing for thing in some_values() if thing != {} or not isinstance(thing, dict)] + [
                {(0, 0): 1}, {(1, 0): True}, {(1, 0): FAR + 1}, {(1, 2): 1}, {(1, 0): None}, {(True, 0): 1},
                {(0, -1): 1, (1, -1): 2}]:
            with self.assertRaises(Wrong) as caught:
                Live(PAID, 2, contents)
            self.assertEqual(caught.exception.place, 2)

    def test_contents_that_are_changed_later(self):
        contents = {(1, 1): 4, (0, -1): 10}
        live = Live(PAID, 2, contents)
        contents[(1, 0)] = 99
        contents[(1, 1)] = 98
        self.assertEqual([live.value((0, 2)), list(live.contents().items())], [14, [((0, -1), 10), ((1, 1), 4)]])
        live.contents()[(1, 0)] = 5
        live.worked().append(1)
        self.assertEqual([live.contents(), live.worked(), live.put((1, 0), 5)],
                         [{(0, -1): 10, (1, 1): 4}, [], [(0, 0), (0, 1), (0, 2), (1, 0), (1, 2)]])

    def test_put(self):
        live = Live(PAID, 2, {})
        self.assertEqual(live.worked(), [])
        # The cells of column 2 stay "#ring", but are worked out.
        self.assertEqual(live.put((1, 0), 3), [(0, 0), (0, 1), (0, 2), (1, 0), (1, 2)])
        self.assertEqual(live.worked(), [(0, 0), (0, 1), (0, 2), (1, 2), (2, 0)])
        self.assertEqual([live.put((1, 0), 3), live.worked(), live.contents()], [[], [], {(1, 0): 3}])
        self.assertEqual([live.put((1, 1), 0), live.worked()], [[(1, 1)], [(0, 1), (1, 2), (2, 1)]])
        self.assertEqual([live.put((1, 0), None), live.contents(), live.worked()],
                         [[(0, 0), (0, 1), (0, 2), (1, 0), (1, 2)], {(1, 1): 0}, [(0, 0), (0, 1), (0, 2), (1, 2), (2, 0)]])
        self.assertEqual([live.put((1, 0), None), live.worked()], [[], []])
        self.assertEqual([live.put((0, -1), FAR), live.value((0, 2)), live.worked()],
                         [[(0, -1), (0, 0), (0, 1), (0, 2)], FAR, [(0, 0), (0, 1), (0, 2), (2, -1)]])
        self.assertEqual([live.put((0, -1), -FAR), live.value((0, -1))], [[(0, -1), (0, 0), (0, 1), (0, 2)], -FAR])

    def test_refused(self):
        live = Live(PAID, 2, {(1, 0): 3})
        live.put((1, 1), 5)
        kept = [live.worked(), live.contents(), told(live, PAID, 2)]
        for address in some_values() + [(0, 0), (1, 2), (1, -1), (2, 0), (3, 0), (1, 3), (1, True), (True, 0), (0, -2), [1, 0],
                                        nested(30)]:
            for number in (1, True):
                with self.assertRaises(NoInput) as caught:
                    live.put(address, number)
                self.assertEqual(caught.exception.address, address)
        for number in [thing for thing in some_values() if not (thing is None or type(thing) is int and abs(thing) <= FAR)] + [FAR + 1, -FAR - 1]:
            with self.assertRaises(Wrong) as caught:
                live.put((1, 0), number)
            self.assertEqual(caught.exception.place, 1)
        for address in some_values() + [(3, 0), (-1, 0), (0, 3), (0, -2), (True, 0), (0, False), [0, 0], (0, 0, 0), nested(30)]:
            if not (isinstance(address, tuple) and address == (0, 0) and address[1] is not False):
                with self.assertRaises(NoCell) as caught:
                    live.value(address)
                self.assertEqual(caught.exception.address, address)
        self.assertEqual([live.worked(), live.contents(), told(live, PAID, 2)], kept)
        self.assertIs(type(live.value((0, 0))), int)

    def test_drawn(self):
        draw = Draw(822)
        puts = 0
        for _ in range(120):
            sheet, rows = draw.sheet(), draw.number(0, 4)
            contents = draw.contents(sheet, rows)
            live = Live(sheet, rows, contents)
            for _ in range(5 if sheet.inputs(rows) else 0):
                address = draw.one(sheet.inputs(rows))
                number = draw.one([None, 0, draw.number(-9, 9), contents.get(address)])
                later = {key: contents[key] for key in contents if key != address}
                if number is not None:
                    later[address] = number
                unlike = changed(sheet, rows, contents, later)
                self.assertEqual(live.put(address, number), unlike)
                self.assertEqual(live.worked(), [one for one in sheet.addresses(rows)
                                                 if set(next_cells(sheet, rows, one)) & set(unlike)])
                self.assertEqual(told(live, sheet, rows), values(sheet, rows, later))
                self.assertTrue(set(unlike) <= set(reached(sheet, rows, address)))
                contents = later
                self.assertEqual(list(live.contents().items()), sorted(contents.items()))
                puts += 1
        self.assertGreater(puts, 200)

    def test_two_at_two_numbers_of_rows_by_turns(self):
        few, more = Live(PAID, 1, {}), Live(PAID, 3, {})
        self.assertEqual([few.put((1, 0), 5), more.put((1, 2), 7), few.value((0, 1)), more.value((0, 3)), few.contents()],
                         [[(0, 0), (0, 1), (1, 0), (1, 1)], [(0, 2), (0, 3), (1, 2), (1, 3)], 5, 7, {(1, 0): 5}])
        with self.assertRaises(NoInput):
            few.put((1, 2), 1)

    def test_no_columns(self):
        live = Live(Sheet([]), 4, {})
        self.assertEqual([live.contents(), live.worked()], [{}, []])
        with self.assertRaises(NoCell):
            live.value((0, 0))
        self.assertEqual(Live(Sheet([(NONE, NONE, NONE)]), 0, {}).value((0, 0)), None)


if __name__ == "__main__":
    unittest.main()
