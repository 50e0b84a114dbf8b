"""The promises of the whole, [5] to [11], through all files, and what books, lots and checks tell by two ways."""

import unittest

from longsheet.anew import Live, changed, reached
from longsheet.asks import entry_at, input_columns
from longsheet.back import back, errors_for, nearest, numbers_for, outcomes
from longsheet.book import Book
from longsheet.chains import leads_once
from longsheet.checks import check_answer
from longsheet.classes import are_like, class_entries, class_entry
from longsheet.desk import Desk
from longsheet.errors import NoGoal, NoPlan, NotLinear, Refused, SheetError
from longsheet.formulas import is_linear, reads
from longsheet.goals import form_at, is_bar, bar, solutions
from longsheet.graph import web_of
from longsheet.levels import level_walk, levels, round_cells, rounds
from longsheet.lots import in_lot, lot_of
from longsheet.notation import read_formula, show_formula
from longsheet.orders import is_plan, is_web_order, order_by, plan
from longsheet.readers import read_cell, read_contents, read_sheet
from longsheet.reckoning import hanging, is_order, on_rings, order_for, value_at, values
from longsheet.rings import first_ring, is_against, against, least_ring, ring_at, ringed
from longsheet.parts import parts, way
from longsheet.safe import outcome, safe_order
from longsheet.sheets import Sheet
from longsheet.slopes import is_slope, slope
from longsheet.spans import Spans
from longsheet.sure import is_kept, is_ready, zero_entry
from longsheet.texts import show_cell, show_contents, show_grid, show_sheet
from longsheet.values import plain
from longsheet.walks import is_walk, is_web_ring
from longsheet.wards import Ward
from longsheet.whatif import first_with, what_if
from tests.test_back import with_number
from tests.test_book import state
from tests.test_safe import drawn_checks
from tests.things import FAR, Draw
from tests.test_ways import reckoned_by, swept


def led_book(draw, sheet, many=8):
    """A Book that some edits have led on."""
    book = Book(sheet, rows=draw.number(0, 4))
    for _ in range(many):
        try:
            if draw.number(0, 4) == 0:
                book.do_all([draw.edit(book.sheet, book.rows) for _ in range(2)])
            else:
                book.do(draw.edit(book.sheet, book.rows))
        except SheetError:
            continue
    return book


def replay(book, log):
    for edit in log:
        if edit == () or isinstance(edit[0], tuple):
            book.do_all(edit)
        else:
            book.do(edit)
    return book


class Books(unittest.TestCase):
    def test_led_by_its_own_log(self):
        draw = Draw(1600)
        for _ in range(100):
            sheet = draw.sheet()
            book = led_book(draw, sheet)
            rows = book.copied()
            while len(rows):
                rows.back()
            self.assertEqual([rows.sheet, rows.contents(), rows.log()], [sheet, {}, []])
            other = replay(Book(sheet, rows=rows.rows), book.log())
            self.assertEqual([other, other.log()], [book, book.log()])
            while len(other):
                self.assertEqual(other.back(), other.copied().again())
            self.assertEqual(other, Book(sheet, rows=rows.rows))

    def test_values_of_a_book(self):
        draw = Draw(1601)
        for _ in range(80):
            book = led_book(draw, draw.sheet())
            sheet, rows, contents = book.sheet, book.rows, book.contents()
            told, live = values(sheet, rows, contents), Live(sheet, rows, contents)
            self.assertEqual({address: book.value(address) for address in told}, told)
            self.assertEqual({address: live.value(address) for address in told}, told)
            inputs = sheet.inputs(rows)
            for address in inputs[:3]:
                number = draw.one([None, 0, draw.number(-9, 9)])
                live.put(address, number)
                book.do(("value", address, number))
                self.assertEqual([live.contents(), [live.value(cell) for cell in told]], [book.contents(), [book.value(cell) for cell in told]])

    def test_texts_there_and_back(self):
        draw = Draw(1602)
        for _ in range(80):
            book = led_book(draw, draw.sheet())
            sheet, rows, contents = book.sheet, book.rows, book.contents()
            text = show_sheet(sheet)
            self.assertEqual([read_sheet(text), show_sheet(read_sheet(text))], [sheet, text])
            text = show_contents(contents)
            self.assertEqual([read_contents(text), show_contents(read_contents(text))], [contents, text])
            for address in sheet.addresses(rows):
                self.assertEqual(read_cell(show_cell(address, rows), rows), address)
            for column in sheet.columns():
                for formula in column:
                    self.assertEqual(read_formula(show_formula(formula)), formula)
            desk = Desk(read_sheet(show_sheet(sheet)))
            desk.execute(f"rows {rows}")
            for line in show_contents(contents).splitlines():
                desk.execute("value " + line)
            self.assertEqual([desk.execute(word) for word in ("sheet", "contents", "grid")],
                             [show_sheet(sheet), show_contents(contents), show_grid(sheet, rows, contents)])
            self.assertEqual(desk.book(), book)

    def test_goals_put_in_by_edits(self):
        draw = Draw(1603)
        reached_goals = 0
        for _ in range(120):
            sheet, rows = draw.linear_sheet(), draw.number(0, 4)
            contents, inputs = draw.contents(sheet, rows), sheet.inputs(rows)
            if not inputs:
                continue
            moving, cell = draw.random.sample(inputs, min(2, len(inputs))), draw.one(sheet.addresses(rows))
            goal = (cell, draw.number(-9, 9))
            try:
                point, steps = solutions(sheet, rows, contents, goal, moving)
            except NotLinear:
                continue
            except NoGoal:
                self.assertIs(is_bar(sheet, rows, contents, goal, moving, bar(sheet, rows, contents, goal, moving)), True)
                continue
            for many in (0, 1, -3):
                numbers = [one + sum(many * step[at] for step in steps) for at, one in enumerate(point)]
                if all(abs(number) <= FAR for number in numbers):
                    book = Book(sheet, rows=rows)
                    book.do_all([("value", address, number) for address, number in contents.items()])
                    book.do_all([("value", address, number) for address, number in zip(moving, numbers)])
                    self.assertEqual(plain(book.value(cell)), goal[1])
                    reached_goals += 1
        self.assertGreater(reached_goals, 60)


class LookedBack(unittest.TestCase):
    """[9]: what a goal tells, put in, leads to the answer, and nothing else does."""

    def test_numbers_put_in(self):
        draw = Draw(1610)
        asked = 0
        for _ in range(200):
            sheet, rows = draw.one([draw.sheet, draw.input_sheet])(), draw.number(1, 3)
            contents = draw.contents(sheet, rows)
            pairs = [(address, cell) for address in sheet.inputs(rows) for cell in sheet.addresses(rows)
                     if leads_once(sheet, rows, address, cell)]
            for address, cell in draw.random.sample(pairs, min(3, len(pairs))):
                value = value_at(sheet, rows, with_number(contents, address, draw.number(-9, 9)), cell)
                told = numbers_for(sheet, rows, contents, address, cell, value)
                live, book = Live(sheet, rows, contents), Book(sheet, rows=rows)
                book.do_all([("value", key, number) for key, number in contents.items()])
                numbers = sorted({number for pair in told for end in pair for number in (end - 1, end, end + 1) if -FAR <= number <= FAR})
                found = what_if(sheet, rows, contents, cell, [address], [[number] for number in numbers])
                for number, one in zip(numbers, found):
                    live.put(address, number)
                    book.do(("value", address, number))
                    self.assertEqual([live.value(cell), book.value(cell)], [one, one])
                    self.assertIs(one == value, number in told, (sheet.columns(), contents, address, cell, number))
                    asked += 1
                near = nearest(sheet, rows, contents, address, cell, value)
                if near is not None and abs(near) < 90 and not isinstance(value, str) and value is not None:
                    self.assertIn(first_with(sheet, rows, contents, (cell, value), address, -abs(near), abs(near)), (near, -near))
        self.assertGreater(asked, 500)

    def test_outcomes_are_all_there_is(self):
        draw = Draw(1611)
        for _ in range(60):
            sheet, rows = draw.input_sheet(), 2
            contents = draw.contents(sheet, rows)
            for address in sheet.inputs(rows)[:2]:
                for cell in [cell for cell in sheet.addresses(rows) if leads_once(sheet, rows, address, cell)][:3]:
                    some = list(errors_for(sheet, rows, contents, address, cell)) + [None, 0, 1, -1]
                    told = outcomes(sheet, rows, contents, address, cell, some)
                    self.assertEqual(sum(spans.many() for spans in told), 2 * FAR + 1)
                    for number in [draw.number(-30, 30) for _ in range(8)]:
                        value = value_at(sheet, rows, with_number(contents, address, number), cell)
                        at = [number in spans for spans in told].index(True)
                        self.assertEqual(at, some.index(value) if value in some else len(some))
                        self.assertIs(in_lot(back(sheet, rows, contents, address, cell, lot_of(value)), number), True)

    def test_against_solutions(self):
        draw = Draw(1612)
        asked = 0
        for _ in range(150):
            sheet, rows = draw.linear_sheet(), draw.number(1, 4)
            contents = draw.contents(sheet, rows)
            for address in sheet.inputs(rows)[:3]:
                for cell in draw.random.sample(sheet.addresses(rows), 3):
                    if not leads_once(sheet, rows, address, cell):
                        continue
                    goal = (cell, plain(value_at(sheet, rows, with_number(contents, address, 5), cell)))
                    point, steps = solutions(sheet, rows, contents, goal, [address])
                    told = numbers_for(sheet, rows, contents, address, cell, goal[1])
                    if steps:
                        self.assertIn(told, (Spans([(-FAR, FAR)]), Spans([])))
                    else:
                        self.assertEqual([told.pairs(), point], [[(5, 5)], [5]])
                        asked += 1
        self.assertGreater(asked, 30)


class Entries(unittest.TestCase):
    def test_alike_entries(self):
        draw = Draw(1620)
        for _ in range(150):
            sheet = draw.input_sheet()
            checks = drawn_checks(draw, sheet, 4) if draw.number(0, 1) else draw.checks(input_columns(sheet))
            order = safe_order(sheet, checks)
            for _ in range(6):
                entry = {column: draw.one([None, 0, 1, draw.number(-20, 20), FAR]) for column in input_columns(sheet)}
                first = class_entry(sheet, checks, entry)
                self.assertIs(are_like(sheet, checks, entry, first), True)
                self.assertEqual([check_answer(check, entry) for check in checks], [check_answer(check, first) for check in checks])
                if order is not None:
                    told = outcome(checks, order, entry)
                    self.assertEqual(told, outcome(checks, order, first))
                    self.assertIs(is_kept(checks, entry), told == ("kept",))
                    self.assertNotEqual(told[0], "broken")
            for entry in class_entries(sheet, checks):
                self.assertEqual(class_entry(sheet, checks, entry), entry)

    def test_protected_columns_never_come_to_zero(self):
        draw = Draw(1621)
        zeros = asked = 0
        for _ in range(500):
            sheet = draw.input_sheet(4)
            checks = drawn_checks(draw, sheet, 4)
            for column in [column for column in range(len(sheet)) if is_ready(sheet, column)]:
                told = zero_entry(sheet, checks, column)
                zeros += told is not None
                for entry in class_entries(sheet, checks) + [told] * (told is not None):
                    for number in (None, 0, 1, -1, 3):
                        some = {at: entry[at] if draw.number(0, 1) else number for at in entry}
                        contents = {(at, 1): value for at, value in some.items() if value is not None}
                        self.assertEqual(entry_at(sheet, contents, 1), some)
                        if told is None and is_kept(checks, some):
                            self.assertNotEqual(value_at(sheet, 2, contents, (column, 1)), "#zero")
                            asked += 1
        self.assertTrue(zeros > 10 and asked > 100, (zeros, asked))

    def test_a_ward_beside_a_book(self):
        draw = Draw(1622)
        kept = refused = 0
        for _ in range(80):
            sheet = draw.input_sheet()
            checks = drawn_checks(draw, sheet, 3)
            if safe_order(sheet, checks) is None:
                continue
            ward, book = Ward(Book(sheet, rows=3), checks), Book(sheet, rows=3)
            for address in sheet.inputs(3) * 2:
                edit = ("value", address, draw.one([None, 0, 1, 5]))
                rows = ward.refusals(edit)
                try:
                    ward.do(edit)
                except Refused as error:
                    self.assertEqual(rows[0], (error.row, error.at))
                    refused += 1
                    continue
                book.do(edit)
                kept += 1
                self.assertEqual([rows, ward.book(), state(ward.book())], [[], book, state(book)])
                for row in range(3):
                    entry = entry_at(book.sheet, book.contents(), row)
                    self.assertTrue(set(entry.values()) <= {None} or is_kept(ward.checks(), entry))
        self.assertTrue(min(kept, refused) > 50, (kept, refused))


class OneWayOrARing(unittest.TestCase):
    """[5] and [6]: slopes or a least ring; one order for all lengths."""

    def test_slopes_or_a_ring(self):
        draw = Draw(1630)
        ringless = 0
        for _ in range(150):
            sheet = led_book(draw, draw.sheet(), 4).sheet
            web, length = web_of(sheet), least_ring(web_of(sheet))
            for part in parts(web):
                told = slope(web, part)
                self.assertIs(told is None, way(web, part) == "ring")
                if told is None:
                    self.assertIs(is_against(web, part, against(web, part)), True)
                else:
                    self.assertIs(is_slope(web, part, told), True)
            for rows in range(7):
                bodies = [cell for cell in on_rings(sheet, rows) if 0 <= cell[1] < rows]
                self.assertIs(bool(bodies), length is not None and rows >= length)
                ring = ring_at(web, rows)
                self.assertIs(ring is None, not bodies)
                if ring is not None:
                    self.assertIs(is_web_ring(web, rows, ring), True)
                self.assertIs(bool(on_rings(sheet, rows)), first_ring(sheet) is not None and rows >= first_ring(sheet))
                self.assertTrue(set(bodies) <= set(ringed(web, rows)))
            ringless += length is None
            if length is not None:
                with self.assertRaises(NoPlan) as caught:
                    plan(web)
                self.assertEqual(caught.exception.length, length)
        self.assertTrue(20 < ringless < 140)

    def test_one_order_behind_edits(self):
        draw = Draw(1631)
        asked = 0
        while asked < 40:
            book = led_book(draw, draw.one([draw.sheet, draw.linear_sheet])(), 5)
            sheet, rows, contents = book.sheet, book.rows, book.contents()
            web, told = web_of(sheet), values(sheet, rows, contents)
            if least_ring(web) is not None or "#ring" in told.values():
                continue
            asked += 1
            self.assertIs(is_plan(web, plan(web)), True)
            self.assertIs(is_web_order(web, rows, order_by(plan(web), rows)), True)
            order = order_for(sheet, rows)
            self.assertIs(is_order(sheet, rows, order), True)
            heads, feet = [[cell for cell in order if cell[1] == row] for row in (-1, rows)]
            for bodies in (order_by(plan(web), rows), swept(web, rows, "down"), swept(web, rows, "up")):
                self.assertEqual(reckoned_by(sheet, rows, contents, heads + bodies + feet), told)
            self.assertEqual({cell: value_at(sheet, rows, contents, cell) for cell in told}, told)
            self.assertEqual({cell: book.value(cell) for cell in told}, told)
            live = Live(sheet, rows, {})
            for address, number in list(contents.items())[::-1]:
                live.put(address, number)
            self.assertEqual({cell: live.value(cell) for cell in told}, told)


class Reach(unittest.TestCase):
    """[7]: a change of one input changes no cell that does not hang on it, and by its weight those that do."""

    def test_by_edits_of_a_book(self):
        draw = Draw(1640)
        for _ in range(100):
            book = led_book(draw, draw.sheet(), 5)
            sheet, rows, contents = book.sheet, book.rows, book.contents()
            told = {cell: book.value(cell) for cell in sheet.addresses(rows)}
            for address in sheet.inputs(rows)[:3]:
                number = draw.one([None, draw.number(-9, 9)])
                book.do(("value", address, number))
                unlike = [cell for cell in told if book.value(cell) != told[cell]]
                self.assertEqual(unlike, changed(sheet, rows, contents, book.contents()))
                self.assertTrue(set(unlike) <= set(reached(sheet, rows, address)))
                self.assertEqual(unlike, Live(sheet, rows, contents).put(address, number))
                book.back()

    def test_by_weights(self):
        draw = Draw(1641)
        weighed = none = 0
        for _ in range(120):
            sheet, rows = draw.linear_sheet(), draw.number(0, 4)
            if not all(is_linear(formula) for column in sheet.columns() for formula in column) or on_rings(sheet, rows):
                continue
            for address in sheet.inputs(rows)[:3]:
                for cell in sheet.addresses(rows):
                    weight = form_at(sheet, rows, cell)[1].get(address, 0)
                    one, other = [value_at(sheet, rows, {address: number}, cell) for number in (3, 4)]
                    self.assertEqual(plain(other) - plain(one), weight)
                    self.assertIs(one != other, weight != 0)
                    self.assertTrue(weight == 0 or cell == address or address in hanging(sheet, rows, cell))
                    weighed, none = weighed + (weight != 0), none + (weight == 0)
        self.assertTrue(min(weighed, none) > 100)


class NamesAreLed(unittest.TestCase):
    """[8], by edits of a Book: its values go along with the columns."""

    def test_by_edits_of_a_book(self):
        draw = Draw(1650)
        asked = 0
        for _ in range(200):
            book = led_book(draw, draw.sheet(), 4)
            sheet, rows, many = book.sheet, book.rows, len(book.sheet)
            told = {cell: book.value(cell) for cell in sheet.addresses(rows)}
            if many == 0:
                continue
            at, to = draw.number(0, many - 1), draw.number(0, many - 1)
            columns = list(range(many))
            edit, order = draw.one([(("move", at, to), self.moved(columns, at, to)), (("exchange", at, to), self.exchanged(columns, at, to)),
                                    (("put", at, (("input",), ("input",), ("empty",))), columns[:at] + [None] + columns[at:]),
                                    (("strike", at), columns[:at] + columns[at + 1:])])
            try:
                book.do(edit)
            except SheetError:
                self.assertEqual([edit[0], many], ["put", 8])
                continue
            for cell in told:
                if self.is_told(sheet, rows, cell, order) and cell[0] in order:
                    self.assertEqual(book.value((order.index(cell[0]), cell[1])), told[cell], (sheet.columns(), edit, cell))
                    asked += 1
        self.assertGreater(asked, 500)

    def moved(self, columns, at, to):
        others = [column for column in columns if column != at]
        return others[:to] + [at] + others[to:]

    def exchanged(self, columns, at, to):
        return [to if column == at else at if column == to else column for column in columns]

    def is_told(self, sheet, rows, cell, order):
        """Whether all names of the cell, and of those on which it hangs, mean columns of the sheet before and behind."""
        for here in [cell] + hanging(sheet, rows, cell):
            for read in reads(sheet.formula_at(here, rows)):
                column = here[0] + read[1][1] if read[1][0] == "by" else read[1][1] if read[1][0] == "at" else None
                if column is None or column not in order or not 0 <= column < len(sheet):
                    return False
        return True


class Depth(unittest.TestCase):
    """[10]: as many rounds are needed as the greatest level tells, and no more."""

    def test_by_sheets(self):
        draw = Draw(1660)
        asked = 0
        while asked < 40:
            book = led_book(draw, draw.one([draw.sheet, draw.rising_sheet])(), 3)
            sheet, rows = book.sheet, book.rows
            web = web_of(sheet)
            if least_ring(web) is not None:
                continue
            asked += 1
            told = levels(web, rows)
            self.assertEqual(rounds(web, rows), 1 + max(told.values(), default=-1))
            done = {}
            for number in range(rounds(web, rows)):
                cells = round_cells(web, rows, number)
                self.assertTrue(cells)
                for cell in cells:
                    bodies = [other for other in hanging(sheet, rows, cell) if 0 <= other[1] < rows]
                    self.assertTrue(all(other in done for other in bodies))
                    walk = level_walk(web, rows, cell)
                    self.assertEqual([len(walk), walk[0], is_walk(web, rows, walk)], [number + 1, cell, True])
                done.update({cell: True for cell in cells})
            self.assertEqual(sorted(done), sorted(told))


class AllIsUndone(unittest.TestCase):
    """[11]: each edit of a book can be undone and done anew; texts lead there and back."""

    def test_books_and_wards(self):
        draw = Draw(1670)
        for _ in range(60):
            sheet = draw.input_sheet()
            checks = drawn_checks(draw, sheet, 2)
            book = led_book(draw, sheet)
            held = [book]
            try:
                held.append(Ward(Book(sheet, rows=3), checks))
            except SheetError:
                pass
            for one in held:
                for _ in range(6):
                    before = one.copied()
                    now = one if isinstance(one, Book) else one.book()
                    edit = draw.edit(now.sheet, now.rows)
                    try:
                        one.do(edit)
                    except SheetError:
                        self.assertEqual(one, before)
                        continue
                    after = one.copied()
                    self.assertEqual([one.back(), one, one.again(), one], [edit, one, edit, after])
                    one.back()
                    self.assertEqual(one, before)
                    one.again()
                    self.assertEqual(one, after)

    def test_a_log_through_texts(self):
        draw = Draw(1671)
        for _ in range(60):
            book = led_book(draw, draw.sheet())
            first = book.copied()
            while len(first):
                first.back()
            states = []
            while True:
                text = (show_sheet(first.sheet), show_contents(first.contents()), first.rows)
                self.assertEqual([read_sheet(text[0]), read_contents(text[1])], [first.sheet, first.contents()])
                states.append(text)
                if len(first) == len(book):
                    break
                first.again()
            self.assertEqual(first, book)
            for text in states[::-1][1:]:
                first.back()
                self.assertEqual((show_sheet(first.sheet), show_contents(first.contents()), first.rows), text)


if __name__ == "__main__":
    unittest.main()
