"""[26], desk.py: lines said and answered, undo and redo, twins, equal Desks."""

import unittest
from itertools import product
from random import Random

from examples import check_examples
from small import NO_WEBS, as_lists, few_webs, great_webs, seats_by_hand

from leftwithout import desk as of_desk, errors
from leftwithout.desk import Desk
from leftwithout.errors import BadText, NothingDone, Unfit
from leftwithout.runs import free_places, seated, without_of

EXAMPLES = r'''
>>> desk = Desk((4, ((0, 1), (2, 1), (2, 3), (0, 3))))
>>> desk.say("come 0\ncome 1\ncome 2\nseat 2\ncome 3\nseat 3\nwithout\nfree\nplace 1")
('done', 'done', 'done', '3', 'done', 'without', '3', '1', 'free')
>>> desk.say("drag 3 0\nrow\nwithout\nplace 0\ncome 3\ncome 4\ndrag 3 4"), desk.taking()
(('done', '3 0 1 2', 'none', '3', 'here', 'no guest', 'too far'), (1, 2, 3, 0))
>>> desk.undo(), desk.row(), desk.redo(), desk.say("seat 9\nplace 4")
(1, (0, 1, 2, 3), 2, ('no guest', 'no place'))
>>> desk.say("row\nback 03")
raises BadText(line=1)
>>> other = desk.twin()
>>> other.say("back 3\nseat 3\nback 3"), other == desk, other.undo(), other == desk, other.taking()
(('done', 'away', 'away'), False, 2, True, (1, 2, 3, 0))
>>> Desk((2, ((0, 0),)))
raises Unfit()
'''

HALL = (5, ((0, 1), (2, 1), (2, 0), (3, 1), (1, 3)))
FOUR = (4, ((0, 1), (2, 1), (2, 3), (0, 3)))

NO_LINES = (
    "", " ", "come", "come ", " come 0", "come  0", "come 0 ", "come 0 1", "come a", "come -1", "come -0", "come 00", "come 01",
    "come 1000000", "come +1", "come 1.0", "Come 0", "COME 0", "back", "back 0 0", "drag", "drag 0", "drag 0 0 0", "drag 0 -1",
    "drag 0 01", "seat", "seat 0 0", "place", "place 0 0", "place x", "row 0", "row ", " row", "without 0", "free 0", "rows",
    "none", "done", "undo", "redo", "0", "come,0", "come 0 # a remark", "# row", "come come", "row\trow", "come\t0", "row\r",
    "come \u0663", "come 0\u00b2", "come 1_0", "seat 0x1", "take 0", "web", "twin", "come 9999999", "come -12345",
)


class ByHand:
    """A Desk told again by the words of the document, with all ROWS that were."""

    def __init__(self, web):
        self.web, self.rows, self.at = web, [[]], 0

    def row(self):
        return self.rows[self.at]

    def seats(self, row):
        return dict(seats_by_hand(self.web, row))

    def say(self, text):
        row, answers = list(self.row()), []
        for line in text.split("\n"):
            answers.append(self.answer(row, line.split(" ")[0], [int(word) for word in line.split(" ")[1:]]))
        if "done" in answers:
            self.rows = self.rows[:self.at + 1] + [row]
            self.at += 1
        return tuple(answers)

    def answer(self, row, kind, numbers):
        seats, guest = self.seats(row), (numbers or [None])[0]
        if kind == "place":
            if guest >= self.web[0]:
                return "no place"
            return "".join(str(own) for own, place in seats.items() if place == guest) or "free"
        if kind == "row":
            return " ".join(map(str, row)) or "none"
        if kind == "without":
            return " ".join(str(own) for own in sorted(row) if seats[own] is None) or "none"
        if kind == "free":
            return " ".join(str(place) for place in range(self.web[0]) if place not in seats.values()) or "none"
        if guest >= len(self.web[1]):
            return "no guest"
        if kind == "come":
            if guest in row:
                return "here"
            row.append(guest)
            return "done"
        if guest not in row:
            return "away"
        if kind == "seat":
            return "without" if seats[guest] is None else str(seats[guest])
        if kind == "drag" and numbers[1] >= len(row):
            return "too far"
        row.remove(guest)
        if kind == "drag":
            row.insert(numbers[1], guest)
        return "done"

    def go(self, step):
        """undo by -1, redo by 1: how many can be taken back then, None if there is nothing."""
        if not 0 <= self.at + step < len(self.rows):
            return None
        self.at += step
        return self.at


def kinds_of_lines(count):
    """Lines of all kinds, with numbers up to this one, told as words."""
    numbers = [str(number) for number in range(count)]
    one = [f"{kind} {number}" for kind in ("come", "back", "seat", "place") for number in numbers]
    return one + [f"drag {guest} {place}" for guest in numbers for place in numbers] + ["row", "without", "free"]


class Examples(unittest.TestCase):
    def test_examples(self):
        check_examples(self, {**vars(errors), **vars(of_desk)}, EXAMPLES)


class BesideByHand(unittest.TestCase):
    def check_beside(self, desk, hand):
        row = hand.row()
        self.assertEqual((desk.web(), desk.row()), (hand.web, tuple(row)))
        taking = tuple(hand.seats(row).get(guest) for guest in range(len(hand.web[1])))
        self.assertEqual(desk.taking(), taking)
        self.assertEqual(desk.taking(), seated(hand.web, desk.row()))

    def check_steps(self, web, luck, steps):
        desk, hand = Desk(web), ByHand(web)
        lines = kinds_of_lines(max(web[0], len(web[1])) + 1)
        for _ in range(steps):
            what = luck.randrange(10)
            if what < 7:
                text = "\n".join(luck.choices(lines, k=luck.choice((1, 1, 2, 3, 8))))
                self.assertEqual(desk.say(text), hand.say(text), text)
            else:
                step = -1 if what < 9 else 1
                told = hand.go(step)
                go = desk.undo if step < 0 else desk.redo
                if told is None:
                    self.assertRaises(NothingDone, go)
                else:
                    self.assertEqual(go(), told)
            self.check_beside(desk, hand)

    def test_small_webs(self):
        luck = Random(3)
        for web in few_webs(3, 3) + few_webs(4, 4)[::90]:
            self.check_steps(web, luck, 60)

    def test_great_webs(self):
        luck = Random(5)
        for web in [*great_webs(6, 12, 10), *great_webs(2)]:
            self.check_steps(web, luck, 200)

    def test_each_two_lines(self):
        for web in ((2, ((0, 1), (1, 0), (0, 1))), (1, ()), (2, ((1, 0),))):
            for lines in product(kinds_of_lines(4), repeat=2):
                desk, hand = Desk(web), ByHand(web)
                start = "come 1\ncome 0"
                self.assertEqual(desk.say(start), hand.say(start))
                for line in lines:
                    self.assertEqual(desk.say(line), hand.say(line), lines)
                self.check_beside(desk, hand)

    def test_one_text_beside_its_lines_one_by_one(self):
        luck = Random(9)
        for web in [HALL, FOUR, *few_webs(3, 3)[::20]]:
            lines = luck.choices(kinds_of_lines(6), k=12)
            whole, single = Desk(web), Desk(web)
            told = whole.say("\n".join(lines))
            self.assertEqual(told, tuple(answer for line in lines for answer in single.say(line)))
            self.assertEqual(whole, single)

    def test_answers_beside_the_taking(self):
        for web in [HALL, FOUR, *great_webs(5, 20, 20)]:
            desk = Desk(web)
            order = tuple(range(len(web[1])))[::-1]
            self.assertEqual(desk.say("\n".join(f"come {guest}" for guest in order)), ("done",) * len(order))
            taking = seated(web, order)
            seats = desk.say("\n".join(f"seat {guest}" for guest in sorted(order)))
            self.assertEqual(seats, tuple("without" if place is None else str(place) for place in taking))
            places = desk.say("\n".join(f"place {place}" for place in range(web[0])))
            self.assertEqual(places, tuple(str(taking.index(own)) if own in taking else "free" for own in range(web[0])))
            told = tuple(" ".join(map(str, own)) or "none" for own in (order, without_of(web, order), free_places(web, order)))
            self.assertEqual(desk.say("row\nwithout\nfree"), told)


class Lines(unittest.TestCase):
    def check_fault(self, desk, text, line):
        row, past = desk.row(), desk.twin()
        with self.subTest(text), self.assertRaises(BadText) as caught:
            desk.say(text)
        self.assertEqual(caught.exception.line, line, repr(text))
        self.assertEqual((desk.row(), desk), (row, past))

    def test_no_lines(self):
        desk = Desk(HALL)
        desk.say("come 2\ncome 1")
        for wrong in NO_LINES:
            self.check_fault(desk, wrong, 0)
            self.check_fault(desk, "come 0\n" + wrong, 1)
            self.check_fault(desk, "row\nback 2\n" + wrong + "\nrow", 2)
            self.check_fault(desk, "row\n" + wrong + "\n" + wrong, 1)
        self.assertEqual((desk.undo(), desk.row()), (0, ()))

    def test_line_breaks_begin_one_more_line(self):
        desk = Desk(HALL)
        self.check_fault(desk, "come 0\n", 1)
        self.check_fault(desk, "\ncome 0", 0)
        self.check_fault(desk, "come 0\n\ncome 1", 1)
        self.check_fault(desk, "row\nrow\n\n", 2)
        self.assertRaises(NothingDone, desk.undo)

    def test_what_could_be_done_once_more_stays_after_a_fault(self):
        desk = Desk(HALL)
        desk.say("come 0")
        desk.undo()
        self.check_fault(desk, "come 1\ncome", 1)
        self.assertEqual((desk.redo(), desk.row()), (1, (0,)))

    def test_number_words(self):
        desk = Desk(HALL)
        self.assertEqual(desk.say("come 999999\nseat 999999\nplace 999999\nback 5\ncome 4"), ("no guest", "no guest", "no place", "no guest", "done"))
        self.assertEqual(desk.say("drag 4 999999\ndrag 999999 999999\ndrag 0 999999\ndrag 4 0\ndrag 4 1"), ("too far", "no guest", "away", "done", "too far"))

    def test_refusals_in_order(self):
        desk = Desk((7, ((0, 1), (1, 0), (0, 1))))
        desk.say("come 0\ncome 1\ncome 2")
        self.assertEqual(desk.say("come 3\ncome 2\nback 3\nback 2\nback 2"), ("no guest", "here", "no guest", "done", "away"))
        self.assertEqual(desk.say("drag 3 9\ndrag 2 9\ndrag 2 0\ndrag 1 2\ndrag 1 1"), ("no guest", "away", "away", "too far", "done"))
        self.assertEqual(desk.say("seat 3\nseat 2\ncome 2\nseat 2"), ("no guest", "away", "done", "without"))
        self.assertEqual(desk.say("place 7\nplace 6\nplace 1"), ("no place", "free", "1"))

    def test_drag(self):
        for at in range(4):
            desk = Desk(FOUR)
            desk.say("come 0\ncome 1\ncome 2\ncome 3")
            for guest in range(4):
                rest = [own for own in desk.row() if own != guest]
                self.assertEqual(desk.say(f"drag {guest} {at}"), ("done",))
                self.assertEqual(list(desk.row()), rest[:at] + [guest] + rest[at:])

    def test_nobody(self):
        desk = Desk((3, ()))
        self.assertEqual(desk.say("row\nwithout\nfree\ncome 0\nplace 2\nplace 3"), ("none", "none", "0 1 2", "no guest", "free", "no place"))
        self.assertEqual((desk.row(), desk.taking(), desk.web()), ((), (), (3, ())))
        self.assertRaises(NothingDone, desk.undo)
        full = Desk((2, ((0, 1), (1, 0))))
        self.assertEqual(full.say("come 1\ncome 0\nfree"), ("done", "done", "none"))


class UndoAndRedo(unittest.TestCase):
    def test_nothing_done(self):
        desk = Desk(HALL)
        for text in ("row", "seat 0\nback 0\nplace 9", "come 9\ndrag 0 0"):
            desk.say(text)
            self.assertRaises(NothingDone, desk.undo)
            self.assertRaises(NothingDone, desk.redo)

    def test_there_and_back(self):
        desk, rows = Desk(HALL), [()]
        for text in ("come 3\ncome 1", "come 0\nrow", "back 3\ncome 3", "drag 3 0", "drag 3 0", "come 2\nback 2", "come 4"):
            self.assertIn("done", desk.say(text))
            rows.append(desk.row())
        self.assertRaises(NothingDone, desk.redo)
        for left in reversed(range(7)):
            self.assertEqual((desk.undo(), desk.row()), (left, rows[left]))
        self.assertRaises(NothingDone, desk.undo)
        for done in range(1, 8):
            self.assertEqual((desk.redo(), desk.row()), (done, rows[done]))
        self.assertRaises(NothingDone, desk.redo)
        self.assertEqual(desk.row(), rows[7])

    def test_what_ends_what_could_be_done_once_more(self):
        desk = Desk(HALL)
        desk.say("come 0")
        desk.say("come 1")
        desk.undo()
        desk.say("row\ncome 0\nback 4\nfree")
        self.assertEqual((desk.redo(), desk.undo(), desk.undo()), (2, 1, 0))
        desk.say("come 2\nback 2")
        self.assertRaises(NothingDone, desk.redo)
        self.assertEqual((desk.undo(), desk.row(), desk.redo()), (0, (), 1))

    def test_a_say_is_taken_back_whole(self):
        desk = Desk(HALL)
        desk.say("come 4")
        desk.say("come 3\nback 9\nback 4\ncome 0\nrow")
        self.assertEqual((desk.row(), desk.undo(), desk.row()), ((3, 0), 1, (4,)))


class Twins(unittest.TestCase):
    def test_twin_goes_its_own_way(self):
        desk = Desk(HALL)
        for text in ("come 0", "come 1", "come 2"):
            desk.say(text)
        desk.undo()
        twin = desk.twin()
        self.assertIsNot(twin, desk)
        self.assertIs(twin.__class__, Desk)
        self.assertEqual((twin.web(), twin.row(), twin.taking()), (desk.web(), desk.row(), desk.taking()))
        self.assertEqual((twin.redo(), twin.row(), desk.row()), (3, (0, 1, 2), (0, 1)))
        self.assertEqual((twin.undo(), twin.undo(), twin.undo()), (2, 1, 0))
        twin.say("come 4")
        self.assertRaises(NothingDone, twin.redo)
        self.assertEqual((desk.redo(), desk.row()), (3, (0, 1, 2)))
        self.assertEqual((desk.undo(), desk.undo(), desk.undo()), (2, 1, 0))
        self.assertEqual((twin.row(), desk.row()), ((4,), ()))

    def test_equal(self):
        first, later = Desk(HALL), Desk(as_lists(HALL))
        self.assertIs(first == later, True)
        self.assertIs(first != later, False)
        first.say("come 0\ncome 1")
        self.assertIs(first == later, False)
        self.assertIs(first != later, True)
        later.say("come 1\ncome 0")
        self.assertIs(first == later, False)
        # What could be taken back or done once more does not count.
        later.say("drag 0 0")
        later.say("come 2")
        later.undo()
        self.assertIs(first == later, True)
        self.assertIs(Desk(HALL) == Desk(FOUR), False)
        self.assertIs(Desk((3, ())) != Desk((4, ())), True)
        for other in (HALL, None, 0, (), "desk", object()):
            self.assertIs(Desk(HALL) == other, False)
            self.assertIs(Desk(HALL) != other, True)

    def test_what_is_handed_in_is_copied(self):
        web = as_lists(HALL)
        desk = Desk(web)
        web[1][0][0] = 4
        web[1].append([0, 1])
        self.assertEqual((desk.web(), repr(desk.web())), (HALL, repr(HALL)))
        self.assertEqual(desk.say("come 5"), ("no guest",))

    def test_no_webs(self):
        for wrong in NO_WEBS:
            self.assertRaises(Unfit, Desk, wrong)

    def test_by_names(self):
        desk = Desk(web=HALL)
        self.assertEqual(desk.say(text="come 0\nseat 0"), ("done", "0"))


if __name__ == "__main__":
    unittest.main()
