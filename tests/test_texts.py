"""[22], texts.py: texts of SHEETS and WEBS written and read back, pictures of TABLES."""

import re
import unittest
from itertools import permutations, product
from random import Random

from examples import check_examples
from small import (
    NO_WEBS, NO_WORDS, NOTHING_AT_ALL, as_lists, as_mixed, few_webs, great_webs, in_itself, lots_of, nested, rows_of,
    small_words, takings_of,
)

from leftwithout import errors, texts
from leftwithout.errors import BadText, CanNot, Unfit
from leftwithout.signs import pieces
from leftwithout.texts import is_sheet, picture, read_picture, read_sheet, read_web, sheet_text, web_text
from leftwithout.webs import table_of

EXAMPLES = r'''
>>> word, taking = (0, 1, 1, 0, 0, 1, 0), (0, 2, 3, None, 4, 5, 6)
>>> picture(word, taking), read_picture('<>><<><\n<>>.<<<\n') == (word, taking)
('<>><<><\n<>>.<<<\n', True)
>>> hall = (3, ((0, 1), (2, 1), (1, 0)))
>>> sheet_text((hall, ((2, 0, 1), ()), ((), (0, 2))))
'web 3\nguest 0 1\nguest 2 1\nguest 1 0\nrow 2 0 1\nrow\nlot\nlot 0 2\n'
>>> read_sheet(sheet_text((hall, ((1,),), ()))) == (hall, ((1,),), ()), read_web("web 2 # two\n\n  guest 1 0"), web_text((1, ()))
(True, (2, ((1, 0),)), 'web 1\n')
>>> is_sheet((hall, (), ())), is_sheet((hall, ((0, 0),), ())), is_sheet((hall, (), ((2, 0),))), is_sheet([hall, (), ()])
(True, False, False, False)
>>> read_picture("<<\n<\n")
raises BadText(line=1)
>>> read_picture("<<\n><\n>\n")
raises BadText(line=2)
>>> read_sheet("# none\n")
raises BadText(line=0)
>>> read_sheet("web 3\nguest 0 3")
raises BadText(line=1)
>>> read_picture("<<<\n><.\n")
raises CanNot()
'''

HALL = (3, ((0, 1), (2, 1), (1, 0)))

NO_SHEETS = NOTHING_AT_ALL + tuple((own, (), ()) for own in NO_WEBS) + (
    (), (HALL,), (HALL, ()), (HALL, (), (), ()), (HALL, None, ()), (HALL, (), None), (HALL, 0, ()), (HALL, (), "ab"),
    (HALL, (0,), ()), (HALL, (), (0,)), (HALL, ((0, 0),), ()), (HALL, ((3,),), ()), (HALL, ((-1,),), ()), (HALL, ((True,),), ()),
    (HALL, (None,), ()), (HALL, ((1,), (1, 3)), ()), (HALL, (), ((2, 0),)), (HALL, (), ((0, 0),)), (HALL, (), ((3,),)),
    (HALL, (), ((-1,),)), (HALL, (), ((False,),)), (HALL, (), ((), None)), (HALL, (((0,),),), ()), (HALL, {}, ()), (HALL, (), {0: ()}),
    (HALL, (in_itself(),), ()), (HALL, (), (nested(5000),)), (HALL, ((0.0,),), ()), ((), (), ()), ((), HALL, ()),
)

# Lines that stand in some place, and lines that stand nowhere.
LINES = (
    "web 2", "web 1", "guest 0 1", "guest 1 0", "row", "row 0", "row 1 0", "lot", "lot 0", "lot 0 1", "", " # web",
    "web 0", "web -1", "web", "web 2 2", "guest 0 2", "guest 1 1", "guest 0", "guest 0 1 0", "row 0 0", "row 2", "row -1",
    "row 00", "row a", "row row", "lot 1 0", "lot 1 1", "lot 3", "stool 1", "0 1", "web two", "row B",
)


def sheets():
    """SHEETS of small WEBS, with some of their ROWS and LOTS."""
    for web in few_webs(3, 3):
        rows, lots = tuple(rows_of(web)), tuple(lots_of(web))
        yield web, (), ()
        yield web, rows[:3], ()
        yield web, (), lots[:3]
        yield web, rows, lots
        yield web, rows[::-2], lots[::-1] + lots[:2]


def text_by_hand(sheet):
    web, rows, lots = sheet
    told = [f"web {web[0]}"] + [f"guest {wish} {other}" for wish, other in web[1]]
    told += [" ".join(["row", *map(str, row)]) for row in rows] + [" ".join(["lot", *map(str, lot)]) for lot in lots]
    return "".join(row + "\n" for row in told)


def sheet_by_hand(text):
    """The SHEET that the text tells, or the line of the first fault."""
    lines = [line.split("#")[0].split() for line in text.split("\n")]
    for number, words in enumerate(lines):
        if re.search("[^a-z0-9-]", "".join(words)):
            return number
    rows = [(number, words[0], words[1:]) for number, words in enumerate(lines) if words]
    if not rows:
        return 0
    many, found, last = None, {"guest": [], "row": [], "lot": []}, "a"
    for number, kind, words in rows:
        if not all(re.fullmatch("0|-?[1-9][0-9]{0,11}", word) for word in words):
            return number
        told = [int(word) for word in words]
        guests = range(len(found["guest"]))
        if kind == "web" and last == "a" and len(told) == 1 and told[0] > 0:
            many = told[0]
        elif kind == "guest" and last in ("web", "guest") and len(told) == 2 and told[0] != told[1] and {*told} <= {*range(many)}:
            found[kind].append(tuple(told))
        elif kind == "row" and last in ("web", "guest", "row") and len({*told}) == len(told) and {*told} <= {*guests}:
            found[kind].append(tuple(told))
        elif kind == "lot" and last != "a" and sorted({*told}) == told and {*told} <= {*guests}:
            found[kind].append(tuple(told))
        else:
            return number
        last = kind
    return (many, tuple(found["guest"])), tuple(found["row"]), tuple(found["lot"])


def picture_by_hand(text):
    """The pair that the picture tells, the line of the first fault, or None if a PLACE would be taken twice."""
    lines = text.splitlines()
    if not re.fullmatch("[<>]{2,}", "".join(lines[:1])):
        return 0
    if len(lines) < 2 or not re.fullmatch("[<>.]{%d}" % len(lines[0]), lines[1]):
        return 1
    if len(lines) > 2:
        return 2
    if not text.endswith("\n"):
        return 1
    count = len(lines[0])
    taking = tuple({"<": k, ">": (k + 1) % count, ".": None}[sign] for k, sign in enumerate(lines[1]))
    had = [place for place in taking if place is not None]
    return (tuple(map("<>".index, lines[0])), taking) if len({*had}) == len(had) else None


def table_takings(longest=5):
    for word in small_words(longest):
        if len(word) > 1:
            for taking in takings_of(table_of(word)):
                yield word, taking


class Reading(unittest.TestCase):
    def check_read(self, read, text, told):
        """What is read of the text is as told; a number tells the line of a fault, None that it can not be."""
        if isinstance(told, int):
            with self.subTest(text), self.assertRaises(BadText) as caught:
                read(text)
            self.assertEqual(caught.exception.line, told, repr(text))
        elif told is None:
            self.assertRaises(CanNot, read, text)
        else:
            self.assertEqual(repr(read(text)), repr(told), repr(text))


class Examples(unittest.TestCase):
    def test_examples(self):
        check_examples(self, {**vars(errors), **vars(texts)}, EXAMPLES)


class Sheets(Reading):
    def test_written_and_read_back(self):
        for sheet in sheets():
            self.assertIs(is_sheet(sheet), True)
            text = sheet_text(sheet)
            self.assertEqual(text, text_by_hand(sheet))
            self.check_read(read_sheet, text, sheet)
            self.check_read(read_web, text, sheet[0])
            self.assertEqual(web_text(sheet[0]), text_by_hand((sheet[0], (), ())))
            self.check_read(read_sheet, web_text(sheet[0]), (sheet[0], (), ()))

    def test_great_ones(self):
        for web in great_webs(10):
            everybody = tuple(range(len(web[1])))
            sheet = (web, (everybody[::-1], (), everybody[::2]) * 5, ((), everybody, everybody[1::3]) * 5)
            self.assertEqual(sheet_text(sheet), text_by_hand(sheet))
            self.check_read(read_sheet, sheet_text(sheet), sheet)
        web = (10 ** 12 - 1, ((10 ** 12 - 2, 0),))
        self.assertEqual(web_text(web), "web 999999999999\nguest 999999999998 0\n")
        self.check_read(read_web, web_text(web), web)

    def test_other_blanks_remarks_and_lines_between(self):
        for sheet in list(sheets())[::7]:
            text = sheet_text(sheet)
            self.check_read(read_sheet, text.removesuffix("\n"), sheet)
            self.check_read(read_sheet, text.replace(" ", "   "), sheet)
            self.check_read(read_sheet, "\n # Web!\n" + text.replace("\n", " # lot 0 0\n\n  \n"), sheet)
            self.check_read(read_sheet, "  " + text.replace("\n", "#\n \n") + "#", sheet)

    def test_lists_for_tuples(self):
        for sheet in list(sheets())[::7]:
            for change in (as_lists, as_mixed, lambda value: as_mixed(value, 1)):
                self.assertEqual(sheet_text(change(sheet)), text_by_hand(sheet))
                self.assertEqual(web_text(change(sheet[0])), text_by_hand((sheet[0], (), ())))
            self.assertIs(is_sheet(as_lists(sheet)), False)
            self.assertIs(is_sheet((as_lists(sheet[0]),) + sheet[1:]), False)
            self.assertIs(is_sheet(sheet[:1] + (list(sheet[1]), sheet[2])), False)
            self.assertIs(is_sheet(sheet[:2] + (list(sheet[2]),)), False)
            self.assertIs(is_sheet(sheet[:2] + (([],),)), False)

    def test_each_three_lines(self):
        for long in range(4):
            for rows in product(LINES, repeat=long):
                text = "\n".join(rows)
                self.check_read(read_sheet, text, sheet_by_hand(text))

    def test_more_lines(self):
        luck = Random(11)
        whole = 0
        for _ in range(20000):
            rows = ["web 3"] + luck.choices(("guest 0 1", "guest 2 0"), k=2) + luck.choices(LINES[4:11], k=luck.randrange(4))
            if luck.randrange(3):
                rows.insert(luck.randrange(len(rows) + 1), luck.choice(LINES))
            text = "\n".join(rows)
            told = sheet_by_hand(text)
            whole += not isinstance(told, int)
            self.check_read(read_sheet, text, told)
        self.assertGreater(whole, 2000)

    def test_faults(self):
        for text, line in (
            ("", 0), ("\n\n", 0), ("#\n # web 2\n", 0), ("\n\nguest 0 1\n", 2), ("web 2\nweb 2", 1), ("row\nweb 2", 0),
            ("web 2\nguest 0 1\n\nlot\nrow 0", 4), ("web 2\nrow\nguest 0 1", 2), ("web 2\nrow 0\nguest 0 1", 1),
            ("web 2\nguest 0 2\nguest 0 1\nstool\nrow 5 B", 4), ("web 02", 0), ("web 1000000000000", 0), ("web 2 guest 0 1", 0),
            ("web\n2", 0), ("web 2\nguest 0\n1", 1), ("web 2\nguest 0 1\nlot 0\nrow 0", 3), ("web 1\nguest 0 0", 1), ("Web 1", 0),
            ("web 1\n\n\nlots", 3), ("web 1.\n", 0), ("# a\nweb 1\n0", 2), ("web 1\nrow 0 # none", 1), ("web 1\nlot 0", 1),
            ("web 2\nguest 0 1\nrow 0\nrow 0 0\nlot 1\n!", 5),
        ):
            self.check_read(read_sheet, text, line)
            self.check_read(read_web, text, line)

    def test_no_sheets(self):
        for k, wrong in enumerate(NO_SHEETS):
            with self.subTest(k):
                self.assertIs(is_sheet(wrong), False)
                self.assertRaises(Unfit, sheet_text, wrong)
        for wrong in NO_WEBS:
            self.assertRaises(Unfit, web_text, wrong)

    def test_pieces_of_a_sheet(self):
        told = pieces(sheet_text((HALL, ((1,),), ((),))))
        self.assertEqual([piece for piece, _ in told][:5], ["web", "3", "guest", "0", "1"])
        self.assertEqual(told[-3:], [("row", 4), ("1", 4), ("lot", 5)])

    def test_by_name(self):
        self.assertEqual(read_sheet(text="web 1"), ((1, ()), (), ()))
        self.assertEqual(read_web(text=sheet_text(sheet=(HALL, (), ()))), HALL)
        self.assertEqual(web_text(web=HALL), sheet_text((HALL, (), ())))


class Pictures(Reading):
    def test_written_and_read_back(self):
        for word, taking in table_takings():
            text = picture(word, taking)
            wants = "".join("<>"[side] for side in word)
            seats = "".join("." if own is None else "<" if own == k else ">" for k, own in enumerate(taking))
            self.assertEqual(text, wants + "\n" + seats + "\n")
            self.check_read(read_picture, text, (word, taking))
            self.assertEqual(picture(list(word), list(taking)), text)

    def test_two(self):
        self.assertEqual([picture((0, 1), own) for own in ((0, 1), (1, 0), (None, None))], ["<>\n<<\n", "<>\n>>\n", "<>\n..\n"])
        self.check_read(read_picture, "<>\n>>\n", ((0, 1), (1, 0)))
        self.check_read(read_picture, "<>\n<>\n", None)

    def test_forty(self):
        word = (0, 1) * 20
        taking = tuple(range(1, 40)) + (None,)
        self.assertEqual(picture(word, taking), "<>" * 20 + "\n" + ">" * 39 + ".\n")
        self.check_read(read_picture, picture(word, taking), (word, taking))
        self.check_read(read_picture, "<>" * 500 + "\n" + "<" * 1000 + "\n", ((0, 1) * 500, tuple(range(1000))))

    def test_small_texts_read_by_hand(self):
        for long in range(8):
            for signs in product("<>.\n", repeat=long):
                text = "".join(signs)
                self.check_read(read_picture, text, picture_by_hand(text))
        for rows in product(("", "<", "<>", "><<", "..", ".<", "<.>", "< >", "<a", "<>#", "0"), repeat=3):
            for end in ("", "\n", "\n\n", "\n \n"):
                text = "\n".join(rows) + end
                self.check_read(read_picture, text, picture_by_hand(text))
        for rows in permutations(("<>", "..", "><<", ">><", " "), 2):
            for end in ("", "\n", "\n\n"):
                self.check_read(read_picture, "\n".join(rows) + end, picture_by_hand("\n".join(rows) + end))

    def test_faults(self):
        for text, line in (
            ("", 0), ("\n", 0), ("<\n<\n", 0), ("<.\n<<\n", 0), ("<<", 1), ("<<\n", 1), ("<<\n\n", 1), ("<<\n<<<\n", 1), ("<<\n<a\n", 1),
            ("<<\n<<", 1), ("<<\n<<\n\n", 2), ("<<\n<<\n<", 2), ("<<\n<<\n<<\n", 2), ("<< \n<<\n", 0), ("<<\n<< \n", 1), (" \n<\n\n", 0),
            ("<<\n><\n\n", 2), ("<<\n><", 1),
        ):
            self.check_read(read_picture, text, line)

    def test_no_words_and_no_takings(self):
        for wrong in NO_WORDS + ((0,), (1,), [0], [1]):
            for taking in ((), (None,), (0, None), None):
                self.assertRaises(Unfit, picture, wrong, taking)
        for wrong in NOTHING_AT_ALL + (
            (), (None,), (None,) * 2, (None,) * 4, (0, 0, None), (2, None, None), (0, 1, True), (None, None, 1), [1, 1, None], (0, 1, 3),
        ):
            self.assertRaises(Unfit, picture, (0, 1, 1), wrong)


if __name__ == "__main__":
    unittest.main()
