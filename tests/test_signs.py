"""[4], signs.py."""

import unittest
from itertools import combinations_with_replacement, product

from examples import check_examples
from small import NO_NUMBERS, as_lists, in_itself, nested

from leftwithout import errors, signs
from leftwithout.errors import BadText, Unfit
from leftwithout.signs import number_of, piece_of, pieces, text_of

EXAMPLES = r'''
>>> pieces("web -1 0 # a remark\n2 07-")
[('web', 0), ('-1', 0), ('0', 0), ('2', 1), ('07-', 1)]
>>> text_of([("row", 0), ("0", 0), ("plan", 2)]), pieces("row 0\n\nplan")
('row 0\n\nplan\n', [('row', 0), ('0', 0), ('plan', 2)])
>>> number_of("07"), number_of("120"), number_of("-0"), number_of("-12"), piece_of(-7), pieces("")
(None, 120, None, -12, '-7', [])
>>> pieces("row a\nB")
raises BadText(line=1)
>>> pieces("a.b")
raises BadText(line=0)
'''

GOOD_SIGNS = "abcdefghijklmnopqrstuvwxyz0123456789-"

NO_PIECES = (
    None, True, 0, "", "a", "ab", b"a", {}, {("a", 0): 0}, {("a", 0)}, object(), (None,), ("a",), ("ab",), (("a",),),
    (("a", 0, 0),), ((0, "a"),), (("", 0),), (("A", 0),), (("a b", 0),), (("a\n", 0),), (("a#", 0),), (("a.", 0),),
    (("\u00e9", 0),), (("\u00b2", 0),), ((0, 0),), ((None, 0),), ((b"a", 0),), ((("a",), 0),), ((["a"], 0),),
    (("a", -1),), (("a", 1), ("b", 0)), (("a", 0), ("b", 2), ("c", 1)), (("a", 0), None), (("a", 0), ("b", "0")),
    in_itself(), nested(5000), (("a", nested(5000)),),
) + tuple((("a", value),) for value in NO_NUMBERS)


def small_pieces():
    """PIECES of some words, at most three, in lines up to three, never falling."""
    words = ("a", "-", "07", "web-1")
    for count in range(4):
        for lines in combinations_with_replacement(range(4), count):
            for own in product(words, repeat=count):
                yield list(zip(own, lines))


def small_texts():
    """All texts of few signs, those with a wrong sign, too."""
    for long in range(6):
        for signs_of_text in product("a- #\nB", repeat=long):
            yield "".join(signs_of_text)


def read_by_hand(text):
    """The PIECES sign by sign, or the line of the first fault."""
    found, piece, line, remark = [], "", 0, False
    for sign in text + "\n":
        if sign in " #\n" or remark:
            if piece:
                found.append((piece, line))
            piece = ""
            remark = (remark or sign == "#") and sign != "\n"
            line += sign == "\n"
        elif sign in GOOD_SIGNS:
            piece += sign
        else:
            return line
    return found


class Examples(unittest.TestCase):
    def test_examples(self):
        check_examples(self, {**vars(errors), **vars(signs)}, EXAMPLES)


class Pieces(unittest.TestCase):
    def check_fault(self, text, line):
        with self.subTest(text), self.assertRaises(BadText) as caught:
            pieces(text)
        self.assertEqual(caught.exception.line, line)

    def test_texts_without_pieces(self):
        for text in ("", " ", "\n", "\n\n", "#", "# a", "  # a\n\n#b\n", "####", "#\n#"):
            with self.subTest(text):
                self.assertEqual(pieces(text), [])

    def test_all_signs_of_a_piece(self):
        self.assertEqual(pieces(GOOD_SIGNS), [(GOOD_SIGNS, 0)])
        self.assertEqual(pieces("a" * 1000), [("a" * 1000, 0)])
        self.assertEqual(pieces("--"), [("--", 0)])

    def test_remarks_part_pieces(self):
        self.assertEqual(pieces("a#b c\nd #e # f\ng"), [("a", 0), ("d", 1), ("g", 2)])
        self.assertEqual(pieces("# B.!\na"), [("a", 1)])
        self.assertEqual(pieces("a # b # C\n#"), [("a", 0)])

    def test_blanks_and_empty_lines(self):
        self.assertEqual(pieces("  a   b \n\n \n c\n"), [("a", 0), ("b", 0), ("c", 3)])

    def test_each_other_sign_is_a_fault(self):
        for code in range(ord(" "), ord("~") + 1):
            sign = chr(code)
            if sign not in GOOD_SIGNS + " #":
                self.check_fault("\na" + sign + "b", 1)
                self.check_fault(sign, 0)
                self.assertEqual(pieces("a #" + sign), [("a", 0)])

    def test_first_fault_of_several(self):
        self.check_fault("a\n\nb _ #\nC\n!", 2)
        self.check_fault("a # B\nb\n:", 2)
        self.check_fault("A B\nC", 0)

    def test_small_texts_read_by_hand(self):
        for text in small_texts():
            told = read_by_hand(text)
            if isinstance(told, int):
                with self.assertRaises(BadText, msg=repr(text)) as caught:
                    pieces(text)
                self.assertEqual(caught.exception.line, told, repr(text))
            else:
                self.assertEqual(pieces(text), told, repr(text))

    def test_result_is_a_new_list_of_pairs(self):
        first = pieces("a b\nc")
        first.append(None)
        self.assertEqual(repr(pieces("a b\nc")), "[('a', 0), ('b', 0), ('c', 1)]")


class TextOf(unittest.TestCase):
    def test_texts(self):
        self.assertEqual(text_of([]), "")
        self.assertEqual(text_of([("a", 0)]), "a\n")
        self.assertEqual(text_of([("a", 2)]), "\n\na\n")
        self.assertEqual(text_of([("a", 1), ("b", 1), ("c", 1), ("d", 4)]), "\na b c\n\n\nd\n")
        self.assertEqual(text_of([("a" * 50, 0)] * 50), " ".join(["a" * 50] * 50) + "\n")

    def test_far_line(self):
        self.assertEqual(text_of([("a", 10 ** 6)]), "\n" * 10 ** 6 + "a\n")

    def test_no_pieces(self):
        for k, value in enumerate(NO_PIECES):
            with self.subTest(k), self.assertRaises(Unfit):
                text_of(value)

    def test_lists_and_tuples(self):
        told = [("a", 0), ("b", 0), ("c", 2)]
        for value in (told, tuple(told), as_lists(told), (["a", 0], ("b", 0), ["c", 2])):
            before = repr(value)
            self.assertEqual(text_of(value), "a b\n\nc\n")
            self.assertEqual(text_of(pieces=value), "a b\n\nc\n")
            self.assertEqual(repr(value), before)
        self.assertEqual(text_of(()), "")

    def test_lead_back(self):
        for told in small_pieces():
            self.assertEqual(pieces(text_of(told)), told)

    def test_text_has_nothing_needless(self):
        for told in small_pieces():
            text = text_of(told)
            rows = [" ".join(piece for piece, line in told if line == own) for own in range(text.count("\n"))]
            self.assertEqual(text, "".join(row + "\n" for row in rows))
            self.assertEqual(text.count("\n"), told[-1][1] + 1 if told else 0)

    def test_more_blanks_and_remarks(self):
        for told in small_pieces():
            text = text_of(told)
            self.assertEqual(pieces(text.replace(" ", "   ")), told)
            self.assertEqual(pieces(text.replace("\n", "  \n ")), told)
            self.assertEqual(pieces(text.replace("\n", "# a B.\n")), told)
            self.assertEqual(pieces(text.replace("\n", " # 1 # 2\n")), told)

    def test_line_break_between_two_pieces(self):
        for told in small_pieces():
            for behind in range(1, len(told)):
                later = [(piece, line + 1) for piece, line in told[behind:]]
                head = text_of(told[:behind]).removesuffix("\n")
                tail = text_of(told).removeprefix(head)
                self.assertEqual(pieces(head + "\n" + tail), told[:behind] + later)


class Numbers(unittest.TestCase):
    def test_number_pieces(self):
        for piece, number in (
            ("0", 0), ("7", 7), ("10", 10), ("-1", -1), ("-10", -10), ("999999999999", 10 ** 12 - 1),
            ("-999999999999", 1 - 10 ** 12), ("100000000000", 10 ** 11), ("-100000000000", -10 ** 11),
        ):
            with self.subTest(piece):
                self.assertEqual(number_of(piece), number)
                self.assertEqual(piece_of(number), piece)
                self.assertIs(number_of(piece).__class__, int)

    def test_no_number_pieces(self):
        for piece in (
            "", "-", "--", "--1", "1-", "1-2", "-0", "00", "01", "07", "-07", "-00", "a", "1a", "a1", "web", "+1", " 1",
            "1 ", "1\n", "\n1", "1 2", "1_0", "0x1", "1.0", "1e3", "#1", "1000000000000", "-1000000000000",
            "1234567890123", "000000000001", "0000000000001", "-000000000001", "\u0663", "\u00b2", "1\u0663", "-\u0663",
            "9" * 5000, "0" * 12,
        ):
            with self.subTest(piece[:20]):
                self.assertIsNone(number_of(piece))

    def test_each_small_number_leads_back(self):
        for number in range(-1200, 1201):
            self.assertEqual(number_of(piece_of(number)), number)

    def test_each_short_piece(self):
        for long in range(4):
            for signs_of_piece in product("-012a", repeat=long):
                piece = "".join(signs_of_piece)
                number = number_of(piece)
                told = [own for own in range(-300, 301) if f"{own}" == piece]
                self.assertEqual([number] if number is not None else [], told, piece)

    def test_by_names(self):
        self.assertEqual(pieces(text="a\nb"), [("a", 0), ("b", 1)])
        self.assertEqual((number_of(piece="-3"), piece_of(number=-3)), (-3, "-3"))


if __name__ == "__main__":
    unittest.main()
