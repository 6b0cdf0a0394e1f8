import re
import unittest

from helper import Numbers, written
from mixform.errors import MixError, NoText
from mixform.reader import read

# A second reading, of brackets from within outwards: @ stands for what was found to be a part.
PART = r"(?:0|(?:[1-9][0-9]{0,17})?(?:[a-z]{1,6}|[A-Z]{1,6}|@))"
SUM = rf"{PART}(?: \+ {PART})*"
BRACKETS = re.compile(rf"(?<![A-Z])(?:[A-Z]{{1,6}}\({SUM}(?:, {SUM}){{0,2}}\)|\({SUM}\))")


def deepest(text):
    most = deep = 0
    for sign in text:
        deep += (sign == "(") - (sign == ")")
        most = max(most, deep)
    return most


def is_text(text):
    if "@" in text or len(text) > 600 or deepest(text) > 20:
        return False
    many = 1
    while many:
        text, many = BRACKETS.subn("@", text)
    return re.fullmatch(SUM, text) is not None


class Refused(unittest.TestCase):
    def refused(self, *texts):
        for text in texts:
            for error in (NoText, MixError, ValueError):
                with self.assertRaises(error, msg=repr(text)) as caught:
                    read(text)
                self.assertIs(type(caught.exception), NoText)

    def test_the_document_own_examples(self):
        self.refused("20", "F()", "()", "2")

    def test_nothing_at_all(self):
        self.refused("", " ", "\n", "\t")

    def test_numbers(self):
        self.refused("01x", "00x", "0x", "0A", "0(x)", "00", "001x", "01", "0F(x)", "x + 02x", "F(02x)", "2(03x)")
        self.refused("10", "30", "2 + 0", "1", "x + 2", "2 + x", "F(2)", "(2)", "3 + 0", "20 + x", "F(20)")
        self.refused("1" + "0" * 18 + "x", "9" * 19 + "A", "1" * 19 + "(x)", "x + " + "1" * 19 + "y", "9" * 40 + "x")
        self.refused("-1x", "+1x", "1.5x", "1_0x", "1e3x", "-x", "2*x", "x2", "A2", "2 x", "2  x", "2 (x)", "2x3",
                     "x 2", "23", "2 3x", "1,000x", "0.0", "-0", "+0", "2A3", "2A3(x)", "(x)2", "F(x)2")

    def test_names_and_signs(self):
        self.refused("abcdefg", "ABCDEFG", "x + abcdefg", "F(abcdefg)", "ABCDEFG(x)", "2abcdefg", "aaaaaaaaaaaa",
                     "AAAAAAAAAAAA")
        self.refused("xA", "Ax", "aB(x)", "Ab(x)", "xAy", "Fx(y)", "X(x)y", "F(x)G", "F(x)x", "xF(x)")
        self.refused("x_", "_x", "x1", "x'", "x-y", "A_B", "x.y", "@", "#", "$x", "x;", "{x}", "[x]", "<x>", "F[x]",
                     "F{x}", "x&y", "x~", "!x", "x?", "\"x\"", "`x`", "^x", "x|y", "x=y", "x:y", "x/y", "x*2", "\\x")
        self.refused("x(y)", "x(0)", "2x(y)", "x()")

    def test_blanks(self):
        self.refused(" x", "x ", "x  + y", "x +  y", "x+y", "x +y", "x+ y", "x y", "x\t+ y", "x +\ty", "x\n+ y", "x\n",
                     "\nx", "\tx", "x\t", "x + \ny", "F (x)", "F( x)", "F(x )", "F(x,y)", "F(x,  y)", "F(x ,y)",
                     "F(x , y)", "F(x,\ty)", "F(x,\ny)", "( x)", "(x )", "(x) ", " (x)", "0 ", " 0", "F(x) ", "A ")

    def test_plus_signs(self):
        self.refused("+", " + ", "x +", "x + ", "+ x", " + x", "x + + y", "x ++ y", "x +  + y", "x + y +", "x + y + ",
                     "F(x + )", "F( + x)", "F(+)", "(x + )", "( + x)", "0 + ", " + 0", "x - y", "x , y")

    def test_commas(self):
        self.refused(",", ", ", "x, y", "x,", ", x", "(x, y)", "2(x, y)", "F(x, )", "F(, x)", "F(x, , y)", "F(,)",
                     "F(, )", "F(x,)", "F(x), y", "0, 0", "F(x, y,)", "F(x, y, )", "F((x, y))", "F(x,, y)", "F(x; y)")

    def test_brackets(self):
        self.refused("(", ")", "(x", "x)", "((x)", "(x))", "F(", "F(x", "F(x))", "F)", "F)(", ")x(", "F(x, (y)",
                     "F(x)(y)", "(x)(y)", "(x)y", "x(y", "()x", "(x)F", "F()()", "F(())", "2()", "2F()", "x + ()",
                     "x + F()", "F(x, ())", "F(G())", "F(G(x)", "(x + (y)", "x + y)", "F(x + y", "F(x, y", "F(x,",
                     "F(x, ", "F((x)", "(F(x)", "2(", "2)", "x + (", "x + )", "3(0", "[0]")

    def test_a_thing_of_four_parts(self):
        self.refused("F(x, y, x, y)", "F(0, 0, 0, 0)", "F(x, y, A, B, C)", "G(F(x, y, x, y))", "(F(x, y, x, y))",
                     "F(G(x, y, A, B), 0)", "F(x, y, A, )")

    def test_twenty_one_deep(self):
        self.refused("F(" * 21 + "x" + ")" * 21, "(" * 21 + "x" + ")" * 21, "F(" * 21 + "0" + ")" * 21,
                     "F((" * 10 + "(x)" + "))" * 10, "F((" * 10 + "F(x)" + "))" * 10, "2(" * 21 + "x" + ")" * 21,
                     "x + " + "F(" * 21 + "A" + ")" * 21, "F(x, " * 21 + "x" + ")" * 21,
                     "F(x, y, " + "(" * 20 + "x" + ")" * 21, "(" * 100 + "x" + ")" * 100, "(" * 299 + "x" + ")" * 299,
                     "F(" * 30 + "x" + ")" * 30)

    def test_brackets_that_open_alone(self):
        self.refused("(" * 600, "F(" * 300, ")" * 600, "(" * 20, "F(" * 20, "(" * 20 + "x" + ")" * 19)

    def test_six_hundred_and_one_signs(self):
        text = " + ".join(["x"] * 149 + ["xxxxx"])
        self.assertEqual(len(text), 601)
        self.refused(text, " + ".join(["x"] * 152), "F(" + " + ".join(["AB"] * 121) + ")", " + ".join(["x"] * 5000))
        text = "2F(" + " + ".join(["AB"] * 119 + ["0"]) + ")"
        self.refused(text + " ", "1" + text)

    def test_what_is_no_text(self):
        self.refused(None, 0, 1, 20, -1, 10 ** 18, True, False, (), ("x",), ((("any", "x"), 1),), [], ["x"], b"", b"x",
                     b"x + y", {}, {"x": 1}, set(), {"x"}, object())

    def test_what_is_handed_in_stays(self):
        things, table = ["x"], {"x": 1}
        self.refused(things, table)
        self.assertEqual((things, table), (["x"], {"x": 1}))


class AgainstASecondReading(unittest.TestCase):
    SIGNS = "xyFA0129 +,()\n@"

    def reads(self, text):
        try:
            read(text)
        except NoText:
            return False
        return True

    def spoilt(self, numbers, text):
        at, choice = numbers.below(len(text)), numbers.below(4)
        sign = self.SIGNS[numbers.below(len(self.SIGNS))]
        if choice == 0:
            return text[:at] + text[at + 1:]
        if choice == 1:
            return text[:at] + sign + text[at:]
        if choice == 2:
            return text[:at] + sign + text[at + 1:]
        return text[:at] + text[at:at + 3] + text[at:]

    def test_spoilt_texts(self):
        told = {True: 0, False: 0}
        for seed in range(3000):
            numbers = Numbers(seed)
            text = self.spoilt(numbers, written(numbers, 3)[0])
            told[is_text(text)] += 1
            self.assertEqual(self.reads(text), is_text(text), repr(text))
        self.assertGreater(min(told.values()), 500)

    def test_all_short_texts(self):
        texts = [""]
        for _ in range(4):
            texts = [text + sign for text in texts for sign in ("x", "F", "0", "2", "(", ")", ", ", " + ", " ")]
            for text in texts:
                self.assertEqual(self.reads(text), is_text(text), repr(text))


if __name__ == "__main__":
    unittest.main()
