"""Terms as texts (point 7)."""

import itertools
import re
import unittest

from equalkin.errors import BadText, EqualkinError
from equalkin.texts import read_term, write_term

TEXTS = {
    "x": "x",
    "a0123456789b": "a0123456789b",
    "x0": "x0",
    "zero()": ("zero",),
    "back(x)": ("back", "x"),
    "add(x, y)": ("add", "x", "y"),
    "f(x, y, z)": ("f", "x", "y", "z"),
    "f(f(), f(f))": ("f", ("f",), ("f", "f")),
    "add(back(zero()), add(x, back(x)))": ("add", ("back", ("zero",)), ("add", "x", ("back", "x"))),
    "a0123456789b(a0123456789c())": ("a0123456789b", ("a0123456789c",)),
    "f(g(), h(x), k(x, y), l(x, y, z1))": ("f", ("g",), ("h", "x"), ("k", "x", "y"), ("l", "x", "y", "z1")),
}


def could_begin(text):
    """Tell whether some text that begins so tells a term, by trying each way to end it."""
    missing = ")" * max(text.count("(") - text.count(")"), 0)
    return naive_term(text + missing) or naive_term(text + "w" + missing)


def naive_term(text):
    """Tell, token by token and without places, whether the text tells a term."""
    tokens = re.findall(r"[a-z0-9]+|.", text, re.DOTALL)
    tokens = [token for token in tokens if token != " "]
    rest = naive_rest(tokens)
    return rest == []


def naive_rest(tokens):
    """Return what is left behind a term with which the tokens begin, and None if they begin with none."""
    if not tokens or not re.fullmatch("[a-z][a-z0-9]{0,11}", tokens[0]):
        return None
    if tokens[1:2] != ["("]:
        return tokens[1:]
    if tokens[2:3] == [")"]:
        return tokens[3:]
    rest = naive_rest(tokens[2:])
    while rest is not None and rest[:1] == [","]:
        rest = naive_rest(rest[1:])
    return rest[1:] if rest is not None and rest[:1] == [")"] else None


def told_place(text):
    """Return the place that BadText must tell, and None for a text that tells a term."""
    if naive_term(text):
        return None
    return max(count for count in range(len(text) + 1) if could_begin(text[:count]))


class Write(unittest.TestCase):
    def test_texts(self):
        for text, term in TEXTS.items():
            self.assertEqual(write_term(term), text)

    def test_deep(self):
        term = "x"
        for _ in range(40):
            term = ("f", term)
        self.assertEqual(write_term(term), "f(" * 40 + "x" + ")" * 40)


class Read(unittest.TestCase):
    def refused(self, text, place):
        with self.assertRaises(BadText) as caught:
            read_term(text)
        self.assertEqual(caught.exception.place, place, repr(text))
        self.assertIs(type(caught.exception), BadText)
        self.assertIsInstance(caught.exception, EqualkinError)

    def fits(self, text):
        place = told_place(text)
        if place is None:
            self.assertEqual(write_term(read_term(text)).replace(" ", ""), text.replace(" ", ""))
        else:
            self.refused(text, place)

    def test_texts(self):
        for text, term in TEXTS.items():
            self.assertEqual(read_term(text), term)

    def test_kinds(self):
        term = read_term("f(g(x), y)")
        self.assertIs(type(term), tuple)
        self.assertIs(type(term[1]), tuple)
        self.assertIs(type(term[2]), str)

    def test_blanks_at_each_place_that_takes_them(self):
        for text, term in TEXTS.items():
            for blanks in ("", " ", "   "):
                spread = re.sub(r"([a-z0-9]+|[(),])", blanks + r"\1" + blanks, text.replace(" ", ""))
                self.assertEqual(read_term(spread), term)
        self.assertEqual(read_term("  x  "), "x")
        self.assertEqual(read_term("f( )"), ("f",))
        self.assertEqual(read_term("f    (    )   "), ("f",))
        self.assertEqual(read_term(" f ( x , g ( ) , y ) "), ("f", "x", ("g",), "y"))

    def test_no_blanks(self):
        self.assertEqual(read_term("f(x,g(),y)"), ("f", "x", ("g",), "y"))

    def test_forty_signs_and_two_thousand_characters(self):
        deep = "f(" * 40 + "x" + ")" * 40
        self.assertEqual(write_term(read_term(deep)), deep)
        self.refused(deep[:-1], len(deep) - 1)
        self.refused(deep + ")", len(deep))
        self.refused("f(" * 40, 80)
        side = "f(x, " * 40 + "y" + ")" * 40
        self.assertEqual(write_term(read_term(side)), side)
        wide = "f(" + "x, " * 664 + "abcdef)"
        self.assertEqual(len(wide), 2001)
        self.assertEqual(len(read_term(wide)), 666)
        self.assertEqual(write_term(read_term(wide)), wide)
        self.refused(wide[:-1], 2000)
        self.assertEqual(read_term(" " * 1999 + "x"), "x")
        self.refused(" " * 2000, 2000)

    def test_nothing_and_blanks_alone(self):
        self.refused("", 0)
        self.refused(" ", 1)
        self.refused("     ", 5)

    def test_cut_off_at_each_place(self):
        text = " f ( ab , g ( ) , h ( k ( c1 ) , d ) ) "
        end = text.rindex(")") + 1
        for place in range(end):
            if text[:place].strip() != "f":
                self.refused(text[:place], place)
        self.assertEqual(read_term(text[:2]), "f")
        self.assertEqual(read_term(text[:end]), read_term(text))

    def test_long_words(self):
        self.refused("abcdefghijklm", 12)
        self.refused("a123456789012", 12)
        self.refused("  abcdefghijklm", 14)
        self.refused("abcdefghijklm(x)", 12)
        self.refused("f(abcdefghijklm)", 14)
        self.refused("f(x, abcdefghijklmno)", 17)
        self.assertEqual(read_term("f(abcdefghijkl)"), ("f", "abcdefghijkl"))

    def test_words_that_begin_otherwise(self):
        for text in ("1", "1x", "X", "_", "-x", "\u00e9", "\u00df", "\u0661"):
            self.refused(text, 0)
            self.refused(f"f({text})", 2)
            self.refused(f"f(x, {text})", 5)
            self.refused(f"  {text}", 2)

    def test_characters_that_no_word_has(self):
        for sign in ("X", "_", "-", "\u00e9", "\u0661", ".", "'", "[", "\x00"):
            self.refused(f"ab{sign}c", 2)
            self.refused(f"f(ab{sign})", 4)
            self.refused(f"f(){sign}", 3)

    def test_blank_within_a_word(self):
        self.refused("a b", 2)
        self.refused("a   b", 4)
        self.refused("a 1", 2)
        self.refused("f(a b)", 4)
        self.refused("f g(x)", 2)

    def test_signs_where_a_term_must_stand(self):
        for text, place in {
            ",": 0, ")": 0, "(": 0, "()": 0, "(x)": 0, " ,": 1, "f(,": 2, "f(,x)": 2, "f( ,x)": 3, "f(x,)": 4, "f(x, )": 5,
            "f(x,,y)": 4, "f((x))": 2, "f(x, (y))": 5, "f()(x)": 3, "f(x)(y)": 4, "f(g()())": 5, "f(g(), )": 7,
        }.items():
            self.refused(text, place)

    def test_something_behind_a_whole_term(self):
        for text, place in {
            "x,": 1, "x)": 1, "x y": 2, "x , y": 2, "x,y": 1, "f()x": 3, "f() x": 4, "f(x))": 4, "f(x) )": 5, "f(x),": 4,
            "f(x)y": 4, "f(x) 1": 5, "f(g()x)": 5, "f(g() x)": 6,
        }.items():
            self.refused(text, place)

    def test_other_white_characters(self):
        for white in ("\t", "\n", "\r", "\u00a0", "\x0b", "\x0c", "\u2003"):
            self.refused(white, 0)
            self.refused(white + "x", 0)
            self.refused("x" + white, 1)
            self.refused("x " + white, 2)
            self.refused(f"f({white})", 2)
            self.refused(f"f(x,{white}y)", 4)
            self.refused(f"f({white}x, y)", 2)
            self.refused(f"f{white}(x)", 1)

    def test_all_short_texts(self):
        for count in range(7):
            for signs in itertools.product("x(,) ", repeat=count):
                self.fits("".join(signs))

    def test_one_character_put_in_taken_away_or_exchanged(self):
        for text in ("f(ab, g(), h(x, y2, z))", " f ( g ( x ) , abcdefghijkl ) ", "a0123456789b(x)"):
            for place in range(len(text) + 1):
                self.fits(text[:place] + text[place + 1:])
                for sign in "x7(,) X\t":
                    self.fits(text[:place] + sign + text[place:])
                    self.fits(text[:place] + sign + text[place + 1:])


if __name__ == "__main__":
    unittest.main()
