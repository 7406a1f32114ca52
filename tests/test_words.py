import inspect
import unittest

from coolbook import words
from coolbook.errors import BadName
from coolbook.words import is_name, is_whole, need_name, number_of, words_of

from helper import BARRED, odd_numbers, odd_texts, odd_things, odd_tuples, refusal_of

SIGNS = [chr(code) for code in range(32, 127)] + ["\n"]


class Interface(unittest.TestCase):
    def test_names_and_arguments(self):
        told = {
            "is_whole": ["thing", "least", "most"],
            "is_name": ["thing"],
            "number_of": ["word"],
            "words_of": ["line"],
        }
        for name, arguments in told.items():
            with self.subTest(name):
                self.assertEqual(list(inspect.signature(getattr(words, name)).parameters), arguments)


class Wholes(unittest.TestCase):
    def test_both_bounds_and_one_beyond_each(self):
        for least, most in ((0, 999), (-60, 60), (5, 5), (-9, -3)):
            with self.subTest(least=least, most=most):
                self.assertIs(is_whole(least, least, most), True)
                self.assertIs(is_whole(most, least, most), True)
                self.assertIs(is_whole(least - 1, least, most), False)
                self.assertIs(is_whole(most + 1, least, most), False)

    def test_between(self):
        self.assertIs(is_whole(7, 0, 999), True)
        self.assertIs(is_whole(0, -60, 60), True)

    def test_truths_are_no_whole_numbers(self):
        self.assertIs(is_whole(True, 0, 9), False)
        self.assertIs(is_whole(False, 0, 9), False)
        self.assertIs(is_whole(1, 0, 9), True)
        self.assertIs(is_whole(0, 0, 9), True)

    def test_numbers_of_thousands_of_figures(self):
        many = 10 ** 5000
        self.assertIs(is_whole(many, 0, 999), False)
        self.assertIs(is_whole(-many, 0, 999), False)
        self.assertIs(is_whole(many, 0, many), True)

    def test_of_anything(self):
        for label, thing in odd_things() + odd_tuples() + odd_texts():
            with self.subTest(label):
                self.assertIs(is_whole(thing, -1, 2_000), False)
        self.assertIs(is_whole("1", 0, 9), False)


class Names(unittest.TestCase):
    def test_one_to_six_letters(self):
        for name in ("a", "z", "ab", "abcdef", "zzzzzz", "qwerty", "room"):
            with self.subTest(name):
                self.assertIs(is_name(name), True)

    def test_every_letter_by_itself(self):
        for sign in SIGNS:
            with self.subTest(sign):
                self.assertIs(is_name(sign), "a" <= sign <= "z")
                self.assertIs(is_name("a" + sign), "a" <= sign <= "z" and sign != "t")
                self.assertIs(is_name(sign + "bcdef"), "a" <= sign <= "z")
                self.assertIs(is_name("abcde" + sign), "a" <= sign <= "z")
                self.assertIs(is_name("ab" + sign + "de"), "a" <= sign <= "z")

    def test_none_and_seven_letters(self):
        self.assertIs(is_name(""), False)
        self.assertIs(is_name("abcdefg"), False)

    def test_barred_words(self):
        for word in BARRED:
            with self.subTest(word):
                self.assertIs(is_name(word), False)
                self.assertIs(is_name(word + "s"), True)
                self.assertIs(is_name("x" + word), True)
                self.assertIs(is_name(word[:-1]), True)

    def test_words_of_other_texts_are_names(self):
        for word in ("hour", "bring", "move", "part", "pour", "let", "back", "again", "leg", "lots", "best", "peaks"):
            with self.subTest(word):
                self.assertIs(is_name(word), True)

    def test_other_signs(self):
        for word in ("A", "Ab", "aB", "a1", "1", "a b", " a", "a ", "a\n", "\na", "a\tb", "a-b", "a_b", "a.", "a\r"):
            with self.subTest(word):
                self.assertIs(is_name(word), False)

    def test_letters_of_other_scripts(self):
        for word in ("\u00e9", "a\u00df", "\u03b1", "\u00aa", "\uff41", "\u0131"):
            with self.subTest(ascii(word)):
                self.assertIs(is_name(word), False)

    def test_of_anything(self):
        for label, thing in odd_things() + odd_tuples() + odd_numbers() + odd_texts():
            with self.subTest(label):
                self.assertIs(is_name(thing), False)
                self.assertIs(refusal_of(need_name, thing), BadName)
        for thing in (0, 1, ("a",), ["a"], b"abc"):
            self.assertIs(is_name(thing), False)

    def test_need_name(self):
        self.assertIsNone(need_name("room"))
        for word in BARRED + ("", "abcdefg", "A"):
            self.assertIs(refusal_of(need_name, word), BadName)


class Numbers(unittest.TestCase):
    def test_every_number(self):
        for number in range(-9_999, 10_000):
            self.assertEqual(number_of(str(number)), number)

    def test_bounds(self):
        self.assertEqual(number_of("9999"), 9_999)
        self.assertEqual(number_of("-9999"), -9_999)
        self.assertIsNone(number_of("10000"))
        self.assertIsNone(number_of("-10000"))

    def test_what_is_told_is_an_int(self):
        for word in ("0", "7", "-7"):
            self.assertIs(number_of(word).__class__, int)

    def test_one_word_for_each_number(self):
        for word in ("-0", "00", "000", "07", "-07", "-00", "0000", "0999", "00001", "-00001", "+1", "+0", "--1", "-+1"):
            with self.subTest(word):
                self.assertIsNone(number_of(word))

    def test_what_tells_no_number(self):
        for word in ("", "-", "--", "a", "1a", "a1", "1-", "1-1", "1.0", "1e3", "1_0", "0x1", "1,0", "ten", "None"):
            with self.subTest(word):
                self.assertIsNone(number_of(word))

    def test_blanks_and_line_ends_beside_figures(self):
        for word in ("1", "-1", "0", "12", "999"):
            for sign in (" ", "\n", "\t", "\r", "\x0b"):
                with self.subTest(word=word, sign=sign):
                    self.assertIsNone(number_of(word + sign))
                    self.assertIsNone(number_of(sign + word))
                    self.assertIsNone(number_of("-" + sign + word))
                    self.assertIsNone(number_of("1" + sign + word))

    def test_each_sign_by_itself(self):
        for sign in SIGNS:
            with self.subTest(sign):
                self.assertEqual(number_of(sign), int(sign) if "0" <= sign <= "9" else None)

    def test_figures_of_other_scripts(self):
        for word in ("\u0661", "\u00b2", "\uff11", "1\u0662", "\u2460", "-\u0663"):
            with self.subTest(ascii(word)):
                self.assertIsNone(number_of(word))

    def test_thousands_of_figures(self):
        for many in (5, 4_299, 4_300, 4_301, 5_000, 20_000):
            for ahead in ("", "-", "+", "0", "-0"):
                with self.subTest(many=many, ahead=ahead):
                    self.assertIsNone(number_of(ahead + "1" * many))
                    self.assertIsNone(number_of(ahead + "0" * many))

    def test_of_anything(self):
        for label, thing in odd_things() + odd_tuples() + odd_numbers() + odd_texts():
            with self.subTest(label):
                self.assertIsNone(number_of(thing))
        for thing in (0, 1, -5, b"1", ("1",), ["1"], 1.0):
            self.assertIsNone(number_of(thing))


class Lines(unittest.TestCase):
    def test_one_blank_between(self):
        self.assertEqual(words_of("page a 0 5"), ["page", "a", "0", "5"])
        self.assertEqual(words_of("a"), ["a"])
        self.assertEqual(words_of("a b"), ["a", "b"])
        self.assertEqual(words_of("a a a"), ["a", "a", "a"])

    def test_other_blanks(self):
        for line in ("", " ", "  ", " a", "a ", " a ", "a  b", "a b  c", "a   b", "  a b", "a b  "):
            with self.subTest(line):
                self.assertIsNone(words_of(line))

    def test_other_signs_are_of_words(self):
        self.assertEqual(words_of("a\tb"), ["a\tb"])
        self.assertEqual(words_of("a\nb"), ["a\nb"])
        self.assertEqual(words_of("a\n b"), ["a\n", "b"])
        self.assertEqual(words_of("a \nb"), ["a", "\nb"])
        self.assertEqual(words_of("\n"), ["\n"])
        self.assertEqual(words_of("a b\n"), ["a", "b\n"])
        self.assertEqual(words_of("a \n b"), ["a", "\n", "b"])
        self.assertEqual(words_of("a,b;c"), ["a,b;c"])
        self.assertEqual(words_of("A -0 ~!"), ["A", "-0", "~!"])

    def test_every_sign_but_the_blank(self):
        for sign in SIGNS:
            with self.subTest(sign):
                self.assertEqual(words_of("a" + sign + "b"), ["a", "b"] if sign == " " else ["a" + sign + "b"])

    def test_long_lines(self):
        self.assertEqual(words_of("a " * 9_999 + "a"), ["a"] * 10_000)
        self.assertEqual(words_of("1" * 20_000), ["1" * 20_000])

    def test_words_with_blanks_between_make_the_line(self):
        for line in ("a", "a b", "page room 12 -3 0 4", "x\ny z"):
            self.assertEqual(" ".join(words_of(line)), line)

    def test_the_list_is_the_askers_own(self):
        told = words_of("a b c")
        told.append("d")
        told[0] = "z"
        self.assertEqual(words_of("a b c"), ["a", "b", "c"])

    def test_of_anything(self):
        for label, thing in odd_things() + odd_tuples() + odd_numbers():
            with self.subTest(label):
                self.assertIsNone(words_of(thing))
        for thing in (0, 7, ("a", "b"), ["a b"], b"a b"):
            self.assertIsNone(words_of(thing))
        for label, text in odd_texts():
            with self.subTest(label):
                self.assertTrue(words_of(text) == [text])


class Again(unittest.TestCase):
    def test_asked_again_the_same_is_told(self):
        for word in ("a", "at", "7", "-0", "", "a b", "a  b"):
            with self.subTest(word):
                self.assertEqual(is_name(word), is_name(word))
                self.assertEqual(number_of(word), number_of(word))
                self.assertEqual(words_of(word), words_of(word))


if __name__ == "__main__":
    unittest.main()
