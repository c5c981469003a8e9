import string
import unittest

from knewby.words import is_hour, is_name, is_whole
from tests.things import no_texts, no_texts_or_numbers

KEPT = ["person", "talk", "saw", "knew", "heard", "told", "not", "nobody", "never", "by", "from", "to"]


class Wholes(unittest.TestCase):
    def test_ints_are_whole_numbers(self):
        for thing in (-(10 ** 30), -1, 0, 1, 2, 10 ** 18, 10 ** 18 + 1, 10 ** 30):
            with self.subTest(thing=thing):
                self.assertIs(is_whole(thing), True)

    def test_truths_are_none(self):
        self.assertIs(is_whole(True), False)
        self.assertIs(is_whole(False), False)

    def test_other_kinds_are_none(self):
        for thing in no_texts_or_numbers() + [None, "", "0", "1", "ann"]:
            with self.subTest(thing=thing):
                self.assertIs(is_whole(thing), False)


class Hours(unittest.TestCase):
    def test_from_nought_to_the_bound(self):
        for thing in (0, 1, 23, 10 ** 18 - 1, 10 ** 18):
            with self.subTest(thing=thing):
                self.assertIs(is_hour(thing), True)

    def test_none_beyond(self):
        for thing in (-(10 ** 18), -2, -1, 10 ** 18 + 1, 10 ** 18 + 2, 10 ** 30):
            with self.subTest(thing=thing):
                self.assertIs(is_hour(thing), False)

    def test_truths_are_none(self):
        self.assertIs(is_hour(True), False)
        self.assertIs(is_hour(False), False)

    def test_other_kinds_are_none(self):
        for thing in no_texts_or_numbers() + [None, "", "0", "1", "ann"]:
            with self.subTest(thing=thing):
                self.assertIs(is_hour(thing), False)


class Names(unittest.TestCase):
    def test_each_small_letter_is_one(self):
        for letter in string.ascii_lowercase:
            with self.subTest(letter=letter):
                self.assertIs(is_name(letter), True)

    def test_all_letters_stand_in_all_places(self):
        for letter in string.ascii_lowercase:
            for name in (letter + "bc", "a" + letter + "c", "ab" + letter):
                with self.subTest(name=name):
                    self.assertIs(is_name(name), True)

    def test_lengths(self):
        for length in range(1, 13):
            with self.subTest(length=length):
                self.assertIs(is_name("x" * length), True)
        for length in (0, 13, 14, 100, 10000):
            with self.subTest(length=length):
                self.assertIs(is_name("x" * length), False)

    def test_kept_words_are_none(self):
        for word in KEPT:
            with self.subTest(word=word):
                self.assertIs(is_name(word), False)

    def test_words_about_the_kept_ones_are_names(self):
        for word in KEPT:
            for name in (word + "s", "x" + word, word[:-1]):
                with self.subTest(name=name):
                    self.assertIs(is_name(name), True)

    def test_other_words_of_the_document_are_names(self):
        for name in ("both", "one", "unheard", "silent", "barred", "book", "early", "late", "undo", "persons", "none"):
            with self.subTest(name=name):
                self.assertIs(is_name(name), True)

    def test_other_signs_at_each_place(self):
        signs = list(string.ascii_uppercase + string.digits + string.punctuation + " \n\t\r\0`{")
        signs += ["\u00e4", "\u00df", "\u00aa", "\u03b1", "\u0430", "\uff41", "\u0131", "\u017f", "\u0663", "\U0001d41a"]
        for sign in signs:
            for text in (sign, sign + "nna", "an" + sign + "na", "anna" + sign):
                with self.subTest(text=text):
                    self.assertIs(is_name(text), False)

    def test_a_line_feed_at_the_end(self):
        for text in ("a\n", "anna\n", "x" * 11 + "\n", "x" * 12 + "\n"):
            with self.subTest(text=text):
                self.assertIs(is_name(text), False)

    def test_other_kinds_are_none(self):
        for thing in no_texts():
            with self.subTest(thing=thing):
                self.assertIs(is_name(thing), False)


if __name__ == "__main__":
    unittest.main()
