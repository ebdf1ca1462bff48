import itertools
import unittest

from frameland.errors import NoRow
from frameland.texts import read_row, show_row

SIXTY = "9" * 60
SIXTY_ONE = "1" + "0" * 60
ROWS = [
    ("new", ("new",)),
    ("fork 3", ("fork", 3)),
    ("end 0", ("end", 0)),
    ("bank 64", ("bank", 64)),
    ("drop 10", ("drop", 10)),
    ("lay 0 4 2 r-", ("lay", 0, 4, 2, 1, None, 0)),
    ("lay 0 4 2 rw 1 3", ("lay", 0, 4, 2, 3, 1, 3)),
    ("lay 0 4 2 rw 0 0", ("lay", 0, 4, 2, 3, 0, 0)),
    ("lift 1 2 3", ("lift", 1, 2, 3)),
    ("guard 0 4 2 r-", ("guard", 0, 4, 2, 1)),
    ("read 1 20", ("read", 1, 20)),
    ("write 1 20 7", ("write", 1, 20, 7)),
    ("write 1 20 -7", ("write", 1, 20, -7)),
    ("write 1 20 0", ("write", 1, 20, 0)),
    ("fold", ("fold",)),
    ("see 2 5", ("see", 2, 5)),
    ("laid 2", ("laid", 2)),
    ("live", ("live",)),
]


class RowsTest(unittest.TestCase):
    def refused(self, text):
        with self.subTest(text=text):
            with self.assertRaises(NoRow):
                read_row(text)

    def test_each_form_read_and_shown_again(self):
        for text, deed in ROWS:
            with self.subTest(text=text):
                self.assertEqual(read_row(text), deed)
                self.assertIsInstance(read_row(text), tuple)
                self.assertEqual(show_row(deed), text)
                self.assertEqual([type(part) for part in read_row(text)], [type(part) for part in deed])

    def test_every_rights(self):
        for rights, word in enumerate(("--", "r-", "-w", "rw")):
            for text, deed in (
                (f"lay 5 6 7 {word}", ("lay", 5, 6, 7, rights, None, 0)),
                (f"lay 5 6 7 {word} 8 9", ("lay", 5, 6, 7, rights, 8, 9)),
                (f"guard 5 6 7 {word}", ("guard", 5, 6, 7, rights)),
            ):
                self.assertEqual(read_row(text), deed)
                self.assertEqual(show_row(deed), text)

    def test_numbers_of_one_and_of_sixty_figures(self):
        for number in ("0", "1", "9", "10", "100", "123456789", SIXTY, "1" + "0" * 59):
            for text, deed in ROWS:
                words = text.split(" ")
                for place in range(1, len(words)):
                    if words[place].lstrip("-").isdigit():
                        other = words[:place] + [number] + words[place + 1:]
                        expected = list(deed)
                        expected[place] = int(number)
                        self.assertEqual(read_row(" ".join(other)), tuple(expected))
                        self.assertEqual(show_row(tuple(expected)), " ".join(other))

    def test_values_below_nought(self):
        for number in ("-1", "-10", "-" + SIXTY, "-" + "1" + "0" * 59):
            self.assertEqual(read_row(f"write 0 1 {number}"), ("write", 0, 1, int(number)))
            self.assertEqual(show_row(("write", 0, 1, int(number))), f"write 0 1 {number}")

    def test_blanks_ahead_behind_and_doubled(self):
        for text, deed in ROWS:
            self.refused(" " + text)
            self.refused(text + " ")
            self.refused("  " + text + "  ")
            for place, sign in enumerate(text):
                if sign == " ":
                    self.refused(text[:place] + " " + text[place:])
                    self.refused(text[:place] + text[place + 1:])
                    for other in ("\t", "\n", "\u00a0", ",", "_", "\v", ";"):
                        self.refused(text[:place] + other + text[place + 1:])
            for other in ("\n", "\r", "\t", "\r\n", "\0", "\u2028"):
                self.refused(text + other)
                self.refused(other + text)

    def test_a_word_more_or_less(self):
        texts = {text for text, deed in ROWS}
        for text, deed in ROWS:
            words = text.split(" ")
            for word in ("0", "1", "-1", "rw", "new", "x"):
                for place in range(len(words) + 1):
                    self.refused(" ".join(words[:place] + [word] + words[place:]))
            for place in range(len(words)):
                shorter = " ".join(words[:place] + words[place + 1:])
                if shorter not in texts:
                    self.refused(shorter)

    def test_numbers_that_are_none(self):
        wrong = ["00", "01", "007", "+1", "+0", "-0", "--1", "-", "+", "", "1.0", "1e3", "0x1", "1_0", "1-", "-01",
                 "-00", "a", "1a", "a1", "r-", "--", "rw", "1%", "%", "\u0661", "\u00b2", "\uff11", "\u0967", "one",
                 "None", "1,", "~", "-a", "- 1", "+-1", "-+1", SIXTY_ONE, "-" + SIXTY_ONE, "0" + SIXTY,
                 "0" * 60, "1" * 300]
        for text, deed in ROWS:
            words = text.split(" ")
            for place in range(1, len(words)):
                if words[place].lstrip("-").isdigit():
                    for word in wrong:
                        self.refused(" ".join(words[:place] + [word] + words[place + 1:]))

    def test_only_a_value_may_have_a_sign(self):
        for text, deed in ROWS:
            words = text.split(" ")
            for place in range(1, len(words)):
                if words[place].isdigit() and not (words[0] == "write" and place == 3):
                    for word in ("-1", "-5", "-" + SIXTY):
                        self.refused(" ".join(words[:place] + [word] + words[place + 1:]))

    def test_other_rights(self):
        right = {"--", "r-", "-w", "rw"}
        wrong = [one + other for one, other in itertools.product("rw-RWx0 ", repeat=2) if one + other not in right]
        wrong += ["r", "w", "-", "", "rw-", "-rw", "rwx", "---", "r--", "0", "3", "1", "rw ", "r w", "RW"]
        for word in wrong:
            self.refused(f"lay 0 4 2 {word}")
            self.refused(f"lay 0 4 2 {word} 1 3")
            self.refused(f"guard 0 4 2 {word}")

    def test_other_words(self):
        for word in ("New", "NEW", "news", "ne", "", "new_task", "task", "forks", "see", "read", "lay", "write",
                     "fold 0", "live 0", "%", "n%w", "new%", "0", "-", "ok", "n\u00e9w", "new;fold", "\u00a0"):
            self.refused(word)
        for text, deed in ROWS:
            words = text.split(" ")
            for word in (words[0].upper(), words[0].capitalize(), words[0] + "s", words[0][:-1], "", "x"):
                self.refused(" ".join([word] + words[1:]))

    def test_arguments_bear_their_names(self):
        self.assertEqual(show_row(deed=read_row(text="guard 0 4 2 r-")), "guard 0 4 2 r-")


if __name__ == "__main__":
    unittest.main()
