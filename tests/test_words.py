"""Promises 2, 3 and 38: lines of words."""

import unittest

from laterline.errors import NoLine
from laterline.words import read_line, show_line
from tests.helpers import Case, odd_things

LONG = "9" * 60
LINES = {
    "write 0 set a 1": ("write", 0, ("set", "a", 1)),
    "write 12 set abcdefghijkl -5": ("write", 12, ("set", "abcdefghijkl", -5)),
    "write 0 set set 0": ("write", 0, ("set", "set", 0)),
    f"write 0 set a {LONG}": ("write", 0, ("set", "a", int(LONG))),
    "write 3 cut b": ("write", 3, ("cut", "b")),
    "write -1 cut cut": ("write", -1, ("cut", "cut")),
    "follow 1 0": ("follow", 1, 0),
    "ask 2": ("ask", 2),
    "give 0": ("give", 0),
    "give 1999": ("give", 1999),
    "lose 7": ("lose", 7),
    "apply 1": ("apply", 1, None),
    "apply 1 0": ("apply", 1, 0),
    "apply 1 -20": ("apply", 1, -20),
    "done 0": ("done", 0),
    "takeover 1": ("takeover", 1, (), False),
    "takeover 1 0": ("takeover", 1, (0,), False),
    "takeover 1 0 2 3 0 -1": ("takeover", 1, (0, 2, 3, 0, -1), False),
    "force 1": ("takeover", 1, (), True),
    "force 1 1 0": ("takeover", 1, (1, 0), True),
    "rejoin 0 1": ("rejoin", 0, 1),
    "renew 5 6": ("renew", 5, 6),
    "trim 0": ("trim", 0),
    "free 0 7": ("free", 0, 7),
    "forget 0 100": ("forget", 0, 100),
    "read 0 a": ("read", 0, "a", None),
    "read 0 at": ("read", 0, "at", None),
    "read 0 at at 5": ("read", 0, "at", 5),
    f"read 0 key at -{LONG}": ("read", 0, "key", -int(LONG)),
    "log 0": ("log", 0),
    "table 3": ("table", 3),
    "lines": ("lines",),
}
NO_NUMBERS = ["", "00", "01", "-0", "-00", "-01", "+1", "1.0", "1.", ".5", "1e3", "0x1", "1_0", "a", "--1", "-", "1-",
              "9" * 61, "-" + "9" * 61, "\u0661", "\u00b2", "\uff11", "1\n", "\t1", "None", "True", "1,", "(1)", "one"]
NO_KEYS = ["", "A", "aB", "a1", "a-b", "a_b", "abcdefghijklm", "\u00e4", "a\n", "\ta", "1", "-", "a."]


class WordsTest(Case):

    def none(self, text):
        self.refused(NoLine, {"at": 0}, read_line, text)

    def test_each_word_is_read(self):
        for line, deed in LINES.items():
            self.same(read_line(line), deed)

    def test_each_word_is_shown(self):
        for line, deed in LINES.items():
            self.same(show_line(deed), line)

    def test_there_is_a_line_of_each_word(self):
        words = {line.split(" ")[0] for line in LINES}
        self.assertEqual(words, set("write follow ask give lose apply done takeover force rejoin renew trim free "
                                    "forget read log table lines".split()))

    def test_numbers(self):
        for text in ("0", "1", "9", "10", "-1", "-9", "-10", "1" + "0" * 59, LONG, "-" + LONG):
            for form in ("ask {}", "follow {} 0", "follow 0 {}", "apply 0 {}", "takeover {}", "force 0 1 {}",
                         "write 0 set a {}", "read 0 a at {}", "forget 0 {}"):
                line = form.format(text)
                self.assertIn(int(text), [part for one in read_line(line)
                                          for part in (one if isinstance(one, tuple) else (one,))])
                self.same(show_line(read_line(line)), line)

    def test_what_is_no_number(self):
        for text in NO_NUMBERS:
            for form in ("write {} cut a", "write {} set a 1", "write 0 set a {}", "follow {} 0", "follow 0 {}",
                         "ask {}", "give {}", "lose {}", "apply {}", "apply {} 1", "apply 0 {}", "done {}",
                         "takeover {}", "takeover 0 {}", "takeover 0 {} 1", "force {}", "force 0 1 {}", "rejoin {} 0",
                         "rejoin 0 {}", "renew {} 0", "renew 0 {}", "trim {}", "free {} 0", "free 0 {}", "forget {} 0",
                         "forget 0 {}", "read {} a", "read {} a at 1", "read 0 a at {}", "log {}", "table {}"):
                self.none(form.format(text))

    def test_what_is_no_key(self):
        for text in NO_KEYS:
            for form in ("write 0 set {} 1", "write 0 cut {}", "read 0 {}", "read 0 {} at 1"):
                self.none(form.format(text))

    def test_a_word_fewer(self):
        for line in LINES:
            words = line.split(" ")
            for at in range(len(words)):
                fewer = " ".join(words[:at] + words[at + 1:])
                if fewer not in LINES and words[0] not in ("takeover", "force", "apply"):
                    self.none(fewer)
        for line in ("takeover", "force", "apply", "read", "read 0", "read 0 a at", "write", "write 0", "write 0 set",
                     "write 0 set a", "write 0 cut", "follow", "follow 1", "ask", "log", "table"):
            self.none(line)

    def test_a_word_more(self):
        for line in LINES:
            for word in ("a", "at", "set", "-", ""):
                self.none(f"{line} {word}")
            if line.split(" ")[0] not in ("takeover", "force", "apply"):
                self.none(line + " 0")
            self.none("x " + line)
            self.none("0 " + line)
        self.none("apply 1 2 3")
        self.none("read 0 a at 1 1")
        self.none("write 0 cut a 1")
        self.none("lines 0")

    def test_blanks(self):
        for line in LINES:
            self.none(" " + line)
            self.none(line + " ")
            for at in range(line.count(" ")):
                words = line.split(" ")
                for between in ("  ", "\t", "\n", " \t", "\u00a0", "\r"):
                    self.none(" ".join(words[:at + 1]) + between + " ".join(words[at + 1:]))

    def test_line_ends_and_tabs(self):
        for line in LINES:
            for sign in ("\n", "\r", "\t", "\r\n", "\0", "\u2028", "\f"):
                self.none(line + sign)
                self.none(sign + line)

    def test_other_words(self):
        for line in ("", " ", "Write 0 cut a", "WRITE 0 cut a", "write 0 put a 1", "write 0 Set a 1", "writes 0 cut a",
                     "read 0 a of 1", "read 0 a At 1", "forced 1", "take over 1", "line", "marks 0", "history 0",
                     "calm", "letter 0", "lying", "trail", "many", "0", "a", "write 0 cut a set a 1", "lines\n",
                     "log_rows 0"):
            self.none(line)

    def test_what_is_no_text(self):
        for thing in odd_things() + [("lines",), ["lines"], b"lines", 0, 1]:
            self.none(thing)

    def test_what_was_read_is_shown_and_what_was_shown_is_read(self):
        for line in LINES:
            self.same(read_line(show_line(read_line(line))), read_line(line))


if __name__ == "__main__":
    unittest.main()
