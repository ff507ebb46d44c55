"""Points 78 and 80 to 82: reading the texts of heaps, trees and logs."""

import itertools
import unittest

from slotfall.errors import InvalidHeap, InvalidTree, ParseError
from slotfall.formatting import format_heap, format_log, format_tree
from slotfall.heaps import make_heap
from slotfall.parsing import parse_heap, parse_log, parse_tree
from slotfall.trees import make_tree
from tests.plain_trees import BACKWARDS_40, PATH_40, STAR_40
from tests.support import EMPTY, LONG_PATH, WIDE_STAR, StrictCase

LONG = "9" * 5000
# Words that are no number at all; the sign and the blanks of a text are told apart by their places.
NO_NUMBERS = ["", "00", "01", "007", "+1", "-1", "+0", "-0", "1.", "1.0", "1e1", "0x1", "1_0", "a", "A", "x1", "1x",
              "--", "*", "Free", "FREE", "frees", "fre", "None", "\t", "1\t", "\t1", "1,", "'1'", "(1)"]


def is_plain_number(word):
    return word != "" and all(sign in "0123456789" for sign in word) and (word == "0" or word[0] != "0")


def plain_heap_error(text):
    """The line and the word of the first problem that point 80 names, None if there is none."""
    if text == "":
        return None
    lines = [line.split(" ") for line in text.split("\n")]
    for line, words in enumerate(lines):
        if line == 40:
            return (40, 0)
        if words[0] != "free" and words[0] not in list("0123456789"):
            return (line, 0)
        for word in range(1, len(words)):
            good = words[word] == "-" or is_plain_number(words[word]) and int(words[word][:9]) < len(lines)
            if words[0] == "free" or word == 41 or not good:
                return (line, word)
    slots = [None if words[0] == "free" else [None if word == "-" else int(word) for word in words[1:]]
             for words in lines]
    outside = [0 if words[0] == "free" else int(words[0]) for words in lines]
    try:
        make_heap(slots, outside)
    except InvalidHeap as error:
        return (error.node, 0)
    return None


def plain_tree_error(text):
    """The same for point 81."""
    lines = [line.split(" ") for line in text.split("\n")]
    for line, words in enumerate(lines):
        if line == 40:
            return (40, 0)
        for word in range(len(words)):
            good = is_plain_number(words[word]) and int(words[word][:9]) < len(lines)
            if words[0] == "-":
                good = word == 0
            if not good:
                return (line, word)
    try:
        make_tree([[] if words == ["-"] else [int(word) for word in words] for words in lines])
    except InvalidTree as error:
        return (max(error.node, 0), 0)
    return None


class Parsing(StrictCase):
    def refused(self, call, text, line, word):
        self.fails(ParseError, {"line": line, "word": word}, call, text)
        self.fails(ParseError, {"line": line, "word": word}, call, text=text)

    def all_texts(self, call, back, plain_error, words, most_words, most_lines):
        """Every text of a few words; what is read is written back as it was."""
        rows = [" ".join(row) for many in range(1, most_words + 1) for row in itertools.product(words, repeat=many)]
        good = 0
        for many in range(1, most_lines + 1):
            for lines in itertools.product(rows, repeat=many):
                text = "\n".join(lines)
                error = plain_error(text)
                if error is None:
                    good += 1
                    self.check(back(call(text)), text)
                else:
                    self.refused(call, text, *error)
        return good


class ParseHeapTest(Parsing):
    def test_examples(self):
        self.check([parse_heap("1 1 -\n0\nfree"), parse_heap("")], [(((1, None), (), None), (1, 0, 0)), ((), ())])
        self.refused(parse_heap, "1 1\n0 2", 1, 1)
        self.refused(parse_heap, "1 1\n0\n0", 2, 0)

    def test_edges(self):
        for text, heap in [("", EMPTY), ("free", ((None,), (0,))), ("1", (((),), (1,))), ("9", (((),), (9,))),
                           ("0 0", (((0,),), (0,))), ("1 -", (((None,),), (1,))),
                           ("1 - 0 -", (((None, 0, None),), (1,))),
                           ("free\nfree", ((None, None), (0, 0))), (format_heap(LONG_PATH), LONG_PATH),
                           (format_heap(WIDE_STAR), WIDE_STAR), ("2" + " -" * 40, (((None,) * 40,), (2,))),
                           ("\n".join(["9" + " 39" * 40] * 40), (((39,) * 40,) * 40, (9,) * 40)),
                           ("\n".join(["free"] * 40), ((None,) * 40, (0,) * 40))]:
            self.check(parse_heap(text=text), heap)

    def test_all_short_texts(self):
        words = ["free", "0", "1", "-", "", "2", "01"]
        self.assertGreater(self.all_texts(parse_heap, format_heap, plain_heap_error, words, 2, 2), 20)
        fewer = ["free", "0", "1", "2", "-"]
        self.assertGreater(self.all_texts(parse_heap, format_heap, plain_heap_error, fewer, 2, 3), 100)
        self.all_texts(parse_heap, format_heap, plain_heap_error, words, 4, 1)

    def test_first_words(self):
        for word in NO_NUMBERS + ["-", "10", "11", "40", "100", LONG, "free0", "0free", "9" * 81, " "]:
            self.refused(parse_heap, word or " ", 0, 0)
            self.refused(parse_heap, "1\n" + word, 1, 0)
            self.refused(parse_heap, "1\nfree\n" + word + "\n9 9 9", 2, 0)

    def test_other_words(self):
        for word in NO_NUMBERS + ["free", "3", "4", "10", "40", LONG, "10000000000", "9" * 81]:
            self.refused(parse_heap, "1 1 2 " + word + "\n0\n0", 0, 3)
            self.refused(parse_heap, "1 1 2\n0 - " + word + " x\n0", 1, 2)
            self.refused(parse_heap, "1 1 2\n0\n0 " + word, 2, 1)
        self.refused(parse_heap, "0 1 1 " + LONG + " 0\n1", 0, 3)

    def test_blanks(self):
        for text, line, word in [(" ", 0, 0), (" 1", 0, 0), ("1 ", 0, 1), ("1  0", 0, 1), ("1 0  0", 0, 2),
                                 ("1 0 ", 0, 2),
                                 ("1\n ", 1, 0), ("1\n 1", 1, 0), ("free ", 0, 1), (" free", 0, 0), ("1\n1  -", 1, 1)]:
            self.refused(parse_heap, text, line, word)

    def test_line_breaks(self):
        for text, line, word in [("\n", 0, 0), ("1\n", 1, 0), ("1 1\n0\n", 2, 0), ("\n1", 0, 0), ("1\n\n1", 1, 0),
                                 ("free\n", 1, 0), ("1\n\n", 1, 0), ("free\n" * 40, 40, 0)]:
            self.refused(parse_heap, text, line, word)

    def test_free_with_a_word_behind_it(self):
        for word in ["0", "-", "free", "", "x", LONG]:
            self.refused(parse_heap, "1\nfree " + word, 1, 1)
            self.refused(parse_heap, "free " + word + " 0\n1", 0, 1)

    def test_forty_one(self):
        for word in ["-", "0", "1", "", "x"]:
            self.refused(parse_heap, "1" + " -" * 40 + " " + word + "\n1", 0, 41)
            self.refused(parse_heap, "1\n1" + " -" * 40 + " " + word + " " + word, 1, 41)
        # Numbers of slots are compared with the number of lines, so 40 is no slot of 40 lines but one of 41.
        self.refused(parse_heap, "\n".join(["1 40"] + ["1"] * 39), 0, 1)
        for last in ["1", "free", "", "x", "1 x", LONG]:
            self.refused(parse_heap, "\n".join(["1 40"] + ["1"] * 39 + [last]), 40, 0)
        self.refused(parse_heap, "\n".join(["1"] * 39 + ["1 41"] + ["x"]), 39, 1)
        self.refused(parse_heap, "\n".join(["1 100 -"] + ["1"] * 2000), 40, 0)

    def test_the_first_problem(self):
        for text, line, word in [("1 x\nx", 0, 1), ("1 1\nx\n1 x", 1, 0), ("1 x x", 0, 1), ("x x", 0, 0),
                                 ("0\nx", 1, 0), ("free\n0 0\n1 9", 2, 1), ("0\nfree 1", 1, 1)]:
            self.refused(parse_heap, text, line, word)

    def test_valid_lines_that_are_no_heap(self):
        for text, line in [("0", 0), ("1\n0", 1), ("0\n0", 0), ("1 1\nfree", 1), ("0\n1 2\nfree", 2), ("0 1\nfree", 1),
                           ("1\n0\n0 2", 1), ("free\n1 0", 0), ("free\n0 0", 0), ("0\nfree\n1 1", 1)]:
            self.refused(parse_heap, text, line, 0)


class ParseTreeTest(Parsing):
    def test_examples(self):
        self.check(parse_tree("2 1\n-\n-"), ((2, 1), (), ()))
        self.refused(parse_tree, "1\n0", 0, 0)

    def test_edges(self):
        for text, tree in [("-", ((),)), ("1\n-", ((1,), ())), ("-\n0", ((), (0,))), (format_tree(PATH_40), PATH_40),
                           (format_tree(STAR_40), STAR_40), (format_tree(BACKWARDS_40), BACKWARDS_40)]:
            self.check(parse_tree(text=text), tree)

    def test_all_short_texts(self):
        words = ["0", "1", "-", "", "2", "01"]
        self.assertGreaterEqual(self.all_texts(parse_tree, format_tree, plain_tree_error, words, 2, 2), 2)
        fewer = ["0", "1", "2", "3", "-"]
        self.assertGreaterEqual(self.all_texts(parse_tree, format_tree, plain_tree_error, fewer, 2, 3), 12)
        self.all_texts(parse_tree, format_tree, plain_tree_error, words + ["free"], 4, 1)

    def test_words(self):
        for word in NO_NUMBERS + ["free", "3", "4", "10", "40", LONG, "9" * 81]:
            self.refused(parse_tree, word + "\n-\n-", 0, 0)
            self.refused(parse_tree, "1 2 " + word + "\n-\n-", 0, 2)
            self.refused(parse_tree, "1 2\n-\n" + word + " x", 2, 0)
            self.refused(parse_tree, "1 2\n-\n- " + word, 2, 1)
            self.refused(parse_tree, "1 2\n- " + word + " " + word + "\n-", 1, 1)
        for word in ["-", "0", "1"]:
            self.refused(parse_tree, "1 2\n-\n- " + word, 2, 1)
        self.refused(parse_tree, "1 -\n-", 0, 1)
        self.refused(parse_tree, "1 2 -\n-\n-", 0, 2)

    def test_blanks_and_line_breaks(self):
        for text, line, word in [("", 0, 0), (" ", 0, 0), ("\n", 0, 0), ("-\n", 1, 0), ("- ", 0, 1), (" -", 0, 0),
                                 ("1\n-\n", 2, 0), ("1  2\n-\n-", 0, 1), ("1 2 \n-\n-", 0, 2), ("\n-", 0, 0),
                                 ("1\n\n-", 1, 0), ("-\n" * 40, 40, 0), ("1 2\n-\n ", 2, 0)]:
            self.refused(parse_tree, text, line, word)

    def test_any_number_of_words(self):
        self.refused(parse_tree, "1" + " 1" * 3000 + "\n-", 1, 0)
        self.refused(parse_tree, "1" + " 1" * 3000 + " x\n-", 0, 3001)
        self.refused(parse_tree, " ".join(map(str, range(40))) + "\n" + "\n".join(["-"] * 39), 0, 0)

    def test_forty_one_lines(self):
        for last in ["-", "0", "", "x", "- -"]:
            self.refused(parse_tree, "\n".join(["40 39"] + ["-"] * 39 + [last]), 40, 0)
        self.refused(parse_tree, "\n".join(["40"] + ["-"] * 39), 0, 0)
        self.refused(parse_tree, "\n".join(["-"] * 39 + ["- 1", "-"]), 39, 1)
        self.refused(parse_tree, "\n".join(["1999"] + ["-"] * 1999), 40, 0)

    def test_valid_lines_that_are_no_tree(self):
        for text, line in [("0", 0), ("1\n0", 0), ("1 1\n-", 1), ("2\n2\n-", 2), ("-\n-", 1), ("-\n2\n1", 1),
                           ("1\n-\n-", 2),
                           ("1 2\n0\n-", 0), ("2\n-\n0", 0), ("1 0\n-", 0), ("1 1\n0", 1), ("0 0\n-", 0),
                           ("-\n-\n1 1", 1)]:
            self.refused(parse_tree, text, line, 0)
            self.assertEqual(plain_tree_error(text), (line, 0))

    def test_the_first_problem(self):
        for text, line, word in [("x\nx", 0, 0), ("1 x\nx", 0, 1), ("1 1\nx", 1, 0), ("0\n- -", 1, 1),
                                 ("1 x x\n-", 0, 1)]:
            self.refused(parse_tree, text, line, word)


class ParseLogTest(Parsing):
    def test_examples(self):
        self.check([parse_log("0 12 7"), parse_log("-")], [(0, 12, 7), ()])
        self.refused(parse_log, "3 1 3", 0, 2)

    def test_edges(self):
        everything = tuple(range(39, -1, -1))
        for text, log in [("-", ()), ("0", (0,)), ("39", (39,)), ("7 3", (7, 3)), ("0 10 1 20", (0, 10, 1, 20)),
                          (" ".join(map(str, everything)), everything)]:
            self.check(parse_log(text=text), log)

    def test_all_short_texts(self):
        for many in range(1, 5):
            for words in itertools.product(["0", "1", "-", "39", "40", "", "00"], repeat=many):
                wrong = [at for at in range(many) if words[at] not in ("0", "1", "39") or words[at] in words[:at]]
                if words[0] == "-":
                    wrong = [1] if many > 1 else []
                if wrong:
                    self.refused(parse_log, " ".join(words), 0, wrong[0])
                else:
                    self.check(format_log(parse_log(" ".join(words))), " ".join(words))

    def test_words(self):
        for word in NO_NUMBERS + ["free", "40", "41", "100", "400", LONG, "9" * 81]:
            self.refused(parse_log, word, 0, 0)
            self.refused(parse_log, word + " 1", 0, 0)
            self.refused(parse_log, "3 " + word, 0, 1)
            self.refused(parse_log, "3 1 " + word + " x 3", 0, 2)
            self.refused(parse_log, "- " + word, 0, 1)

    def test_dashes(self):
        for text, word in [("- 0", 1), ("- -", 1), ("- - -", 1), ("0 -", 1), ("0 1 - 2", 2), ("-  ", 1), (" -", 0),
                           ("- ", 1)]:
            self.refused(parse_log, text, 0, word)

    def test_blanks_and_line_breaks(self):
        for text, word in [("", 0), (" ", 0), ("  ", 0), ("0 ", 1), (" 0", 0), ("0  1", 1), ("0\n", 0), ("\n", 0),
                           ("0\n1", 0),
                           ("0 1\n2", 1), ("0 1 \n", 2), ("-\n", 0), ("-\n-", 0), ("\n0", 0), ("5 0\n1 x", 1)]:
            self.refused(parse_log, text, 0, word)

    def test_a_number_twice(self):
        for text, word in [("0 0", 1), ("1 2 3 1", 3), ("39 39", 1), ("1 10 1", 2), ("5 5 5 x", 1), ("5 x 5", 1)]:
            self.refused(parse_log, text, 0, word)
        self.refused(parse_log, " ".join(map(str, list(range(40)) + [0])), 0, 40)


if __name__ == "__main__":
    unittest.main()
