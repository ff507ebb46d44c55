"""Points 83 to 87: the desk and its commands."""

import random
import unittest

from slotfall.desk import Desk
from slotfall.errors import (Full, InvalidLimit, InvalidPath, InvalidWidth, NoNode, NoPosition, NoReference, NoSlot,
                             NotFreed, ParseError, UndoError, UnknownCommand)
from slotfall.fates import fate
from slotfall.formatting import format_heap
from slotfall.heaps import live_nodes
from slotfall.limits import all_logs, limits_before
from slotfall.logsets import determines
from slotfall.machine import drop
from slotfall.parsing import parse_heap
from slotfall.reach import reachable
from slotfall.regular import path_at, position_of, regular_size
from slotfall.shelves import least_limit, shelf_history
from slotfall.store import Store
from tests.plain_store import loose_heap, random_action
from tests.support import (APART, EMPTY, HEAPS, HOLES, LOOP, MANY, RING, TREE, StrictCase, droppable, plain_live,
                           random_heap)

GREAT = 10 ** 30
EIGHTY = "1" + "0" * 79
EIGHTY_ONE = "1" + "0" * 80
QUESTIONS = ["heap", "live", "reachable", "free", "candidates", "destroyed"]
# A command of each form, all of which fit.
FORMS = ["new", "new 1", "hold 0", "drop 0", "put 0 0 0", "put 0 0 -", "empty 0", "collect", "local", "limit 1", "undo",
         "undo 1", "heap", "live", "reachable", "free", "candidates", "destroyed", "log 0", "logs 0", "before 0 0 1",
         "shelf 0", "least 0 1", "fate 0 1", "position 2 3 1", "position 2 3 1 0 1", "path 2 3 1 4", "determines 3 1 2"]


def line_of(numbers):
    return " ".join([str(number) for number in numbers]) if numbers else "-"


def desk_on(heap):
    return Desk(format_heap(heap))


def answers(desk):
    """What the desk tells of its store."""
    return [desk.execute(question) for question in QUESTIONS]


class DeskCase(StrictCase):
    def unknown(self, desk, *commands):
        before = answers(desk)
        for command in commands:
            self.fails(UnknownCommand, {"command": command}, desk.execute, command)
        self.check(answers(desk), before)

    def refused(self, desk, error, attributes, command):
        before = answers(desk)
        self.fails(error, attributes, desk.execute, command)
        self.check(answers(desk), before)


class DeskTest(DeskCase):
    def test_examples(self):
        desk = Desk("1 1 2\n0 3\n0\n0")
        found = [desk.execute("limit 1"), desk.execute("logs 0"), desk.execute("before 0 3 2"), desk.execute("drop 0"),
                 desk.execute("new"), desk.execute("heap")]
        self.check(found, ["ok", "0 2 1 3 | 0 1 2 3 | 0 1 3 2 | 0 1 3 2", "3 4", "0 2 1 3", "3",
                           "free | free | free | 1"])
        self.fails(UnknownCommand, {"command": "drop  0"}, Desk().execute, "drop  0")

    def test_texts(self):
        for desk in (Desk(), Desk(""), Desk(text="")):
            self.check(answers(desk), ["", "-", "-", "-", "-", "-"])
        for heap in HEAPS + [random_heap(seed) for seed in range(30)]:
            store = Store(heap)
            for desk in (desk_on(heap), Desk(text=format_heap(heap))):
                self.check(answers(desk), [str(store).replace("\n", " | "), line_of(live_nodes(heap)),
                                           line_of(reachable(heap)),
                                           line_of(store.free_numbers()), line_of(store.candidates()), "-"])

    def test_the_first_limit(self):
        # With 50 the log of a path of 40 nodes has no node on the shelf.
        desk = desk_on((tuple((v + 1,) for v in range(39)) + ((),), (1,) + (0,) * 39))
        self.check([desk.execute("shelf 0"), desk.execute("limit 39"), desk.execute("shelf 0")],
                   [" ".join("0" * 40), "ok", " ".join("0" * 38 + "10")])

    def test_parse_errors(self):
        for text in ["\n", " ", "1\n", "0", "1 1\n0 2", "1 1\n0\n0", "free\nfree 1", "x", "1 " + "9" * 5000,
                     "free\n" * 40]:
            with self.assertRaises(ParseError) as caught:
                parse_heap(text)
            self.fails(ParseError, vars(caught.exception), Desk, text)
            self.fails(ParseError, vars(caught.exception), Desk, text=text)

    def test_two_desks(self):
        one, other = Desk("1"), Desk("1")
        self.check([one.execute("drop 0"), one.execute("free"), other.execute("free")], ["0", "0", "-"])

    def test_by_name(self):
        self.check(Desk("1").execute(command="live"), "0")


class UnknownCommandTest(DeskCase):
    def test_no_strings(self):
        for desk in (Desk(), desk_on(TREE)):
            self.unknown(desk, None, True, False, 0, 1, -1, 10 ** 99, (), [], ("new",), ["new"], ["drop", "0"],
                         [["heap"]], ("heap", 0))

    def test_no_names(self):
        names = ["", " ", "\n", "0", "-", "quit", "New", "NEW", "Heap", "HEAP", "drop0", "news", "ne", "empty_slots",
                 "set_limit",
                 "collect_local", "current_limit", "free_numbers", "history", "twin", "trace", "size", "execute",
                 "store", "log\n", "put_", "_new", "None", "fits"]
        self.unknown(desk_on(TREE), *names)
        for form in FORMS:
            name, *words = form.split(" ")
            self.unknown(desk_on(TREE), *[" ".join([other] + words) for other in
                                          (name.upper(), name.capitalize(), name + "x", name[1:], "x", "",
                                           name + "\n")])

    def test_a_word_more_and_a_word_less(self):
        for form in FORMS:
            words = form.split(" ")
            shorter, longer = " ".join(words[:-1]), form + " 0"
            known = [text for text in (shorter, longer) if text in FORMS or text.startswith("position 2 3 1")]
            known += [text for text in (shorter, longer) if text in ("new 0", "undo 0", "determines 3 1")]
            self.unknown(desk_on(TREE), *[text for text in (shorter, longer) if text not in known])
        self.unknown(desk_on(TREE), "new 1 1", "undo 1 1", "heap 0", "live 0", "collect 0", "local 0", "hold",
                     "hold 0 0", "drop",
                     "put 0 0", "put 0 0 0 0", "put 0", "put", "limit", "limit 1 1", "log", "log 0 0", "logs 0 0",
                     "before 0 1",
                     "before 0 1 2 3", "shelf", "least 0", "least 0 1 2", "fate 0", "fate 0 1 2", "position",
                     "position 2",
                     "position 2 3", "path 2 3 1", "path 2 3 1 4 5", "path", "determines", "determines 3", "free 0",
                     "candidates 0", "destroyed 0", "reachable 0", "empty", "empty 0 0")

    def test_blanks_and_line_breaks(self):
        desk = desk_on(TREE)
        for form in FORMS:
            self.unknown(desk, " " + form, form + " ", "\n" + form, form + "\n", form + " \n", form + "\t")
            if " " in form:
                self.unknown(desk, form.replace(" ", "  ", 1), form.replace(" ", "\n", 1), form.replace(" ", " \n", 1),
                             form.replace(" ", "\n ", 1), "  ".join(form.rsplit(" ", 1)))

    def test_wrong_arguments(self):
        desk = desk_on(TREE)
        wrong = ["", "00", "01", "-1", "+1", "1.0", "1e1", "0x1", "1_0", "a", "None", "--", "-", "0\n", "1,",
                 EIGHTY_ONE, "9" * 81, "9" * 5000]
        for form in FORMS:
            words = form.split(" ")
            for at in range(1, len(words)):
                for word in wrong:
                    command = " ".join(words[:at] + [word] + words[at + 1:])
                    if command != "put 0 0 -":
                        self.unknown(desk, command)

    def test_dashes(self):
        desk = desk_on(TREE)
        self.unknown(desk, "new -", "hold -", "drop -", "put - 0 0", "put 0 - 0", "put - - -", "put 0 - -",
                     "put 0 0 - 0",
                     "put 0 0 0 -", "put 0 -", "put -", "limit -", "undo -", "log -", "before 0 1 -", "fate 0 -",
                     "least 0 -",
                     "position 2 3 -", "position 2 3 1 -", "position 2 3 1 0 -", "path 2 3 1 -", "determines 3 -",
                     "determines 3 1 -", "heap -", "-")

    def test_before_all_else(self):
        # The store would refuse each of these, too.
        self.unknown(Desk(), "drop 0 0", "drop 01", "put 9 9 --", "new 41 0", "new 041", "limit 0 0", "limit 00",
                     "undo 1 1", "undo 01",
                     "position 7 3 1 9", "position 2 3 0 9", "path 2 3 0 99", "path 2 101 1 " + EIGHTY, "fate 0 -1")
        self.unknown(Desk("\n".join(["9"] * 40)), "new ", "new 1 ", "hold 00", "hold 0 ")

    def test_eighty_digits(self):
        desk, great = desk_on(TREE), int(EIGHTY)
        for command, error, attributes in [
                ("new", InvalidWidth, {"value": great}), ("hold", NoNode, {"node": great}),
                ("drop", NoNode, {"node": great}),
                ("put 0 0", NoNode, {"node": great}), ("put 0", None, {}), ("empty", NoNode, {"node": great}),
                ("limit", InvalidLimit, {"value": great}), ("undo", UndoError, {"count": great}),
                ("log", NoNode, {"node": great}), ("logs", NoNode, {"node": great}), ("shelf", NoNode, {"node": great}),
                ("before 0 0", NotFreed, {"node": great}), ("fate 0", NoNode, {"node": great}),
                ("position 2 3 1", InvalidPath, {"index": 0}), ("path 2 3 1", NoPosition, {"position": great})]:
            if error is not None:
                self.refused(desk, error, attributes, command + " " + EIGHTY)
            self.unknown(desk, command + " " + EIGHTY_ONE)
        self.refused(desk, NoSlot, {"slot": great}, f"put 0 {EIGHTY} 0")
        self.refused(desk, NoSlot, {"slot": great}, f"put 0 {EIGHTY} -")
        self.refused(desk, NoNode, {"node": great}, f"put {EIGHTY} 0 -")
        self.check(desk.execute("least 0 " + EIGHTY), "1")


class ChangingTest(DeskCase):
    def test_outputs(self):
        desk = Desk()
        for command, output in [("new 2", "0"), ("new", "1"), ("put 0 0 1", "-"), ("put 0 1 0", "-"), ("drop 1", "-"),
                                ("hold 0", "2"), ("hold 1", "1"), ("drop 1", "-"), ("drop 0", "-"), ("drop 0", "-"),
                                ("candidates", "0 1"), ("local", "1 0"), ("undo", "collect_local"), ("collect", "1 0"),
                                ("free", "0 1"), ("undo 2", "collect drop"), ("put 0 1 -", "-"), ("empty 0", "1"),
                                ("destroyed", "1"), ("drop 0", "0"), ("limit 3", "ok"), ("new", "0"), ("new", "1"),
                                ("new 40", "2"), ("undo 4", "new new new set_limit"), ("heap", "free | free"),
                                ("undo", "drop"), ("heap", "1 - - | free")]:
            self.check(desk.execute(command), output)

    def command_of(self, action, chance):
        """The command for an action of a store."""
        name, *arguments = action
        word = {"empty_slots": "empty", "collect_local": "local", "set_limit": "limit"}.get(name, name)
        if action == ("new", 0) and chance.random() < 0.5:
            return "new"
        return " ".join([word] + ["-" if argument is None else str(argument) for argument in arguments])

    def test_beside_a_store(self):
        for seed in range(60):
            heap, chance = [EMPTY, HOLES, RING, loose_heap(seed)][seed % 4], random.Random(seed)
            store, desk = Store(heap), desk_on(heap)
            for _ in range(40):
                if len(store.history()) > 6 and chance.random() < 0.1:
                    count = chance.randint(1, 6)
                    command = "undo" if count == 1 else f"undo {count}"
                    self.check(desk.execute(command), " ".join(store.undo(count)))
                action = random_action(chance, store.heap())
                result = getattr(store, action[0])(*action[1:])
                if action[0] in ("new", "hold"):
                    output = str(result)
                elif action[0] == "set_limit":
                    output = "ok"
                else:
                    output = line_of(result[0] if action[0] == "collect_local" else result)
                self.check(desk.execute(self.command_of(action, chance)), output)
                self.beside(store, desk)

    def beside(self, store, desk):
        heap = store.heap()
        self.check(answers(desk), [format_heap(heap).replace("\n", " | "), line_of(live_nodes(heap)),
                                   line_of(reachable(heap)),
                                   line_of(store.free_numbers()), line_of(store.candidates()),
                                   line_of(store.destroyed())])
        for v in droppable(heap)[:2]:
            self.check(desk.execute(f"log {v}"), line_of(drop(heap, v, limit=store.current_limit())[0]))

    def test_errors(self):
        full = Desk("\n".join(["9"] * 40))
        for desk, command, error, attributes in [
                (full, "new", Full, {"most": 40}), (full, "new 40", Full, {"most": 40}),
                (full, "new 41", InvalidWidth, {"value": 41}),
                (full, "hold 0", Full, {"most": 9}), (full, "hold 40", NoNode, {"node": 40}),
                (Desk(), "hold 0", NoNode, {"node": 0}),
                (Desk(), "drop 0", NoNode, {"node": 0}), (desk_on(TREE), "drop 1", NoReference, {"node": 1}),
                (desk_on(HOLES), "drop 1", NoNode, {"node": 1}), (desk_on(HOLES), "empty 3", NoNode, {"node": 3}),
                (desk_on(TREE), "put 4 0 0", NoNode, {"node": 4}), (desk_on(TREE), "put 0 2 0", NoSlot, {"slot": 2}),
                (desk_on(TREE), "put 0 0 4", NoNode, {"node": 4}), (desk_on(TREE), "put 4 0 -", NoNode, {"node": 4}),
                (desk_on(TREE), "put 2 0 -", NoSlot, {"slot": 0}),
                (desk_on(TREE), "limit 0", InvalidLimit, {"value": 0}),
                (Desk(), f"limit {GREAT + 1}", InvalidLimit, {"value": GREAT + 1}),
                (Desk(), "undo", UndoError, {"count": 1}),
                (Desk(), "undo 1", UndoError, {"count": 1}), (Desk(), "undo 0", UndoError, {"count": 0})]:
            self.refused(desk, error, attributes, command)
        desk = desk_on(TREE)
        self.check([desk.execute("new"), desk.execute(f"limit {GREAT}")], ["4", "ok"])
        self.refused(desk, UndoError, {"count": 3}, "undo 3")
        self.refused(desk, UndoError, {"count": 0}, "undo 0")
        self.check(desk.execute("undo 2"), "set_limit new")


class DescribingTest(DeskCase):
    def test_lists(self):
        desk = desk_on(HOLES)
        self.check(answers(desk), ["1 - 2 - 4 | free | 0 - 5 | free | 0 | 0", "0 2 4 5", "0 2 4 5", "1 3", "0 2 4 5",
                                   "-"])
        self.check([desk.execute("drop 0"), *answers(desk)],
                   ["0 2 5 4", "free | free | free | free | free | free", "-", "-", "4 5 2 0 1 3", "-", "0 2 5 4"])
        self.check(answers(desk_on(APART)), ["0 1 | 0 0 | 1 3 | 0", "0 1 2 3", "2 3", "-", "0 1 2 3", "-"])
        self.check(answers(Desk("9")), ["9", "0", "0", "-", "0", "-"])
        self.check(answers(Desk("free")), ["free", "-", "-", "0", "-", "-"])

    def test_drops(self):
        desk = desk_on(TREE)
        self.check([desk.execute("log 0"), desk.execute("shelf 0"), desk.execute("limit 1"), desk.execute("log 0"),
                    desk.execute("shelf 0"), desk.execute("limit 2"), desk.execute("log 0"), desk.execute("shelf 0")],
                   ["0 1 3 2", "0 0 0 0", "ok", "0 2 1 3", "2 1 1 0", "ok", "0 1 2 3", "0 1 1 0"])
        self.check([desk.execute("before 0 1 2"), desk.execute("before 0 2 2"), desk.execute("before 0 0 3"),
                    desk.execute("before 0 3 0")], ["2 3 4", "-", "1 2 3 4", "-"])
        self.check([desk.execute(f"least 0 {most}") for most in range(4)], ["3", "2", "1", "1"])
        desk = desk_on(MANY)
        self.check([desk.execute("log 0"), desk.execute("logs 0"), desk.execute("shelf 0"), desk.execute("least 0 0")],
                   ["-", "- | - | - | -", "-", "1"])
        self.check([desk.execute("fate 0 1"), desk.execute("fate 0 0"), desk_on(TREE).execute("fate 0 3"),
                    desk_on(LOOP).execute("fate 0 1")], ["kept", "kept", "freed", "kept"])
        self.check([Desk("1").execute("logs 0"), Desk("1\nfree").execute("logs 0")], ["0", "0 | 0"])

    def test_against_the_functions(self):
        for heap in HEAPS + [random_heap(seed) for seed in range(60)]:
            for v in droppable(heap)[:3]:
                for limit in (1, 2, 50):
                    self.describes(heap, v, limit)

    def describes(self, heap, v, limit):
        desk = desk_on(heap)
        desk.execute(f"limit {limit}")
        before = answers(desk)
        log = drop(heap, v, limit=limit)[0]
        self.check(desk.execute(f"log {v}"), line_of(log))
        self.check(desk.execute(f"shelf {v}"), line_of(shelf_history(heap, v, limit=limit)))
        self.check(desk.execute(f"logs {v}"), " | ".join([line_of(one) for one in all_logs(heap, v)]))
        for most in (0, 1, 2, 5):
            self.check(desk.execute(f"least {v} {most}"), str(least_limit(heap, v, most=most)))
        for first, second in zip(log[:4], log[::-1]):
            self.check(desk.execute(f"before {v} {first} {second}"), line_of(limits_before(heap, v, first, second)))
        for w in plain_live(heap)[:6]:
            self.check(desk.execute(f"fate {v} {w}"), fate(heap, v, w)[0])
        self.check(answers(desk), before)
        self.check(desk.execute("undo"), "set_limit")

    def test_errors(self):
        desk = desk_on(HOLES)
        for name, more in [("log", ""), ("logs", ""), ("shelf", ""), ("least", " 0"), ("fate", " 0"),
                           ("before", " 0 2")]:
            for node in (1, 3, 6, 40):
                self.refused(desk, NoNode, {"node": node}, f"{name} {node}{more}")
            self.refused(Desk(), NoNode, {"node": 0}, f"{name} 0{more}")
            self.refused(desk, NoReference, {"node": 2}, f"{name} 2{more}")
        self.refused(desk, NotFreed, {"node": 1}, "before 0 1 3")
        self.refused(desk, NotFreed, {"node": 6}, "before 0 2 6")
        self.refused(desk, NoNode, {"node": 3}, "fate 0 3")
        self.refused(desk, NoNode, {"node": 1}, "fate 1 3")


class WithoutHeapTest(DeskCase):
    def test_position_and_path(self):
        for desk in (Desk(), desk_on(TREE)):
            for width, levels, limit in [(1, 1, 1), (1, 5, 2), (2, 3, 1), (2, 3, 2), (3, 4, 2), (6, 3, GREAT),
                                         (6, 100, 7), (1, 100, 100), (2, 100, 1)]:
                regular = {"width": width, "levels": levels, "limit": limit}
                size = regular_size(width=width, levels=levels)
                for position in {0, size // 3, size // 2, size - 1}:
                    path = path_at(position, **regular)
                    words = f"{width} {levels} {limit}"
                    self.check(desk.execute(f"path {words} {position}"), line_of(path))
                    self.check(desk.execute(" ".join(["position", words] + [str(slot) for slot in path])),
                               str(position_of(path, **regular)))
        desk = Desk()
        self.check([desk.execute("position 2 3 2 1 0"), desk.execute("position 2 3 1 1 0"),
                    desk.execute("path 2 3 2 6"),
                    desk.execute(f"path 2 100 1 {2 ** 99}"), desk.execute(f"position 2 100 {GREAT} 1")],
                   ["4", "3", "0 0", "0", str(2 ** 99)])

    def test_the_root(self):
        desk = Desk()
        for words in ["1 1 1", "2 3 1", f"6 100 {GREAT}"]:
            self.check([desk.execute("position " + words), desk.execute(f"path {words} 0")], ["0", "-"])

    def test_determines(self):
        desk = desk_on(TREE)
        for size in (1, 2, 3, 4, 7, 8, 39, 40):
            for limits in [(1,), (2,), (1, 2), (2, 1), (1, 2, 3), (1, 39), (1, GREAT), (GREAT,), (1,) * 20,
                           (2,) * 19 + (1,)]:
                words = " ".join([str(limit) for limit in limits])
                self.check(desk.execute(f"determines {size} {words}"), "yes" if determines(limits, size=size) else "no")
        self.check([desk.execute("determines 3 1 2"), desk.execute("determines 4 1 2"),
                    desk.execute("determines 3 2 3"), desk.execute("determines 2 5")], ["yes", "no", "no", "yes"])

    def test_ranges(self):
        desk = Desk()
        for words in ["0 3 1", "7 3 1", "2 0 1", "2 101 1", "2 3 0", f"2 3 {GREAT + 1}", f"{EIGHTY} 3 1",
                      f"2 {EIGHTY} 1", f"2 3 {EIGHTY}", "0 0 0"]:
            self.unknown(desk, "position " + words, f"position {words} 0", f"position {words} 9 9", f"path {words} 0",
                         f"path {words} {EIGHTY}")
        many = " ".join(["1"] * 20)
        self.check([desk.execute("position 6 100 1"), desk.execute(f"determines 40 {many}")], ["0", "no"])
        self.unknown(desk, "determines 0 1", "determines 41 1", "determines 3 0", f"determines 3 {GREAT + 1}",
                     "determines 3 1 0",
                     f"determines 3 {GREAT + 1} 1", f"determines 40 {many} 1", f"determines 40 {many} 2 3",
                     "determines 3", f"determines {EIGHTY} 1", f"determines 3 {EIGHTY}", f"determines 0 {many} 1")

    def test_errors(self):
        desk = desk_on(TREE)
        for command, error, attributes in [
                ("position 2 3 1 2", InvalidPath, {"index": 0}), ("position 2 3 1 0 2", InvalidPath, {"index": 1}),
                ("position 2 3 1 0 0 0", InvalidPath, {"index": -1}), ("position 1 1 1 0", InvalidPath, {"index": -1}),
                ("position 2 3 1 9 9 9", InvalidPath, {"index": -1}), ("path 2 3 1 7", NoPosition, {"position": 7}),
                ("path 1 1 1 1", NoPosition, {"position": 1}),
                ("position 6 100 7" + " 5" * 100, InvalidPath, {"index": -1}),
                ("position 6 100 7" + " 5" * 98 + " 6", InvalidPath, {"index": 98})]:
            self.refused(desk, error, attributes, command)
        self.check(desk.execute("position 6 100 1" + " 5" * 99), "99")


if __name__ == "__main__":
    unittest.main()
