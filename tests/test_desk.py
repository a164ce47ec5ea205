import random
import unittest

from keeping import some_deed
from making import BARE, LEAST, STEADY, TALL
from odd import odd_things
from test_alike import sound_doubles
from test_unit import FIRST, some_unit, state
from trying import refusal

from seaplace.costs import default_profile
from seaplace.desk import Desk
from seaplace.unit import Unit
from seaplace.unitread import read_unit
from seaplace.unittext import unit_text

CLASSES = {
    "BadGraph": "graph", "BadGiven": "given", "BadProfile": "profile", "BadPlacement": "placement", "BadRow": "row",
    "Twice": "twice", "OutOfPlace": "place", "TooGreat": "great", "NoBlock": "block", "NoNode": "node",
    "Nothing": "nothing", "Unsound": "unsound", "Pinned": "pinned",
}

# Good lines of each kind, to a desk with a unit of STEADY.
LINES = (
    "put_node 8 word 3", "put_node 9 phi head 0 5", "put_node 9 pick 3 2 1", "put_node 9 load 1 0 top 0",
    "add_node given 0", "add_node add 0 1", "add_node load 0 2 head 0", "add_node phi foot 0 1",
    "add_deed left - out 0", "add_deed left 0 store 1 2 0", "add_deed left 2 check 3", "drop_deed done 4",
    "set_end done return 0", "set_end foot if 5 head done", "set_end left goto foot", "split_edge top head x",
    "set_count top 5", "set_hold 0", "pin 8 top 1", "unpin 8", "merge", "fold", "tidy",
    "merge ; fold ; tidy", "add_deed left - out 0 ; drop_deed left 2 ; set_hold 3", "redo", "undo", "copy b", "use b",
    "unit unit 1 ; counts 1 ; block a ; return 0 ; node word 0", "text", "cost", "registers", "many", "ranges",
    "placement", "early", "run", "run 1", "run 1 2 3 65535", "same b", "units",
)


def words_for(thing):
    """A node, a deed or an END in words."""
    if thing[0] in ("phi", "load"):
        thing = (*thing[:-1], *thing[-1])
    return " ".join(str(part) for part in thing)


def line_for(word, *things):
    """The line that tells a deed."""
    if word == "add_deed":
        block, deed, *at = things
        place = at[0] if at and at[0] is not None else "-"
        return f"add_deed {block} {place} {words_for(deed)}"
    if word in ("put_node", "set_end"):
        return f"{word} {things[0]} {words_for(things[1])}"
    if word == "add_node":
        return f"add_node {words_for(things[0])}"
    if word == "pin":
        return f"pin {things[0]} {things[1][0]} {things[1][1]}"
    return " ".join(str(part) for part in (word, *things))


def answer_for(fault):
    """The answer to what is refused so, or to what is done."""
    if fault is None:
        return "done"
    return " ".join(["refused", CLASSES[fault[0]], *("-" if part is None else str(part) for part in fault[1:])])


def at_steady():
    """A desk at a unit of STEADY, another one under b."""
    desk = Desk()
    text = unit_text(STEADY, default_profile(STEADY), ((8, ("top", 0)),), 1)
    for line in ("unit " + text.replace("\n", " ; "), "copy b", "set_hold 2", "set_hold 1", "undo"):
        assert desk.say(line) == "done"
    return desk


class Desks(unittest.TestCase):
    def test_at_first(self):
        desk = Desk()
        self.assertEqual(desk.at(), "first")
        self.assertEqual(desk.say("units"), "first")
        self.assertTrue(desk.unit() == Unit())
        self.assertTrue(desk.unit("first") == desk.unit(name="first"))
        self.assertEqual(desk.unit().graph(), FIRST)
        self.assertEqual(desk.say("text"), "unit 1 ; counts 1 ; block entry ; return 0 ; node word 0")
        for line, answer in (("cost", "1"), ("registers", "1"), ("many", "0"), ("ranges", "0 entry 0 entry 0"),
                             ("placement", "0 entry 0"), ("early", "0 entry 0"), ("run", "returned 0"),
                             ("same first", "yes"), ("undo", "refused nothing"), ("redo", "refused nothing")):
            self.assertEqual(desk.say(line=line), answer)

    def test_each_line_is_good(self):
        for line in LINES:
            desk = at_steady()
            answer = desk.say(line)
            self.assertIsInstance(answer, str)
            self.assertNotIn("no line", answer, line)
            self.assertNotIn("refused", answer, line)
            self.assertEqual(answer == "done", line.split()[0] not in (
                "text", "cost", "registers", "many", "ranges", "placement", "early", "run", "same", "units"))

    def test_each_line_with_a_word_otherwise(self):
        for line in LINES:
            words = line.split(" ")
            if words[0] == "unit":
                continue
            for changed in self.changed(line, words):
                desk = at_steady()
                ahead = (str(desk.unit()), desk.unit().log(), desk.at(), desk.say("units"))
                self.assertEqual(desk.say(changed), "no line", changed)
                self.assertEqual((str(desk.unit()), desk.unit().log(), desk.at(), desk.say("units")), ahead)

    def changed(self, line, words):
        """Lines that are none."""
        found = [line + " ?", "?" + line, line + " ;", line + " ; ?", "; " + line, line.upper(), line + "\n",
                 "\n" + line, line.replace(" ", "\n", 1) if " " in line else "\n", " " + line, line + " ",
                 line + "  " + line, line.replace(" ", "  ", 1) + "  x", line + " ; undo", "undo ; " + line,
                 line + " ; text", line + " ;" + line, line + "; " + line, line.replace("_", "") + "_"]
        if words[0] not in ("run", "put_node", "add_node") or words[0] == "run" and len(words) == 5:
            found.append(line + " 1")
        if words[0] == "run":
            found += ["run x", "run 01", "run -1", "run 1 x", "run 100000", "run 1 2 3 4 5", "run (1)", "run 1,2"]
            return found
        if "phi" not in words and ";" not in words:
            found += [" ".join(words[:at]) for at in range(1, len(words))]
        for at in range(1, len(words)):
            if words[at].isdigit():
                wrong = ["x", "-1", "01", "100000", "1.5", "", "-"]
                if words[0] == "add_deed" and at == 2:
                    wrong.remove("-")
            elif words[at] == "-":
                wrong = ["x", "--", "-1", "none"]
            elif words[at] == ";":
                wrong = [",", ";;"]
            elif words[at] in ("add", "word", "given", "phi", "load", "pick", "out", "check", "store", "goto", "if",
                               "return"):
                wrong = ["x", "1", "node", "block", "ended"]
            else:
                wrong = ["1", "Top", "abcdefghi", "a1", "-"]
            found += [" ".join(words[:at] + [word] + words[at + 1:]) for word in wrong]
        return found

    def test_what_is_no_line(self):
        desk = Desk()
        for line in odd_things() + [
            b"cost", ["cost"], ("cost",), "", " ", ";", " ; ", "cost ", " cost", "Cost", "costs", "cost cost", "cost\n",
            "\ncost", "graph", "profile", "pins", "hold", "classes", "deeds", "log", "busy", "copied", "copied x",
            "many fold", "many ; fold", "many 1", "unit", "node word 1", "block x", "done", "none", "first", "at",
            "say", "copy", "use", "same", "copy a b", "use first first", "same first ;", "units first", "text 1",
            "add_deed entry out 0", "add_deed entry - return 0", "add_deed entry - goto entry", "set_end entry out 0",
            "add_node node word 1", "put_node 0 node word 1", "put_node word 1", "pin 0 entry", "pin entry 0",
            "drop_deed entry -", "set_hold -", "__init__", "undo undo", "undo ; undo", "redo ; fold", "fold ; copy a",
            "fold ; cost", "fold ; use first", "fold ; unit unit 1 ; counts 1 ; block a ; return 0 ; node word 0",
            "fold;tidy", "fold ;tidy", "fold; tidy", "fold  ; tidy", "fold ; ; tidy", "fold ;", "run 1 ; run 2",
        ]:
            self.assertEqual(desk.say(line), "no line")
        self.assertEqual((desk.unit().log(), desk.say("units"), desk.at()), ([], "first", "first"))

    def test_drawn_deeds(self):
        seen, done = set(), 0
        for seed in range(70):
            chance = random.Random(seed)
            unit, _ = some_unit(seed, blocks=5, deeds=3, nodes=9, wide=seed % 2 == 0)
            desk = Desk()
            self.assertEqual(desk.say("unit " + str(unit).replace("\n", " ; ")), "done")
            for _ in range(14):
                deeds = [some_deed(chance, unit.graph(), unit.pins())
                         for _ in range(chance.choice((1, 1, 1, 2, 3)))]
                line = " ; ".join(line_for(*deed) for deed in deeds)
                if len(deeds) == 1:
                    fault = refusal(getattr(unit, deeds[0][0]), *deeds[0][1:])
                else:
                    fault = refusal(unit.many, tuple(deeds))
                self.assertEqual(desk.say(line), answer_for(fault), line)
                seen.add(answer_for(fault).split()[min(1, len(answer_for(fault).split()) - 1)])
                done += fault is None
                if chance.random() < 0.2:
                    word = chance.choice(("undo", "redo"))
                    self.assertEqual(desk.say(word), answer_for(refusal(getattr(unit, word))))
                self.told_the_same(desk, unit)
        self.assertGreater(done, 300)
        self.assertLessEqual(
            {"done", "graph", "unsound", "pinned", "place", "twice", "node", "nothing", "profile"}, seen)

    def told_the_same(self, desk, unit):
        """A desk answers what a unit tells."""
        held = desk.unit(desk.at())
        self.assertTrue(held == unit)
        self.assertEqual((held.log(), held.deeds()), (unit.log(), unit.deeds()))
        self.assertEqual(desk.say("text"), str(unit).replace("\n", " ; "))
        self.assertEqual(desk.say("cost"), str(unit.cost()))
        self.assertEqual(desk.say("registers"), str(unit.registers()))
        self.assertEqual(desk.say("many"), str(len(unit)))
        rows = [f"{node} {high[0]} {high[1]} {low[0]} {low[1]}" for node, high, low in unit.ranges()]
        self.assertEqual(desk.say("ranges"), ", ".join(rows) or "none")
        rows = [f"{node} {name} {at}" for node, (name, at) in unit.placement()]
        self.assertEqual(desk.say("placement"), ", ".join(rows) or "none")
        rows = [f"{node} {name} {at}" for node, (name, at) in unit.placement(early=True)]
        self.assertEqual(desk.say("early"), ", ".join(rows) or "none")
        outs, end = unit.run((3, 0, 9))
        self.assertEqual(desk.say("run 3 0 9"), " ".join(str(part) for part in (*outs, *end)))

    def test_texts(self):
        desk = Desk()
        for graph in (STEADY, TALL, BARE, LEAST):
            line = unit_text(graph, default_profile(graph), (), 4).replace("\n", " ; ")
            self.assertEqual(desk.say("unit " + line), "done")
            self.assertEqual(desk.say("text"), line)
            self.assertTrue(desk.unit() == Unit(graph, hold=4))
            self.assertEqual((desk.unit().log(), desk.say("many")), ([], "0"))
            self.told_the_same(desk, Unit(graph, hold=4))
        self.assertEqual(desk.say("ranges"), "none")
        self.assertEqual(desk.say("placement"), "none")
        self.assertEqual(desk.say("early"), "none")
        self.assertEqual(desk.say("cost"), "0")
        self.assertEqual(desk.say("registers"), "0")
        self.assertEqual(desk.say("run"), "stopped")

    def test_line_feeds_are_in_no_line(self):
        desk = Desk()
        text = "unit 1 ; counts 1 ; block a ; return 0 ; node word 0"
        for at in range(text.count(" ; ")):
            parts = text.split(" ; ")
            line = " ; ".join(parts[:at + 1]) + "\n" + " ; ".join(parts[at + 1:])
            self.assertEqual(desk.say("unit " + line), "no line")
        self.assertEqual(desk.say("unit\n" + text), "no line")
        self.assertEqual(desk.say("merge\nfold"), "no line")
        self.assertEqual(desk.say("unit " + text), "done")

    def test_texts_refused(self):
        head = "unit 1 ; counts 1 ; "
        body = "block a ; return 0 ; node word 0"
        for text, answer in (
            ("unit 10 ; counts 1 ; " + body, "row 1 2"), ("x", "row 1 1"), ("unit 1", "row 2 0"),
            (head[:-3], "row 3 0"),
            (head + "block a", "row 4 0"), (head + body + " ;", "row 5 4"), ("1 ; counts 1 ; " + body, "row 1 1"),
            (head + "block a ; return 1 ; node word 0", "graph blocks 0"),
            (head + "pin 0 a 1 ; " + body, "placement 0"),
            ("unit 1 ; counts 1 2 ; " + body, "profile -"), (head + "pin 1 a 0 ; " + body, "placement 1"),
            (head + "block a ; return 0 ; node div 1 2 ; node word 0 ; node given 0", "unsound 0"),
            (head + "block a ; return 0 ; node word 70000", "graph nodes 0"),
            (head + "block a ; goto a", "graph ends 0"), (head + "block a ; goto b ; block b ; goto b", "profile -"),
        ):
            desk = Desk()
            desk.say("set_hold 3")
            self.assertEqual(desk.say("unit " + text), "refused " + answer)
            self.assertEqual(refusal(read_unit, text.replace(" ; ", "\n")) is None, False)
            self.assertEqual((desk.say("many"), desk.unit().hold()), ("1", 3))

    def test_units_under_names(self):
        desk = Desk()
        desk.say("add_node word 5")
        for name in ("z", "b", "abcdefgh", "x", "y"):
            self.assertEqual(desk.say("copy " + name), "done")
        self.assertEqual(desk.say("units"), "abcdefgh, b, first, x, y, z")
        self.assertEqual(desk.at(), "first")
        # A seventh, and one in the place of one there.
        self.assertEqual(desk.say("copy more"), "refused great")
        self.assertEqual(desk.say("set_end entry return 1"), "done")
        self.assertEqual(desk.say("same b"), "no")
        self.assertEqual(desk.say("copy b"), "done")
        self.assertEqual(desk.say("same b"), "yes")
        self.assertEqual(desk.say("same z"), "no")
        self.assertEqual(desk.say("use b"), "done")
        self.assertEqual(desk.at(), "b")
        # The copy has the deeds as well, and goes on by itself.
        self.assertEqual(desk.say("many"), "2")
        self.assertEqual(desk.say("undo"), "done")
        self.assertEqual(desk.say("same first"), "no")
        self.assertEqual(desk.say("same z"), "yes")
        self.assertEqual(desk.say("redo"), "done")
        self.assertEqual(desk.say("same first"), "yes")
        self.assertEqual(desk.say("copy first"), "done")
        self.assertEqual(desk.say("copy b"), "done")
        self.assertEqual(desk.at(), "b")
        self.assertEqual(desk.say("unit unit 0 ; counts 3 ; block q ; return 0 ; node given 2"), "done")
        self.assertEqual(desk.say("run 1 2 9"), "returned 9")
        self.assertEqual(desk.say("use first"), "done")
        self.assertEqual(desk.say("run 1 2 9"), "returned 5")
        # A unit that nobody has under a name.
        for name in ("more", "nobody", "a"):
            for word in ("use", "same"):
                self.assertEqual(desk.say(f"{word} {name}"), "refused none")
            self.assertEqual(refusal(desk.unit, name), ("Nothing",))
        self.assertEqual(desk.at(), "first")
        for thing in odd_things() + ["First", "first ", ["first"], ("first",)]:
            self.assertEqual(refusal(desk.unit, thing), ("Nothing",))

    def test_a_copy_is_handed_out(self):
        desk = Desk()
        told = desk.unit()
        told.set_hold(9)
        self.assertEqual(desk.unit().hold(), 1)
        self.assertEqual(desk.say("many"), "0")
        desk.say("set_hold 4")
        self.assertEqual((told.hold(), desk.unit().hold()), (9, 4))
        self.assertEqual(desk.unit().log(), [("begun", 1), ("done", 1)])
        self.assertEqual(desk.unit().deeds(), [("set_hold", 4)])

    def test_two_desks_by_turns(self):
        one, other = Desk(), Desk()
        one.say("set_hold 5")
        self.assertEqual((one.unit().hold(), other.unit().hold()), (5, 1))
        other.say("copy b")
        self.assertEqual((one.say("units"), other.say("units")), ("first", "b, first"))
        other.say("use b")
        self.assertEqual((one.at(), other.at()), ("first", "b"))

    def test_at_the_end_and_ahead_of_all(self):
        desk = Desk()
        desk.say("add_node word 5")
        self.assertEqual(desk.say("add_deed entry - out 0 ; add_deed entry - out 1 ; add_deed entry 0 out 1"), "done")
        self.assertEqual(desk.say("run"), "5 0 5 returned 0")
        self.assertEqual(desk.unit().deeds()[1], ("many", (
            ("add_deed", "entry", ("out", 0), 0), ("add_deed", "entry", ("out", 1), 1),
            ("add_deed", "entry", ("out", 1), 0))))
        self.assertEqual(desk.say("add_deed entry - check 0"), "done")
        self.assertEqual(desk.unit().deeds()[2], ("add_deed", "entry", ("check", 0), 3))
        self.assertEqual(desk.say("run"), "5 0 5 fault entry 3")

    def test_twenty_deeds_as_one(self):
        desk = Desk()
        self.assertEqual(desk.say(" ; ".join(["set_hold 3"] * 20)), "done")
        self.assertEqual(desk.say("many"), "1")
        self.assertEqual(desk.say(" ; ".join(["set_hold 4"] * 21)), "refused place")
        self.assertEqual(desk.unit().log()[-1], ("refused", 2, 0))
        self.assertEqual(desk.say(" ; ".join(["set_hold 4"] * 20 + ["set_hold x"])), "no line")
        self.assertEqual(desk.say("set_hold 5 ; set_hold 10 ; unpin 0"), "refused place")
        self.assertEqual(desk.unit().log()[-1], ("refused", 3, 1))
        self.assertEqual(desk.unit().hold(), 3)
        # One deed alone is itself.
        self.assertEqual(desk.say("set_hold 5"), "done")
        self.assertEqual(desk.unit().deeds()[-1], ("set_hold", 5))

    def test_refused_by_hand(self):
        for line, answer in (
            ("put_node 10 word 1", "node 10"), ("put_node 99999 word 1", "node 99999"),
            ("put_node 8 word 65536", "graph nodes 8"), ("put_node 8 given 4", "graph nodes 8"),
            ("put_node 8 add 8 8", "graph rings 8"),
            ("put_node 9 phi nowhere 1", "graph nodes 9"), ("put_node 9 phi head", "graph nodes 9"),
            ("add_node load 2 0 top 0", "graph nodes 10"), ("add_node load 1 0 top 5", "graph nodes 10"),
            ("add_deed nowhere - out 0", "block nowhere"), ("add_deed left 3 out 0", "place"),
            ("add_deed left 0 out 10", "graph blocks 2"), ("add_deed done 0 out 0", "great"),
            ("drop_deed left 2", "place"), ("drop_deed head 0", "place"), ("drop_deed x 0", "block x"),
            ("drop_deed done 1", "unsound 6"),
            ("set_end left goto nowhere", "graph ends 2"), ("set_end left goto top", "graph ends 2"),
            ("set_end nobody return 0", "block nobody"), ("set_end head goto left", "graph reached 3"),
            ("split_edge top left x", "place"), ("split_edge x top x", "block x"), ("split_edge top x x", "block x"),
            ("split_edge top head done", "twice"), ("set_count nobody 1", "block nobody"),
            ("set_count left 1000", "profile left"),
            ("set_hold 10", "place"), ("pin 10 top 0", "node 10"), ("pin 1 top 0", "place"), ("pin 8 top 4", "place"),
            ("pin 8 nowhere 0", "place"), ("pin 8 done 0", "pinned 8"), ("unpin 10", "node 10"), ("unpin 5", "nothing"),
            ("run 65536", "given 0"), ("run 1 2 3 99999", "given 3"), ("copy a", None), ("use nobody", "none"),
        ):
            desk = at_steady()
            ahead = desk.unit()
            told = desk.say(line)
            self.assertEqual(told, "done" if answer is None else "refused " + answer, line)
            self.assertTrue(desk.unit() == ahead)
            begun = line.split("_")[0] in ("put", "add", "drop", "set", "split") or line.startswith(("pin", "unpin"))
            self.assertEqual(len(desk.unit().log()), len(ahead.log()) + 2 * begun)

    def test_merging_lines(self):
        for graph in sound_doubles(20, blocks=5, deeds=3, nodes=10):
            desk, unit = Desk(), Unit(graph)
            desk.say("unit " + str(unit).replace("\n", " ; "))
            for word in ("merge", "fold", "tidy"):
                self.assertEqual(desk.say(word), "done")
                getattr(unit, word)()
                self.assertEqual(state(desk.unit()), state(unit))


if __name__ == "__main__":
    unittest.main()
