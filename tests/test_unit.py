import copy
import random
import unittest

from growing import grown
from keeping import TAKEN, ByDeeds, Refused, some_deed
from making import BARE, LEAST, LOOPED, STEADY, TALL
from odd import odd_things
from running import some_words
from test_alike import sound_doubles
from test_demand import one_block
from trying import refusal

from seaplace.alike import classes
from seaplace.cheapest import cheapest, pinned_ranges
from seaplace.costs import cost_of, default_profile
from seaplace.demand import run
from seaplace.graphs import names_of
from seaplace.ranges import ranges
from seaplace.registers import fewest_registers
from seaplace.simpler import folded, merged, tidied
from seaplace.unit import Unit
from seaplace.unitread import read_unit
from seaplace.unittext import unit_text

FIRST = ((("entry", (), ("return", 0)),), (("word", 0),))


def state(unit):
    """All that deeds change."""
    return (unit.graph(), unit.profile(), unit.pins(), unit.hold())


def some_unit(seed, **how):
    """A unit by a seed, and what it is by the words of the document."""
    chance = random.Random(seed)
    graph = grown(seed, **how)
    profile = {name: chance.choice((0, 1, 2, 9, 999)) for name in names_of(graph)}
    pins = []
    for node, high, low in ranges(graph):
        slot = chance.choice((high, low, None, None))
        if slot is not None and refusal(pinned_ranges, graph, (*pins, (node, slot))) is None:
            pins.append((node, slot))
    hold = chance.randrange(10)
    return (Unit(graph, profile=profile, pins=tuple(pins), hold=hold), ByDeeds(graph, profile, pins, hold))


class Units(unittest.TestCase):
    def same(self, unit, other):
        """Two units tell the same of all but their deeds and logs."""
        self.assertTrue(unit == other)
        self.assertEqual(state(unit), state(other))
        self.assertEqual(list(unit.profile()), list(other.profile()))
        self.assertEqual(str(unit), str(other))
        self.assertEqual(unit.ranges(), other.ranges())
        self.assertEqual((unit.placement(), unit.placement(early=True)),
                         (other.placement(), other.placement(early=True)))
        self.assertEqual((unit.cost(), unit.registers(), unit.classes(), unit.run((3, 4))),
                         (other.cost(), other.registers(), other.classes(), other.run((3, 4))))

    def as_one_made_anew(self, unit):
        """A unit tells what the functions of the program tell of its graph, profile, pins and hold."""
        graph, profile, pins, hold = state(unit)
        self.same(unit, Unit(graph, profile=profile, pins=pins, hold=hold))
        self.same(unit, read_unit(str(unit)))
        self.assertEqual(str(unit), unit_text(graph, profile, pins, hold))
        self.assertEqual(list(profile), list(names_of(graph)))
        self.assertEqual(unit.ranges(), pinned_ranges(graph, pins))
        low = cheapest(graph, profile=profile, pins=pins, hold=hold)
        self.assertEqual(unit.placement(), low)
        for early in (False, None, 1, "True"):
            self.assertEqual(unit.placement(early=early), low)
        high = cheapest(graph, profile=profile, pins=pins, hold=hold, early=True)
        self.assertEqual(unit.placement(early=True), high)
        self.assertEqual(unit.cost(), cost_of(graph, low, profile=profile, hold=hold))
        self.assertEqual(unit.registers(), fewest_registers(graph, low))
        self.assertEqual(unit.classes(), classes(graph))
        self.assertEqual(unit.run((5, 6), most=9), run(graph, (5, 6), most=9))

    def test_of_nothing(self):
        for unit in (Unit(), Unit(None), Unit(graph=None), Unit(FIRST), Unit(FIRST, profile=None, pins=(), hold=1)):
            self.assertEqual(state(unit), (FIRST, {"entry": 1}, (), 1))
            self.assertEqual((unit.deeds(), unit.log(), len(unit), unit.busy()), ([], [], 0, False))
            self.assertEqual(str(unit), "unit 1\ncounts 1\nblock entry\nreturn 0\nnode word 0")
            self.assertEqual(unit.run(), ((), ("returned", 0)))
            self.assertEqual(unit.run(given=(1, 2), most=1), ((), ("returned", 0)))
            self.as_one_made_anew(unit)

    def test_of_graphs(self):
        for graph in (STEADY, TALL, BARE, LEAST):
            unit = Unit(graph)
            self.assertEqual(state(unit), (graph, default_profile(graph), (), 1))
            self.as_one_made_anew(unit)
        for seed in range(40):
            self.as_one_made_anew(some_unit(seed, blocks=6, deeds=3, nodes=12)[0])

    def test_drawn_deeds(self):
        done, refused, kinds = {}, {}, set()
        for seed in range(110):
            chance = random.Random(seed)
            unit, due = some_unit(seed, blocks=5, deeds=3, nodes=9, wide=seed % 2 == 0)
            past, back, rows, log = [], [], [], []
            for step in range(22):
                if chance.random() < 0.2:
                    self.taken_back(chance, unit, due, past, back, rows)
                    due = self.now(unit, due, past, back)
                else:
                    word, things, answer = self.next_deed(chance, due)
                    number = len([row for row in log if row[0] == "begun"]) + 1
                    log.append(("begun", number))
                    ahead = state(unit)
                    fault = refusal(getattr(unit, word), *things)
                    if isinstance(answer, Refused):
                        at = answer.args[-1] if word == "many" else 0
                        fields = answer.args[:-1] if word == "many" else answer.args
                        self.assertEqual(fault, fields, (seed, step, word, things))
                        log.append(("refused", number, at))
                        self.assertEqual(state(unit), ahead)
                        refused[word] = refused.get(word, 0) + 1
                        kinds.add(fields[0])
                    else:
                        self.assertIsNone(fault, (seed, step, word, things))
                        log.append(("done", number))
                        past.append((due, answer[1]))
                        back.clear()
                        due = answer[0]
                        done[word] = done.get(word, 0) + 1
                self.assertEqual(state(unit), due.told())
                self.assertEqual(unit.deeds(), [row for _, row in past])
                self.assertEqual(len(unit), len(past))
                self.assertEqual(unit.log(), log)
                self.assertIs(unit.busy(), False)
                if step % 4 == 0:
                    self.as_one_made_anew(unit)
        for word in ("put_node", "add_node", "add_deed", "drop_deed", "set_end", "split_edge", "set_count", "set_hold",
                     "pin", "unpin", "merge", "fold", "tidy", "many"):
            self.assertGreater(done.get(word, 0), 8, (word, done))
        self.assertLessEqual({"BadGraph", "Unsound", "Pinned", "OutOfPlace", "Twice", "NoNode", "TooGreat", "Nothing",
                              "BadProfile"}, kinds | {"TooGreat"})

    def next_deed(self, chance, due):
        """A deed or several as one, and what comes of it."""
        try:
            if chance.random() < 0.2:
                deeds = tuple(some_deed(chance, due.graph, due.told()[2]) for _ in range(chance.choice((1, 2, 2, 3))))
                return "many", (deeds,), due.as_one(deeds)
            word, *things = some_deed(chance, due.graph, due.told()[2])
            return word, things, due.after(word, *things)
        except Refused as error:
            if "deeds" in locals():
                return "many", (deeds,), error
            return word, things, error

    def taken_back(self, chance, unit, due, past, back, rows):
        """Takes back, or does again, what can be."""
        if chance.random() < 0.6:
            self.assertEqual(refusal(unit.undo), None if past else ("Nothing",))
            self.way = "undo" if past else None
        else:
            self.assertEqual(refusal(unit.redo), None if back else ("Nothing",))
            self.way = "redo" if back else None

    def now(self, unit, due, past, back):
        """What stands behind that."""
        if self.way == "undo":
            ahead, row = past.pop()
            back.append((due, row))
            return ahead
        if self.way == "redo":
            after, row = back.pop()
            past.append((due, row))
            return after
        return due

    def test_merging_deeds(self):
        pinned = 0
        for seed, graph in enumerate(sound_doubles(60, blocks=5, deeds=3, nodes=10)):
            chance = random.Random(seed)
            for word, function in (("merge", merged), ("fold", folded), ("tidy", tidied)):
                unit = Unit(graph)
                for node, high, low in unit.ranges():
                    if chance.random() < 0.4:
                        refusal(unit.pin, node, chance.choice((high, low)))
                due = ByDeeds(*state(unit))
                try:
                    answer = due.after(word)[0].told()
                except Refused as error:
                    self.assertEqual(refusal(getattr(unit, word)), error.args)
                    self.assertEqual(state(unit), due.told())
                    pinned += 1
                    continue
                getattr(unit, word)()
                self.assertEqual(state(unit), answer)
                self.assertEqual(unit.graph(), function(graph))
                self.as_one_made_anew(unit)
        self.assertGreater(pinned, 3)

    def test_each_deed_by_hand(self):
        unit = Unit(one_block([("out", 0)], ("return", 1), [("word", 5), ("given", 0)]))
        steps = (
            ("put_node", (0, ("word", 6)), ("out", (6,))),
            ("add_node", (("add", 0, 1),), ("out", (6,))),
            ("add_deed", ("a", ("out", 2), 0), ("out", (13, 6))),
            ("add_deed", ("a", ("check", 1)), ("out", (13, 6))),
            ("drop_deed", ("a", 0), ("out", (6,))),
            ("set_end", ("a", ("return", 0)), ("return", 6)),
            ("set_count", ("a", 999), ("profile", {"a": 999})),
            ("set_count", ("a", 0), ("cost", 0)),
            ("set_hold", (0,), ("hold", 0)),
            ("set_hold", (9,), ("hold", 9)),
            ("pin", (0, ("a", 0)), ("pins", ((0, ("a", 0)),))),
            ("unpin", (0,), ("pins", ())),
        )
        for number, (word, things, (what, due)) in enumerate(steps, 1):
            self.assertIsNone(getattr(unit, word)(*things))
            told = {"out": unit.run((7,))[0], "return": unit.run((7,))[1][1], "cost": unit.cost(),
                    "profile": unit.profile(), "hold": unit.hold(), "pins": unit.pins()}
            self.assertEqual(told[what], due)
            self.assertEqual(len(unit), number)
            self.assertEqual(unit.deeds()[-1], (word, *things, 2) if things[1:] == (("check", 1),) else (word, *things))
            self.assertEqual(unit.log()[-2:], [("begun", number), ("done", number)])
            self.as_one_made_anew(unit)
        for number in range(len(steps), 0, -1):
            self.assertIsNone(unit.undo())
            self.assertEqual(len(unit), number - 1)
        self.assertEqual(unit.graph(), one_block([("out", 0)], ("return", 1), [("word", 5), ("given", 0)]))
        self.assertEqual(refusal(unit.undo), ("Nothing",))
        for _ in steps:
            self.assertIsNone(unit.redo())
        self.assertEqual(refusal(unit.redo), ("Nothing",))
        self.assertEqual(unit.hold(), 9)
        # Neither of these is a deed.
        self.assertEqual(len(unit.log()), 2 * len(steps))

    def test_deeds_by_their_arguments_names(self):
        unit = Unit()
        unit.put_node(thing=("word", 1), node=0)
        unit.add_node(thing=("word", 2))
        unit.add_deed(deed=("out", 1), block="entry")
        unit.add_deed(at=0, deed=("out", 0), block="entry")
        unit.drop_deed(at=0, block="entry")
        unit.set_end(end=("return", 0), block="entry")
        unit.set_count(count=4, block="entry")
        unit.set_hold(hold=2)
        unit.pin(slot=("entry", 0), node=1)
        unit.unpin(node=1)
        unit.many(deeds=(("merge",), ("add_deed", "entry", ("out", 0), None)))
        self.assertEqual(unit.deeds(), [
            ("put_node", 0, ("word", 1)), ("add_node", ("word", 2)), ("add_deed", "entry", ("out", 1), 0),
            ("add_deed", "entry", ("out", 0), 0), ("drop_deed", "entry", 0), ("set_end", "entry", ("return", 0)),
            ("set_count", "entry", 4), ("set_hold", 2), ("pin", 1, ("entry", 0)), ("unpin", 1),
            ("many", (("merge",), ("add_deed", "entry", ("out", 0), 1))),
        ])
        other = Unit(BARE)
        other.split_edge(name="x", to="loop", block="top")
        self.assertEqual(other.deeds(), [("split_edge", "top", "loop", "x")])

    def test_slots_where_a_deed_comes_or_goes(self):
        # Stores at 1 and 3, loads of both versions and of the block's first one, one of which isn't live.
        deeds = [("out", 0), ("store", 0, 0, 1), ("out", 2), ("store", 0, 0, 2), ("out", 3)]
        nodes = [("word", 1), ("given", 0), ("load", 0, 0, ("a", 2)), ("load", 0, 1, ("a", 4)),
                 ("load", 0, 0, ("a", 4)), ("load", 1, 0, ("a", 5))]
        graph = one_block(deeds, ("return", 3), nodes)
        for at, versions, pin in ((0, (1, 3, 3, 4), 3), (2, (2, 3, 3, 4), 3), (4, (2, 4, 4, 4), 4)):
            unit = Unit(graph, pins=((3, ("a", 4)),))
            unit.drop_deed("a", at)
            self.assertEqual([thing[3][1] for thing in unit.graph()[1][2:]], list(versions))
            self.assertEqual(unit.pins(), ((3, ("a", pin)),))
            self.as_one_made_anew(unit)
            for back in range(5):
                other = unit.copied()
                if refusal(other.add_deed, "a", ("out", 0), back) is None:
                    moved = [version + (version > back) for version in versions]
                    self.assertEqual([thing[3][1] for thing in other.graph()[1][2:]], moved)
                    self.assertEqual(other.pins(), ((3, ("a", pin + (pin > back))),))
                    self.as_one_made_anew(other)
        # A store goes while a live load has its version; the load that isn't live keeps none from going.
        unit = Unit(graph)
        self.assertEqual(refusal(unit.drop_deed, "a", 1), ("Unsound", 2))
        self.assertEqual(refusal(unit.drop_deed, "a", 3), ("Unsound", 3))
        unit.put_node(3, ("word", 9))
        unit.drop_deed("a", 3)
        self.assertEqual(unit.graph()[1][4], ("load", 0, 0, ("a", 3)))
        self.assertEqual(unit.graph()[1][5], ("load", 1, 0, ("a", 4)))
        # A load of the other region with that version keeps none from going, if it floats somewhere.
        graph = one_block([("store", 0, 0, 1), ("store", 1, 0, 1)], ("return", 2), [
            ("word", 1), ("given", 0), ("load", 1, 0, ("a", 2))])
        unit = Unit(graph)
        unit.drop_deed("a", 0)
        self.assertEqual(unit.graph()[1][2], ("load", 1, 0, ("a", 1)))
        self.assertEqual(refusal(unit.drop_deed, "a", 0), ("Unsound", 2))

    def test_a_store_goes_ahead_of_what_else_is_refused(self):
        # Both loads are of its version, the least one is told; without it the other one's slot would lack, too.
        graph = one_block([("store", 0, 0, 1), ("out", 3), ("out", 2)], ("return", 2), [
            ("word", 1), ("given", 0), ("load", 0, 0, ("a", 1)), ("load", 0, 1, ("a", 1))])
        unit = Unit(graph)
        self.assertEqual(refusal(unit.drop_deed, "a", 0), ("Unsound", 2))
        self.assertEqual(refusal(unit.drop_deed, "a", 3), ("OutOfPlace",))
        self.assertEqual(refusal(unit.drop_deed, "b", 0), ("NoBlock", "b"))

    def test_split_by_hand(self):
        unit = Unit(BARE, profile={"top": 4, "side": 7, "loop": 2, "last": 9})
        unit.split_edge("loop", "loop", "again")
        self.assertEqual(unit.graph()[0][2:4], (
            ("loop", (("check", 1),), ("if", 1, "again", "last")), ("again", (), ("goto", "loop"))))
        self.assertEqual(unit.profile(), {"top": 4, "side": 7, "loop": 2, "again": 2, "last": 9})
        self.assertEqual(list(unit.profile()), ["top", "side", "loop", "again", "last"])
        unit.split_edge("top", "side", "ab")
        self.assertEqual(unit.profile()["ab"], 4)
        self.assertEqual(unit.graph()[0][:2], (
            ("top", (("out", 0),), ("if", 0, "ab", "loop")), ("ab", (), ("goto", "side"))))
        unit.split_edge("side", "loop", "abcdefgh")
        self.assertEqual(unit.profile()["abcdefgh"], 2)
        self.assertEqual(unit.graph()[1], BARE[1])
        self.as_one_made_anew(unit)
        for given in ((), (1,)):
            self.assertEqual(unit.run(given, most=2000), run(BARE, given, most=2000))

    def test_split_refused(self):
        unit = Unit(STEADY)
        for thing in odd_things():
            if thing != "nowhere":
                self.assertEqual(refusal(unit.split_edge, thing, thing, thing), ("NoBlock", thing))
                self.assertEqual(refusal(unit.split_edge, "top", thing, thing), ("NoBlock", thing))
            self.assertEqual(refusal(unit.split_edge, "top", "left", thing), ("OutOfPlace",))
            if thing != "nowhere":
                self.assertEqual(refusal(unit.split_edge, "top", "head", thing), ("OutOfPlace",))
        for name in ("abcdefghi", "A", "a1", "top ", ""):
            self.assertEqual(refusal(unit.split_edge, "top", "head", name), ("OutOfPlace",))
        for name in ("top", "head", "done"):
            self.assertEqual(refusal(unit.split_edge, "top", "head", name), ("Twice",))
            self.assertEqual(refusal(unit.split_edge, "top", "done", name), ("OutOfPlace",))
        self.assertEqual(refusal(unit.split_edge, "done", "head", "x"), ("OutOfPlace",))
        for name in "uvwxyz":
            unit.split_edge("top", unit.graph()[0][0][2][1], name)
        self.assertEqual(len(unit.graph()[0]), 12)
        self.assertEqual(refusal(unit.split_edge, "head", "left", "more"), ("TooGreat",))
        self.assertEqual(refusal(unit.split_edge, "head", "left", "top"), ("Twice",))

    def test_bounds(self):
        # A 41st node, a sixth deed.
        unit = Unit(TALL)
        self.assertEqual(refusal(unit.add_node, ("word", 1)), ("TooGreat",))
        self.assertEqual(refusal(unit.add_node, None), ("TooGreat",))
        self.assertEqual(refusal(unit.add_deed, "top", ("out", 0)), ("TooGreat",))
        self.assertEqual(refusal(unit.add_deed, "top", None, 5), ("TooGreat",))
        self.assertEqual(refusal(unit.add_deed, "top", None, 6), ("OutOfPlace",))
        self.assertEqual(refusal(unit.add_deed, "nowhere", None, 6), ("NoBlock", "nowhere"))
        unit.drop_deed("top", 4)
        unit.add_deed("top", ("out", 0), 4)
        self.assertEqual(unit.graph(), TALL)
        unit.drop_deed("top", 0)
        unit.add_deed("top", ("out", 0), 0)
        self.assertEqual(unit.graph(), TALL)
        unit = Unit()
        for at in range(39):
            unit.add_node(("word", at))
        self.assertEqual(len(unit.graph()[1]), 40)
        self.assertEqual(refusal(unit.add_node, ("word", 1)), ("TooGreat",))
        for _ in range(5):
            unit.add_deed("entry", ("out", 0))
        self.assertEqual(refusal(unit.add_deed, "entry", ("out", 0)), ("TooGreat",))
        unit.tidy()
        self.assertEqual(unit.graph()[1], (("word", 0),))

    def test_pins(self):
        unit = Unit(STEADY)
        for thing in odd_things() + [10]:
            self.assertEqual(refusal(unit.pin, thing, thing), ("NoNode", thing))
            self.assertEqual(refusal(unit.unpin, thing), ("NoNode", thing))
            self.assertEqual(refusal(unit.pin, 8, thing), ("OutOfPlace",))
        for node in (1, 2, 9):
            # A given, a phi, one that isn't live.
            self.assertEqual(refusal(unit.pin, node, ("top", 0)), ("OutOfPlace",))
            self.assertEqual(refusal(unit.unpin, node), ("Nothing",))
        self.assertEqual(refusal(unit.pin, 8, ["top", 0]), ("OutOfPlace",))
        self.assertEqual(refusal(unit.pin, 8, ("done", 0)), ("Pinned", 8))
        unit.pin(8, ("foot", 0))
        self.assertEqual(unit.ranges()[3], (5, ("foot", 0), ("foot", 0)))
        # Its user can't stand above it any more; where both are pinned, the least that has no slot is told.
        self.assertEqual(refusal(unit.pin, 5, ("head", 0)), ("Pinned", 5))
        unit.pin(8, ("top", 1))
        self.assertEqual(unit.pins(), ((8, ("top", 1)),))
        unit.pin(5, ("head", 0))
        self.assertEqual(unit.pins(), ((5, ("head", 0)), (8, ("top", 1))))
        self.assertEqual(refusal(unit.pin, 8, ("foot", 0)), ("Pinned", 5))
        self.as_one_made_anew(unit)
        # A pin goes with its node, and comes again where that is taken back.
        unit.put_node(5, ("given", 3))
        self.assertEqual(unit.pins(), ())
        unit.undo()
        self.assertEqual(unit.pins(), ((5, ("head", 0)), (8, ("top", 1))))
        # A pin that isn't in its range any more is told ahead of those that can't be kept together.
        graph = one_block([("out", 0), ("out", 1), ("out", 2), ("out", 3)], ("return", 3), [
            ("word", 1), ("add", 0, 0), ("add", 1, 0), ("word", 4)])
        unit = Unit(graph, pins=((1, ("a", 0)), (3, ("a", 3))))
        self.assertEqual(refusal(unit.set_end, "a", ("return", 0)), None)
        self.assertEqual(refusal(unit.add_deed, "a", ("out", 3), 0), ("Pinned", 3))
        self.assertEqual(refusal(unit.put_node, 3, ("sub", 1, 2)), None)
        unit.undo()
        unit.pin(0, ("a", 0))
        unit.unpin(1)
        unit.pin(2, ("a", 1))
        unit.pin(0, ("a", 0))
        self.assertEqual(unit.pins(), ((0, ("a", 0)), (2, ("a", 1)), (3, ("a", 3))))
        # Merged away, a node has no pin; numbers go along where the graph is tidied.
        unit = Unit(one_block([("out", 1), ("out", 2), ("out", 4)], ("return", 2), [
            ("word", 9), ("word", 5), ("word", 5), ("given", 0), ("add", 3, 3)]))
        unit.many((("pin", 2, ("a", 1)), ("pin", 4, ("a", 2))))
        unit.tidy()
        self.assertEqual(unit.pins(), ((1, ("a", 1)), (3, ("a", 2))))
        unit.merge()
        self.assertEqual(unit.pins(), ((3, ("a", 2)),))
        unit.undo()
        unit.many((("unpin", 1), ("pin", 0, ("a", 0)), ("merge",)))
        self.assertEqual(unit.pins(), ((0, ("a", 0)), (3, ("a", 2))))

    def test_pinned_is_the_least_whose_pin_is_out_of_its_range(self):
        graph = one_block([("out", 0), ("out", 1), ("out", 2)], ("return", 2), [
            ("word", 1), ("word", 2), ("word", 3)])
        unit = Unit(graph, pins=((0, ("a", 0)), (1, ("a", 1)), (2, ("a", 2))))
        self.assertEqual(refusal(unit.many, (("add_deed", "a", ("out", 2), 0),)), ("Pinned", 2))
        self.assertEqual(refusal(unit.set_end, "a", ("return", 0)), None)
        self.assertEqual(refusal(unit.add_deed, "a", ("store", 0, 2, 1), 0), ("Pinned", 1))
        self.assertEqual(unit.pins(), ((0, ("a", 0)), (1, ("a", 1)), (2, ("a", 2))))

    def test_counts_and_hold(self):
        unit = Unit(STEADY)
        for thing in odd_things() + [1000]:
            if thing != "nowhere":
                self.assertEqual(refusal(unit.set_count, thing, thing), ("NoBlock", thing))
            self.assertEqual(refusal(unit.set_count, "left", thing), ("BadProfile", "left"))
            self.assertEqual(refusal(unit.set_hold, thing), ("OutOfPlace",))
        self.assertEqual(refusal(unit.set_hold, 10), ("OutOfPlace",))
        for count in (0, 999):
            unit.set_count("left", count)
            self.assertEqual(unit.profile(), {**default_profile(STEADY), "left": count})
        for hold in (0, 9):
            unit.set_hold(hold)
            self.assertEqual(unit.hold(), hold)
        self.as_one_made_anew(unit)

    def test_nodes_deeds_and_ends_refused(self):
        unit = Unit(STEADY)
        for thing in odd_things():
            self.assertEqual(refusal(unit.put_node, thing, thing), ("NoNode", thing))
            self.assertEqual(refusal(unit.put_node, 5, thing), ("BadGraph", "nodes", 5))
            self.assertEqual(refusal(unit.add_node, thing), ("BadGraph", "nodes", 10))
            self.assertEqual(refusal(unit.add_deed, "left", thing), ("BadGraph", "blocks", 2))
            self.assertEqual(refusal(unit.set_end, "left", thing), ("BadGraph", "blocks", 2))
            if thing != "nowhere":
                for ask in (unit.add_deed, unit.drop_deed, unit.set_end):
                    self.assertEqual(refusal(ask, thing, thing), ("NoBlock", thing))
                self.assertEqual(refusal(unit.add_deed, thing, thing, thing), ("NoBlock", thing))
            if thing is not None:
                self.assertEqual(refusal(unit.add_deed, "left", ("out", 0), thing), ("OutOfPlace",))
            self.assertEqual(refusal(unit.drop_deed, "left", thing), ("OutOfPlace",))
        for at in (-1, 3, "0"):
            self.assertEqual(refusal(unit.add_deed, "left", None, at), ("OutOfPlace",))
        self.assertEqual(refusal(unit.drop_deed, "left", 2), ("OutOfPlace",))
        self.assertEqual(refusal(unit.drop_deed, "head", 0), ("OutOfPlace",))
        self.assertEqual(refusal(unit.set_end, "left", ("goto", "top")), ("BadGraph", "ends", 2))
        self.assertEqual(refusal(unit.set_end, "head", ("goto", "left")), ("BadGraph", "reached", 3))
        self.assertEqual(refusal(unit.set_end, "foot", ("goto", "done")), ("BadGraph", "nodes", 2))
        self.assertEqual(refusal(unit.put_node, 8, ("add", 5, 0)), ("BadGraph", "rings", 5))
        self.assertEqual(refusal(unit.put_node, 6, ("div", 1, 5)), ("Unsound", 6))
        self.assertEqual(refusal(unit.drop_deed, "done", 1), ("Unsound", 6))
        self.assertEqual(state(unit), (STEADY, default_profile(STEADY), (), 1))
        self.assertEqual(len(unit), 0)

    def test_log_of_all_that_is_refused(self):
        unit = Unit(STEADY)
        asks = (
            ("put_node", (99, None)), ("put_node", (0, None)), ("add_node", (None,)), ("add_deed", ("x", None)),
            ("add_deed", ("top", None)), ("add_deed", ("top", ("out", 0), 9)), ("drop_deed", ("top", 9)),
            ("set_end", ("top", None)), ("split_edge", ("top", "left", "x")), ("set_count", ("top", None)),
            ("set_hold", (None,)), ("pin", (0, None)), ("unpin", (0,)), ("many", (None,)), ("many", ((),)),
            ("many", ((("fold",), ("unpin", 0)),)), ("many", ((("merge",), ("fold",), ("tidy",), ("fold", 1)),)),
            ("many", ((("merge",), ["fold"]),)), ("many", ((("merge",),) * 21,)),
        )
        at = {15: 1, 16: 3}
        for number, (word, things) in enumerate(asks, 1):
            ahead = (state(unit), unit.log())
            self.assertIsNotNone(refusal(getattr(unit, word), *things))
            self.assertEqual(state(unit), ahead[0])
            self.assertEqual(unit.log(), ahead[1] + [("begun", number), ("refused", number, at.get(number - 1, 0))])
            self.assertIs(unit.busy(), False)
            self.assertEqual((len(unit), unit.deeds()), (0, []))
        unit.fold()
        self.assertEqual(unit.log()[-2:], [("begun", len(asks) + 1), ("done", len(asks) + 1)])

    def test_many(self):
        for thing in odd_things() + [[("fold",)], "fold", (("fold",), None), (("fold",), ["fold"]), ("fold",)]:
            unit = Unit(STEADY)
            self.assertEqual(refusal(unit.many, thing), ("OutOfPlace",))
            self.assertEqual(unit.log(), [("begun", 1), ("refused", 1, 0)])
        unit = Unit(STEADY)
        self.assertEqual(refusal(unit.many, (("set_hold", 3),) * 21), ("OutOfPlace",))
        unit.many((("set_hold", 3),) * 20)
        self.assertEqual(len(unit), 1)
        self.assertEqual(unit.deeds(), [("many", (("set_hold", 3),) * 20)])
        unit.undo()
        self.assertEqual(unit.hold(), 1)
        unit.redo()
        self.assertEqual(unit.hold(), 3)
        # What isn't a deed's name, or takes fewer or more: each at its turn, behind those ahead.
        good = ("set_hold", 4)
        for wrong in ((), ("many", ()), ("many", (good,)), ("undo",), ("redo",), ("graph",), ("fold", 1),
                      ("tidy", None),
                      ("merge", ()), ("set_hold",), ("set_hold", 1, 2), ("put_node", 0), ("put_node", 0, None, 0),
                      ("add_node",), ("add_deed", "top"), ("add_deed", "top", ("out", 0), 0, 0), ("drop_deed", "top"),
                      ("set_end", "top"), ("split_edge", "top", "head"), ("set_count", "top"), ("pin", 0), ("unpin",),
                      ("unpin", 0, 0), (None,), (0,), ("Fold",), ("",), (["fold"],), ("__init__",), ("copied",)):
            for at in (0, 1, 3):
                unit = Unit(STEADY)
                deeds = (good,) * at + (wrong,) + (("set_hold", 99),)
                self.assertEqual(refusal(unit.many, deeds), ("OutOfPlace",))
                self.assertEqual(unit.log(), [("begun", 1), ("refused", 1, at)])
                self.assertEqual((unit.hold(), len(unit)), (1, 0))
                # What is refused ahead of it is told.
                self.assertEqual(refusal(unit.many, (("put_node", 77, None), wrong)), ("NoNode", 77))
                self.assertEqual(unit.log()[-1], ("refused", 2, 0))

    def test_many_with_as_many_things_as_each_takes(self):
        for word, counts in TAKEN.items():
            for many in range(5):
                unit = Unit(STEADY)
                fault = refusal(unit.many, (("set_hold", 4), (word,) + (None,) * many))
                if many not in counts:
                    self.assertEqual(fault, ("OutOfPlace",))
                elif word not in ("merge", "fold", "tidy"):
                    # It is what it would be by itself.
                    self.assertEqual(fault, refusal(getattr(Unit(STEADY), word), *(None,) * many))
                    self.assertIsNotNone(fault)
                self.assertEqual(len(unit), int(fault is None))

    def test_many_deed_by_deed(self):
        # Each is done on what those ahead have made; a graph between that isn't sound is refused.
        unit = Unit()
        unit.many((("add_node", ("given", 0)), ("add_node", ("add", 1, 0)), ("set_end", "entry", ("return", 2)),
                   ("pin", 2, ("entry", 0)), ("add_deed", "entry", ("out", 2)), ("add_deed", "entry", ("out", 1), 0)))
        self.assertEqual(unit.run((4,)), ((4, 4), ("returned", 4)))
        self.assertEqual(unit.deeds()[0][1][4:], (
            ("add_deed", "entry", ("out", 2), 0), ("add_deed", "entry", ("out", 1), 0)))
        self.assertEqual(refusal(unit.many, (("put_node", 2, ("div", 0, 1)), ("put_node", 2, ("word", 1)))),
                         ("Unsound", 2))
        self.assertEqual(refusal(unit.many, (("unpin", 2), ("drop_deed", "entry", 1), ("unpin", 2))), ("Nothing",))
        self.assertEqual(unit.log()[-1], ("refused", 3, 2))
        self.assertEqual(len(unit.graph()[0][0][1]), 2)

    def test_taken_back_and_done_again(self):
        unit = Unit(STEADY)
        unit.set_hold(2)
        unit.set_hold(3)
        unit.set_hold(4)
        unit.undo()
        unit.undo()
        self.assertEqual((unit.hold(), len(unit)), (2, 1))
        unit.redo()
        self.assertEqual((unit.hold(), len(unit)), (3, 2))
        # A refused deed isn't done: what was taken back can be done again.
        self.assertIsNotNone(refusal(unit.set_hold, 99))
        unit.redo()
        self.assertEqual((unit.hold(), unit.deeds()), (4, [("set_hold", 2), ("set_hold", 3), ("set_hold", 4)]))
        unit.undo()
        unit.set_hold(7)
        self.assertEqual(refusal(unit.redo), ("Nothing",))
        unit.undo()
        unit.redo()
        self.assertEqual(unit.hold(), 7)
        self.assertEqual(unit.log(), [
            ("begun", 1), ("done", 1), ("begun", 2), ("done", 2), ("begun", 3), ("done", 3), ("begun", 4),
            ("refused", 4, 0), ("begun", 5), ("done", 5)])

    def test_two_units_by_turns(self):
        one, other = Unit(STEADY), Unit(STEADY)
        self.assertTrue(one == other)
        one.set_hold(5)
        self.assertFalse(one == other)
        self.assertTrue(one != other)
        other.set_hold(4)
        one.set_hold(4)
        self.assertTrue(one == other)
        self.assertEqual((len(one), len(other)), (2, 1))
        one.set_count("top", 3)
        self.assertFalse(one == other)
        one.undo()
        one.pin(8, ("top", 0))
        self.assertFalse(one == other)
        one.unpin(8)
        self.assertTrue(one == other)
        other.put_node(9, ("word", 3))
        self.assertFalse(one == other)
        for thing in odd_things() + [STEADY, str(one)]:
            self.assertIs(one == thing, False)
            self.assertIs(one != thing, True)

    def test_copied(self):
        unit = Unit(STEADY, pins=((8, ("top", 0)),), hold=3)
        unit.set_hold(2)
        unit.set_hold(5)
        unit.undo()
        refusal(unit.set_hold, 99)
        other = unit.copied()
        self.assertIsInstance(other, Unit)
        self.same(unit, other)
        self.assertEqual((other.deeds(), other.log(), len(other)), (unit.deeds(), unit.log(), 1))
        other.redo()
        self.assertEqual((other.hold(), unit.hold()), (5, 2))
        other.undo()
        other.undo()
        self.assertEqual((other.hold(), unit.hold(), len(unit)), (3, 2, 1))
        unit.merge()
        self.assertEqual(unit.log()[-2:], [("begun", 4), ("done", 4)])
        self.assertEqual(len(other.log()), 6)
        self.assertIsNone(refusal(other.redo))
        self.assertEqual(refusal(unit.redo), ("Nothing",))
        other.fold()
        self.assertEqual(other.log()[-2:], [("begun", 4), ("done", 4)])
        self.assertEqual(unit.deeds(), [("set_hold", 2), ("merge",)])

    def test_what_is_told_is_the_askers_own(self):
        profile = default_profile(STEADY)
        unit = Unit(STEADY, profile=profile, pins=((8, ("top", 0)),))
        profile["top"] = 77
        self.assertEqual(unit.profile(), default_profile(STEADY))
        unit.set_hold(2)
        for ask in (unit.profile, unit.deeds, unit.log):
            told = ask()
            kept = copy.deepcopy(told)
            told.clear()
            self.assertEqual(ask(), kept)
            told = ask()
            unit.set_hold(3)
            self.assertEqual(told, kept)
            unit.undo()
        for ask in (unit.graph, unit.pins, unit.ranges, unit.placement, unit.classes):
            self.assertIsInstance(ask(), tuple)

    def test_refused_as_the_cheapest_placement(self):
        profile = default_profile(STEADY)
        for thing in odd_things():
            if thing is not None:
                self.assertEqual(refusal(Unit, thing, profile=thing, pins=thing, hold=thing)[0], "BadGraph")
            self.assertEqual(refusal(Unit, LOOPED, profile=thing, pins=thing, hold=thing), ("Unsound", 6))
            if thing is not None:
                self.assertEqual(refusal(Unit, STEADY, profile=thing, hold=thing)[0], "BadProfile")
            self.assertEqual(refusal(Unit, STEADY, profile=profile, hold=thing), ("OutOfPlace",))
            self.assertEqual(refusal(Unit, STEADY, profile=thing, pins=thing, hold=thing),
                             refusal(cheapest, STEADY, profile=thing, pins=thing, hold=thing))
        self.assertEqual(refusal(Unit, STEADY, pins=((1, ("top", 0)),), profile=3), ("BadPlacement", 1))
        pins = ((5, ("head", 0)), (8, ("foot", 0)))
        self.assertEqual(refusal(Unit, STEADY, pins=pins, profile=3), ("Unsound", 5))
        self.assertEqual(refusal(Unit, STEADY, profile={**profile, "left": 1000}, hold=77), ("BadProfile", "left"))
        with self.assertRaises(TypeError):
            Unit(STEADY, profile)

    def test_run_refused(self):
        unit = Unit(STEADY)
        for thing in odd_things():
            self.assertEqual(refusal(unit.run, (3, thing), most=thing), ("BadGiven", 1))
            self.assertEqual(refusal(unit.run, (3,), most=thing), ("OutOfPlace",))
            if not isinstance(thing, tuple):
                self.assertEqual(refusal(unit.run, thing, most=thing), ("BadGiven", None))
        chance = random.Random(4)
        for _ in range(20):
            given = some_words(chance)
            self.assertEqual(unit.run(given), run(STEADY, given))
            self.assertEqual(unit.run(given=given, most=3), run(STEADY, given, most=3))


if __name__ == "__main__":
    unittest.main()
