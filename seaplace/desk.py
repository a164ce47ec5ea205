"""A desk: units under names, and what is answered to lines that are said to it."""

from seaplace.desklines import told_ask, told_deeds
from seaplace.errors import (
    BadGiven, BadGraph, BadPlacement, BadProfile, BadRow, NoBlock, NoNode, Nothing, OutOfPlace, Pinned, TooGreat,
    Twice, Unsound,
)
from seaplace.unit import Unit, do_deed
from seaplace.unitread import read_unit
from seaplace.words import words_of

FIRST = "first"
MOST_UNITS = 6
DONE = "done"
NO_LINE = "no line"
NO_UNIT = "refused none"


def rows_told(rows):
    """Rows of things with blanks between, and all in one line; none of none."""
    if not rows:
        return "none"
    return ", ".join([" ".join(map(str, row)) for row in rows])


def do_deeds(unit, deeds):
    """Does one deed, or several as one."""
    if len(deeds) == 1:
        do_deed(unit, deeds[0][0], deeds[0][1:])
    else:
        unit.many(deeds)
    return DONE


# Each of these answers one kind of line, by the desk and the unit that it is at, also where it needs but one of them.


def undo(desk, unit):
    unit.undo()
    return DONE


def redo(desk, unit):
    unit.redo()
    return DONE


def copy_to(desk, unit, name):
    if name not in desk.kept and len(desk.kept) == MOST_UNITS:
        raise TooGreat("there may be no more units")
    kept = desk.kept
    kept[name] = unit.copied()
    return DONE


def use(desk, unit, name):
    if name not in desk.kept:
        return NO_UNIT
    desk.name = name
    return DONE


def text(desk, unit):
    told = str(unit)
    return told.replace("\n", " ; ")


def cost(desk, unit):
    return str(unit.cost())


def registers(desk, unit):
    return str(unit.registers())


def many(desk, unit):
    return str(len(unit))


def ranges(desk, unit):
    return rows_told([(node, *high, *low) for node, high, low in unit.ranges()])


def placement(desk, unit):
    return rows_told([(node, *slot) for node, slot in unit.placement()])


def early(desk, unit):
    return rows_told([(node, *slot) for node, slot in unit.placement(early=True)])


def run(desk, unit, given):
    outs, way = unit.run(given)
    return rows_told([(*outs, *way)])


def same(desk, unit, name):
    if name not in desk.kept:
        return NO_UNIT
    if unit == desk.kept[name]:
        return "yes"
    return "no"


def units(desk, unit):
    return ", ".join(sorted(desk.kept))


ANSWERS = {
    "undo": undo, "redo": redo, "copy": copy_to, "use": use, "text": text, "cost": cost, "registers": registers,
    "many": many, "ranges": ranges, "placement": placement, "early": early, "run": run, "same": same, "units": units,
}


def put_unit(desk, told):
    """Puts the unit of a text, told in one line, in the place of the one that the desk is at."""
    kept = desk.kept
    kept[desk.name] = read_unit(told.replace(" ; ", "\n"))
    return DONE


def answered(desk, line):
    """The answer to a line of words with one blank between; what is refused isn't answered."""
    words = words_of(line)
    unit = desk.kept[desk.name]
    if words[0] == "unit" and len(words) > 1:
        return put_unit(desk, line[len("unit "):])
    deeds = told_deeds(line)
    if deeds is not None:
        return do_deeds(unit, deeds)
    asked = told_ask(words)
    if asked is None:
        return NO_LINE
    answer = ANSWERS[asked[0]]
    things = asked[1:]
    return answer(desk, unit, *things)


def refused(word, *fields):
    """The answer to what is refused, by a word for the class and what its fields hold."""
    told = ["refused", word]
    for field in fields:
        if field is None:
            told.append("-")
        else:
            told.append(str(field))
    return " ".join(told)


def answered_or_refused(desk, line):
    """The answer to a line of words, also where what it asks for is refused."""
    try:
        return answered(desk, line)
    except BadGraph as no_graph:
        return refused("graph", no_graph.part, no_graph.number)
    except BadGiven as no_given:
        return refused("given", no_given.number)
    except BadProfile as no_profile:
        return refused("profile", no_profile.block)
    except BadPlacement as no_placement:
        return refused("placement", no_placement.node)
    except BadRow as no_row:
        return refused("row", no_row.row, no_row.word)
    except Twice:
        return refused("twice")
    except OutOfPlace:
        return refused("place")
    except TooGreat:
        return refused("great")
    except NoBlock as no_block:
        return refused("block", no_block.name)
    except NoNode as no_node:
        return refused("node", no_node.node)
    except Nothing:
        return refused("nothing")
    except Unsound as no_slot:
        return refused("unsound", no_slot.node)
    except Pinned as no_pin:
        return refused("pinned", no_pin.node)


class Desk:
    """Units under names, at one of which the desk is."""

    def __init__(self):
        self.kept = {FIRST: Unit()}
        self.name = FIRST

    def say(self, line):
        """The answer to a line."""
        if not isinstance(line, str) or "\n" in line or words_of(line) is None:
            return NO_LINE
        return answered_or_refused(self, line)

    def unit(self, name=FIRST):
        """A copy of the unit under a name."""
        if not isinstance(name, str) or name not in self.kept:
            raise Nothing("no unit stands under this name")
        return self.kept[name].copied()

    def at(self):
        """The name at which the desk is."""
        return self.name
