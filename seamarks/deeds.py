"""The deeds: what each of them refuses, and what stands behind it.

What stands is a dict: marks and banks by name, runs and notes by number, and the coming note's number. None is ever
changed once it is made, so that undoing, doing again and twins can take it up as it is.
"""

from seamarks.banks import is_bank
from seamarks.errors import BadBank, BadName, BadPlace, BadRun, BadTurn, BadWay, Full, Needed
from seamarks.errors import NoBank, NoMark, NoMoment, NoNote, NoRun, Same, Taken
from seamarks.sides import turn

MOST = {"marks": 20, "banks": 8, "runs": 12, "notes": 24}
LONGEST_NAME = 8
FARTHEST = 1000
LONGEST_WAY = 100


def nothing_yet():
    return {"marks": {}, "banks": {}, "runs": {}, "notes": {}, "coming": 1}


def changed(state, kind, key, value):
    fresh = dict(state)
    fresh[kind] = dict(state[kind])
    fresh[kind][key] = value
    return fresh


def without(state, kind, key):
    fresh = dict(state)
    fresh[kind] = dict(state[kind])
    fresh[kind].pop(key)
    return fresh


def within(numbers, most):
    return all([-most <= number <= most for number in numbers])


def check_name(name):
    if len(name) < 1 or len(name) > LONGEST_NAME or not all(["a" <= letter <= "z" for letter in name]):
        raise BadName(f"{name!r} is not one to eight letters from a to z")


def check_free(state, kind, name):
    if name in state[kind]:
        raise Taken(f"there is one of the {kind} called {name} already")


def check_place(place):
    if not within(place, FARTHEST):
        raise BadPlace(f"{place} is beyond the bounds")


def check_run(run):
    if not within(run, FARTHEST):
        raise BadRun(f"{run} is beyond the bounds")


def check_room(state, kind):
    if len(state[kind]) >= MOST[kind]:
        raise Full(f"there are as many {kind} as can be")


def check_mark(state, name):
    if name not in state["marks"]:
        raise NoMark(f"no mark is called {name!r}")


def check_moment(moment, runs):
    if moment < 0 or moment > len(runs):
        raise NoMoment(f"there is no moment {moment}")


def check_way(direction):
    if direction == (0, 0) or not within(direction, LONGEST_WAY):
        raise BadWay(f"{direction} is no direction within the bounds")


def check_apart(state, left, right):
    if state["marks"][left] == state["marks"][right]:
        raise Same(f"{left} and {right} are at one place")


def after_mark(state, row):
    name = row[1]
    place = (row[2], row[3])
    check_name(name)
    check_free(state, "marks", name)
    check_place(place)
    check_room(state, "marks")
    return changed(state, "marks", name, place)


def after_move(state, row):
    place = (row[2], row[3])
    check_mark(state, row[1])
    check_place(place)
    fresh = changed(state, "marks", row[1], place)
    for note in fresh["notes"].values():
        if note[0] == "range":
            check_apart(fresh, note[2], note[3])
    return fresh


def after_unmark(state, row):
    name = row[1]
    check_mark(state, name)
    for note in state["notes"].values():
        # Behind the moment stand a range's two marks, or a bearing's one and its directions, which are no texts.
        if name in note[2:]:
            raise Needed(f"a note tells of {name}")
    return without(state, "marks", name)


def after_bank(state, row):
    name = row[1]
    corners = row[2]
    check_name(name)
    check_free(state, "banks", name)
    for corner in corners:
        check_place(corner)
    if not is_bank(corners):
        raise BadBank(f"{corners} are not a bank's corners, round to the left")
    check_room(state, "banks")
    return changed(state, "banks", name, corners)


def after_level(state, row):
    name = row[1]
    if name not in state["banks"]:
        raise NoBank(f"no bank is called {name!r}")
    return without(state, "banks", name)


def after_sail(state, row):
    run = (row[1], row[2])
    check_run(run)
    check_room(state, "runs")
    return changed(state, "runs", len(state["runs"]), run)


def after_right(state, row):
    number = row[1]
    run = (row[2], row[3])
    if number not in state["runs"]:
        raise NoRun(f"there is no run {number}")
    check_run(run)
    return changed(state, "runs", number, run)


def after_note(state, row):
    check_room(state, "notes")
    fresh = changed(state, "notes", state["coming"], row)
    fresh["coming"] = state["coming"] + 1
    return fresh


def after_bearing(state, row):
    check_moment(row[1], state["runs"])
    check_mark(state, row[2])
    check_way(row[3])
    check_way(row[4])
    if turn(row[3], row[4]) <= 0:
        raise BadTurn(f"the second is not to the left of the first: {row}")
    return after_note(state, row)


def after_range(state, row):
    check_moment(row[1], state["runs"])
    check_mark(state, row[2])
    check_mark(state, row[3])
    check_apart(state, row[2], row[3])
    return after_note(state, row)


def after_strike(state, row):
    number = row[1]
    if number not in state["notes"]:
        raise NoNote(f"no note {number} stands")
    return without(state, "notes", number)


AFTER = {
    "mark": after_mark,
    "move": after_move,
    "unmark": after_unmark,
    "bank": after_bank,
    "level": after_level,
    "sail": after_sail,
    "right": after_right,
    "bearing": after_bearing,
    "range": after_range,
    "strike": after_strike,
}


def after(state, row):
    return AFTER[row[0]](state, row)
