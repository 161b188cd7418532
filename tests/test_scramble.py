"""Points 101 to 106, and what 7 to 9 say of scrambled texts and inserted markers."""

import copy
import itertools
import random

from markersplice.errors import (
    DuplicateName, InvalidList, InvalidMarker, InvalidNames, InvalidPiece, InvalidPosition, InvalidStrip, TooMany,
)
from markersplice.joining import join_all
from markersplice.operations import apply_op
from markersplice.scramble import contains, insert_flip, insert_loop, insert_swap, scramble
from markersplice.strips import Ring, Strip
from support import (
    SAMPLE_ROW, Case, any_values, complete_run, flipped_item, flipped_items, flipped_letters, looks_like_marker,
    looks_like_name, looks_like_names, looks_like_piece, mixed_strip_rows, name_list, names_in, no_name_lists,
    no_strips, sample_piece, sample_rows, sample_strip_rows,
)

P = ("p", True)
SEGMENTS, ORDER, FLIPS = ["ab", "c", "De"], [2, 0, 1], [True, False, False]
SPACERS, NAMES = ["", "x", "", "Y"], ["q", "p"]


def flat(items):
    """Items with each letter on its own."""
    return [part for item in items for part in (item if isinstance(item, str) else [item])]


def row_from(parts):
    """The row of letters and markers."""
    row = [""]
    for part in parts:
        if isinstance(part, str):
            row[-1] += part
        else:
            row.extend([part, ""])
    return row


def flat_flipped(parts):
    return [flipped_item(part) for part in reversed(parts)]


def plain_scramble(segments, order, flips, spacers, names):
    """The row of point 101, put together letter by letter."""
    parts = flat([spacers[0]])
    for at, number in enumerate(order):
        block = flat([segments[number]])
        if number > 0:
            block.insert(0, (names[number - 1], True))
        if number < len(segments) - 1:
            block.append((names[number], True))
        parts += (flat_flipped(block) if flips[number] else block) + flat([spacers[at + 1]])
    return row_from(parts)


def samples(seed, total=6):
    """Arguments of scramble with one to thirteen segments."""
    rng = random.Random(seed)
    for count in range(1, 14):
        for _ in range(total):
            segments = [sample_piece(rng, 4) for _ in range(count)]
            order = rng.sample(range(count), count)
            flips = [rng.random() < 0.5 for _ in range(count)]
            spacers = [sample_piece(rng, 2) for _ in range(count + 1)]
            yield rng, [segments, order, flips, spacers, rng.sample(name_list(16), count - 1)]


def occurs(piece, letters, closed):
    """Whether a piece is a section of letters as it is or flipped, also over the end if they are closed."""
    starts = range(max(1, len(letters)) if closed else len(letters) - len(piece) + 1)
    if len(piece) > len(letters):
        return False
    for start in starts:
        found = "".join(letters[(start + at) % len(letters)] for at in range(len(piece)))
        if found in (piece, flipped_letters(piece)):
            return True
    return False


def plain_contains(part, piece):
    """Whether a piece occurs in a strip or a ring, as point 103 words it."""
    closed = type(part) is Ring and len(part.row()) == 1
    return any(occurs(piece, letters, closed) for letters in part.row()[::2])


def all_positions(row):
    return [(number, offset) for number, piece in enumerate(row[::2]) for offset in range(len(piece) + 1)]


def cut_flat(row, positions):
    """The letters and markers of a row, cut at positions."""
    parts = flat(row)
    places = [number + offset + sum(map(len, row[::2][:number])) for number, offset in positions]
    return [parts[start:stop] for start, stop in zip([0, *places], [*places, len(parts)])]


class Scrambling(Case):
    """Points 101 and 102."""

    def test_the_example(self):
        self.assertEqual(str(scramble(["ab", "c"], [1, 0], [True, False], ["x", "", "y"], ["p"])), "x p+ c p- BAy")

    def test_any_segments(self):
        for _, args in samples(101, 12):
            expected = plain_scramble(*args)
            for given in (args, [tuple(value) for value in args]):
                strip = scramble(*given)
                self.assertIs(type(strip), Strip)
                self.assertEqual(strip.row(), expected)
            segments, order, flips, spacers, names = args
            strip = scramble(names=names, spacers=spacers, flips=flips, order=order, segments=segments)
            self.assertEqual(strip.row(), expected)
            self.assertEqual(sorted(strip.names()), sorted(names))

    def test_every_order_and_flip_of_three_segments(self):
        for order in itertools.permutations(range(3)):
            for flips in itertools.product((True, False), repeat=3):
                args = (SEGMENTS, order, flips, SPACERS, NAMES)
                self.assertEqual(scramble(*args).row(), plain_scramble(*args))

    def test_one_segment(self):
        self.assertEqual(scramble(["aB"], [0], [True], ["x", "Y"], []).row(), ["xbAY"])
        self.assertEqual(scramble([""], (0,), (False,), ("", ""), ()).row(), [""])

    def test_the_arguments_are_unchanged(self):
        for _, args in samples(102, 2):
            kept = copy.deepcopy(args)
            strip = scramble(*args)
            self.assertEqual(args, kept)
            for value in args:
                value.append("changed")
            self.assertEqual(strip.row(), plain_scramble(*kept))

    def test_wrong_segments(self):
        for value in any_values() + [[""] * 14, ("a",) * 14]:
            if type(value) not in (list, tuple) or not 1 <= len(value) <= 13:
                self.assert_raises(InvalidList, value, scramble, value, None, None, None, None)
                self.assert_raises(InvalidList, value, scramble, value, ORDER, FLIPS, SPACERS, NAMES)
            elif not all(looks_like_piece(item) for item in value):
                first = next(item for item in value if not looks_like_piece(item))
                self.assert_raises(InvalidPiece, first, scramble, value, None, None, None, None)
        for value in any_values():
            if not looks_like_piece(value):
                self.assert_raises(InvalidPiece, value, scramble, ["ab", value, "1"], ORDER, FLIPS, SPACERS, NAMES)

    def test_wrong_orders(self):
        wrong = [[0, 1], [0, 1, 2, 0], [0, 1, 1], [0, 1, 3], [-1, 0, 1], [0, True, 2], [False, 1, 2], ["0", 1, 2],
                 [[0], 1, 2], {0: 1, 1: 2, 2: 0}, "012", [1, 2, 3], [0, 1, None], (2, 2, 2)]
        for value in any_values() + wrong:
            self.assert_raises(InvalidList, value, scramble, SEGMENTS, value, None, None, None)
            self.assert_raises(InvalidList, value, scramble, SEGMENTS, value, FLIPS, SPACERS, NAMES)

    def test_wrong_flips(self):
        wrong = [[True, False], [True] * 4, [True, False, 0], [1, False, True], [True, None, True], {0: True}, "TFT",
                 [True, True, [True]]]
        for value in any_values() + wrong:
            self.assert_raises(InvalidList, value, scramble, SEGMENTS, ORDER, value, None, None)
            self.assert_raises(InvalidList, value, scramble, SEGMENTS, ORDER, value, SPACERS, NAMES)

    def test_wrong_spacers(self):
        for value in any_values() + [["", "a", ""], ["", "a", "", "", ""], {0: "a"}, "abcd"]:
            if type(value) not in (list, tuple) or len(value) != 4:
                self.assert_raises(InvalidList, value, scramble, SEGMENTS, ORDER, FLIPS, value, None)
                self.assert_raises(InvalidList, value, scramble, SEGMENTS, ORDER, FLIPS, value, NAMES)
        for value in any_values():
            if not looks_like_piece(value):
                for at in range(4):
                    spacers = ["", "a", "b", "c"][:at] + [value] + ["1"] * (3 - at)
                    self.assert_raises(InvalidPiece, value, scramble, SEGMENTS, ORDER, FLIPS, spacers, None)

    def test_wrong_names(self):
        for value in no_name_lists() + [["p"], [], ["p", "q", "r"], ("p",)]:
            self.assert_raises(InvalidNames, value, scramble, SEGMENTS, ORDER, FLIPS, SPACERS, value)
        for value in any_values():
            if not (looks_like_names(value) and len(value) == 0):
                self.assert_raises(InvalidNames, value, scramble, ["a"], [0], [False], ["", ""], value)

    def test_more_than_one_wrong(self):
        wrong = [["1"], [0, 0, 0], [0, 0, 0], ["", "1", "", ""], ["p", "p"]]
        right = [SEGMENTS, ORDER, FLIPS, SPACERS, NAMES]
        errors = [(InvalidPiece, "1"), (InvalidList, wrong[1]), (InvalidList, wrong[2]), (InvalidPiece, "1"),
                  (InvalidNames, wrong[4])]
        for chosen in itertools.product((False, True), repeat=5):
            args = [bad if choice else good for choice, bad, good in zip(chosen, wrong, right)]
            if any(chosen):
                error, kept = errors[chosen.index(True)]
                self.assert_raises(error, kept, scramble, *args)


class Containing(Case):
    """Point 103."""

    def test_the_example(self):
        self.assertEqual([contains(Ring(["abc"]), piece) for piece in ("ca", "BA", "abca")], [True, True, False])

    def test_every_short_piece(self):
        rng = random.Random(103)
        pieces = ["".join(letters) for total in range(5) for letters in itertools.product("abA", repeat=total)]
        parts = [Ring([piece]) for piece in pieces[::2]] + [Strip([piece]) for piece in pieces[1::3]]
        parts += [Strip(row) for row in mixed_strip_rows()[::3]]
        parts += [Ring(row[:-1]) for row in sample_rows()[::3] if len(row) > 1]
        for part in parts:
            for piece in rng.sample(pieces, 25) + ["", "a", "A", "ab", "BA"]:
                expected = plain_contains(part, piece)
                self.assertIs(contains(part, piece), expected, (part, piece))
                self.assertIs(contains(piece=piece, part=part), expected)

    def test_sections_of_what_is_there(self):
        rng = random.Random(104)
        for row in sample_strip_rows()[::3] + [["aBcD"], ["abcabd"], ["a"], ["aa"]]:
            for letters in row[::2]:
                start = rng.randrange(len(letters) + 1)
                section = letters[start:rng.randrange(start, len(letters) + 1)]
                for piece in (section, flipped_letters(section)):
                    self.assertIs(contains(Strip(row), piece), True)
            if len(row) == 1:
                letters = row[0]
                for start, total in itertools.product(range(len(letters)), range(len(letters) + 1)):
                    section = (letters + letters)[start:start + total]
                    for piece in (section, flipped_letters(section)):
                        self.assertIs(contains(Ring(row), piece), True)

    def test_as_long_as_the_ring_and_longer(self):
        for letters in ("a", "ab", "aa", "aB", "abab", "abc"):
            ring = Ring([letters])
            for times in range(4):
                self.assertIs(contains(ring, letters * times), times < 2)
            self.assertIs(contains(ring, letters[1:] + letters[:1]), True)
            self.assertIs(contains(ring, letters + letters[:1]), False)

    def test_a_ring_with_markers(self):
        ring = Ring(["abc", P])
        for piece, expected in (("abc", True), ("bc", True), ("CB", True), ("ca", False), ("", True), ("AC", False)):
            self.assertIs(contains(ring, piece), expected)
        self.assertIs(contains(Strip(["abc"]), "ca"), False)
        self.assertIs(contains(Strip(["ab", P, "c", P, ""]), "bc"), False)

    def test_the_empty_piece(self):
        for part in (Ring([""]), Ring(["", P]), Strip([""]), Strip(SAMPLE_ROW), Ring(["a"])):
            self.assertIs(contains(part, ""), True)
            self.assertIs(contains(part, "zzz"), False)

    def test_large_pieces(self):
        self.assertIs(contains(Ring(["ab" * 3000]), "ba" * 2999), True)
        self.assertIs(contains(Strip(["ab" * 3000]), "ab" * 3001), False)

    def test_the_order_of_the_errors(self):
        for value in any_values():
            if type(value) not in (Strip, Ring):
                self.assert_raises(InvalidStrip, value, contains, value, None)
                self.assert_raises(InvalidStrip, value, contains, piece="a", part=value)
            if not looks_like_piece(value):
                for part in (Strip(["a"]), Ring(["a"]), Ring(["a", P])):
                    self.assert_raises(InvalidPiece, value, contains, part, value)
                    self.assert_raises(InvalidPiece, value, contains, piece=value, part=part)


class Whole(Case):
    """Point 104."""

    def test_after_any_operations(self):
        for rng, args in samples(105):
            strip = scramble(*args)
            whole = "".join(args[0])
            for _ in range(3):
                _, last, rings = complete_run(rng, strip)[-1]
                self.assertTrue(any(contains(part, whole) for part in [last] + rings), (args, last, rings))
                self.assertTrue(any(plain_contains(part, whole) for part in [last] + rings))
            joined = join_all(strip)
            self.assertTrue(any(contains(part, whole) for part in [joined.remaining()] + joined.rings()))


class Inserting(Case):
    """Points 105 and 106."""

    def test_loops_at_every_position(self):
        for row in (["a"], [""], list(SAMPLE_ROW), ["abC", P, "", P, "d"]):
            for position in all_positions(row):
                for piece, upright in (("", True), ("xY", False), ("q", True)):
                    left, right = cut_flat(row, [position])
                    marker = ("new", upright)
                    expected = row_from(left + [marker] + flat([piece]) + [marker] + right)
                    for positions in ([position], (position,)):
                        strip = insert_loop(Strip(row), "new", positions, piece=piece, upright=upright)
                        self.assertIs(type(strip), Strip)
                        self.assertEqual(strip.row(), expected)
                        self.assertEqual(apply_op(strip, ("loop", "new")), (Strip(row), Ring([piece])))
                    strip = insert_loop(upright=upright, piece=piece, positions=[position], name="new",
                                        strip=Strip(row))
                    self.assertEqual(strip.row(), expected)
                default = insert_loop(Strip(row), "new", [position])
                self.assertEqual(default, insert_loop(Strip(row), "new", [position], piece="", upright=True))

    def test_flips_between_every_two_positions(self):
        for row in (["ab"], [""], list(SAMPLE_ROW), ["abC", P, "", P, "d"]):
            for positions in itertools.combinations_with_replacement(all_positions(row), 2):
                left, middle, right = cut_flat(row, positions)
                for upright in (True, False):
                    expected = left + [("new", upright)] + flat_flipped(middle) + [("new", not upright)] + right
                    strip = insert_flip(Strip(row), "new", list(positions), upright=upright)
                    self.assertIs(type(strip), Strip)
                    self.assertEqual(strip.row(), row_from(expected))
                    self.assertEqual(apply_op(strip, ("flip", "new")), (Strip(row), None))
                    other = insert_flip(upright=upright, positions=positions, name="new", strip=Strip(row))
                    self.assertEqual(other, strip)
                self.assertEqual(insert_flip(Strip(row), "new", positions),
                                 insert_flip(Strip(row), "new", positions, upright=True))

    def test_swaps_between_any_four_positions(self):
        rng = random.Random(105)
        for row in [["ab"], [""], list(SAMPLE_ROW), ["abC", P, "", P, "d"]] + sample_strip_rows()[3:60:9]:
            found = list(itertools.combinations_with_replacement(all_positions(row), 4))
            for positions in rng.sample(found, min(40, len(found))):
                before, first, middle, last, after = cut_flat(row, positions)
                for one, other in itertools.product((True, False), repeat=2):
                    m, n = ("new", one), ("nu", other)
                    expected = row_from(before + [m] + last + [n] + middle + [m] + first + [n] + after)
                    strip = insert_swap(Strip(row), "new", "nu", positions, orientations=[one, other])
                    self.assertIs(type(strip), Strip)
                    self.assertEqual(strip.row(), expected)
                    self.assertEqual(apply_op(strip, ("swap", "new", "nu")), (Strip(row), None))
                    again = insert_swap(orientations=(one, other), positions=list(positions), other="nu", one="new",
                                        strip=Strip(row))
                    self.assertEqual(again, strip)
                self.assertEqual(insert_swap(Strip(row), "new", "nu", positions),
                                 insert_swap(Strip(row), "new", "nu", positions, orientations=(True, True)))

    def test_inverse_operations_one_after_another(self):
        rng = random.Random(106)
        for row in sample_strip_rows()[3:40:3]:
            states = [Strip(row)]
            ops = []
            names = [name for name in name_list(16) + ["e", "f", "g", "h"] if name not in names_in(row)]
            while len(states[-1]) <= 10:
                now = states[-1]
                kind, one, other = rng.choice(["loop", "flip", "swap"]), names.pop(), names.pop()
                count = {"loop": 1, "flip": 2, "swap": 4}[kind]
                positions = sorted(rng.choices(all_positions(now.row()), k=count))
                if kind == "loop":
                    states.append(insert_loop(now, one, positions, piece="xy"))
                elif kind == "flip":
                    states.append(insert_flip(now, one, positions, upright=False))
                else:
                    states.append(insert_swap(now, one, other, positions, orientations=(False, True)))
                ops.append((kind, one) if kind != "swap" else (kind, one, other))
            for op in reversed(ops):
                left, _ = apply_op(states.pop(), op)
                self.assertEqual(left, states[-1])

    def test_the_arguments_are_unchanged(self):
        strip, positions, orientations = Strip(SAMPLE_ROW), [(0, 0), (0, 1), (1, 1), (2, 0)], [True, False]
        new = insert_swap(strip, "x", "y", positions, orientations=orientations)
        row = new.row()
        self.assertEqual((strip.row(), positions, orientations),
                         (list(SAMPLE_ROW), [(0, 0), (0, 1), (1, 1), (2, 0)], [True, False]))
        positions.clear()
        orientations.clear()
        self.assertEqual(new.row(), row)

    def test_large_values(self):
        row = ["ab" * 4000, P, "c" * 3000, P, ""]
        strip = insert_flip(Strip(row), "x", [(0, 7000), (1, 2500)])
        self.assertEqual(apply_op(strip, ("flip", "x"))[0], Strip(row))


class InsertionErrors(Case):
    """Point 106."""

    def calls(self):
        """Functions of a strip, a name, a value of upright, and positions, with the number of the positions."""
        return [
            (1, lambda strip, name, upright, positions: insert_loop(strip, name, positions, piece=0, upright=upright)),
            (2, lambda strip, name, upright, positions: insert_flip(strip, name, positions, upright=upright)),
            (4, lambda strip, name, upright, positions: insert_swap(strip, name, "zzz", positions,
                                                                    orientations=(upright, True))),
            (4, lambda strip, name, upright, positions: insert_swap(strip, "zzz", name, positions,
                                                                    orientations=[False, upright])),
        ]

    def assert_marker(self, marker, call, *args):
        with self.assertRaises(InvalidMarker) as caught:
            call(*args)
        self.assertIs(type(caught.exception), InvalidMarker)
        self.assertEqual(caught.exception.value, marker)
        self.assertEqual([type(caught.exception.value), *map(type, caught.exception.value)],
                         [tuple, *map(type, marker)])

    def test_no_strips(self):
        for value in no_strips():
            for total, call in self.calls():
                self.assert_raises(InvalidStrip, value, call, value, 0, 0, 0)
            self.assert_raises(InvalidStrip, value, insert_swap, value, 0, 0, 0, orientations=0)
            self.assert_raises(InvalidStrip, value, insert_loop, positions=0, name=0, strip=value)

    def test_no_orientations(self):
        for value in any_values() + [[True], [True, True, True], {True: 1, False: 2}, "ab", ()]:
            if type(value) not in (list, tuple) or len(value) != 2:
                self.assert_raises(InvalidMarker, value, insert_swap, Strip(["a"]), 0, 0, 0, orientations=value)

    def test_no_markers(self):
        for value in any_values() + ["P", "pqrst", ["p"], 0]:
            for _, call in self.calls():
                if not looks_like_name(value):
                    self.assert_marker((value, True), call, Strip(SAMPLE_ROW), value, True, None)
                if type(value) is not bool:
                    self.assert_marker(("a", value), call, Strip(SAMPLE_ROW), "a", value, None)
                    self.assert_marker(("x", value), call, Strip(["a"]), "x", value, None)
        # The first of two markers comes first, before any name is looked at.
        for orientations, marker in (((1, 0), ("x", 1)), ((True, 0), ("y", 0)), (["a", None], ("x", "a"))):
            with self.assertRaises(InvalidMarker) as caught:
                insert_swap(Strip(["a"]), "x", "y", None, orientations=orientations)
            self.assertEqual(repr(caught.exception.value), repr(marker))
        for one, other, marker in (("X", "Y", ("X", True)), ("x", "Y", ("Y", True)), ("a", "", ("", True))):
            self.assert_marker(marker, insert_swap, Strip(["", ("a", True), "", ("a", True), ""]), one, other, None)

    def test_names_that_are_in_use(self):
        strip = Strip(SAMPLE_ROW)
        for name in "abcd":
            for _, call in self.calls():
                self.assert_raises(DuplicateName, name, call, strip, name, True, None)
        self.assert_raises(DuplicateName, "x", insert_swap, strip, "x", "x", None)
        self.assert_raises(DuplicateName, "a", insert_swap, strip, "a", "a", None)
        self.assert_raises(DuplicateName, "b", insert_swap, strip, "b", "a", None)
        self.assert_raises(DuplicateName, "c", insert_swap, strip, "x", "c", None)

    def test_too_many_names(self):
        for total in (10, 11, 12):
            row = [""] + [item for name in name_list(total) for item in ((name, True), "", (name, True), "")]
            strip = Strip(row)
            for new, call in zip((1, 1, 2, 2), [call for _, call in self.calls()]):
                if total + new > 12:
                    self.assert_total(TooMany, total + new, call, strip, "x", True, None)
                else:
                    self.assert_raises(InvalidPosition, None, call, strip, "x", True, None)
        full = Strip([""] + [item for name in name_list(12) for item in ((name, True), "", (name, True), "")])
        self.assert_raises(DuplicateName, "q", insert_loop, full, "q", None)

    def test_no_positions(self):
        strip = Strip(SAMPLE_ROW)
        for total, call in self.calls():
            for value in any_values() + [[(0, 0)] * count for count in range(7)] + [((0, 0),) * 3, {(0, 0): 1}]:
                if type(value) not in (list, tuple) or len(value) != total:
                    self.assert_raises(InvalidPosition, value, call, strip, "x", True, value)

    def test_wrong_positions(self):
        row = ["abc", P, "", P, "d"]
        wrong = [(3, 0), (-1, 0), (0, 4), (0, -1), (1, -1), (2, -1), (1, 1), (2, 2), (True, 0), (0, True),
                 (False, False), [0, 0], (0,), (0, 0, 0), ("0", 0), (0, "0"), (None, 0), ((0,), 0), 0, "00", {0: 0},
                 (10 ** 29, 0), (0, 10 ** 29)]
        right = all_positions(row)
        for total, call in self.calls():
            for value in any_values() + wrong:
                if value not in right or type(value[0]) is not int or type(value[1]) is not int:
                    for at in range(total):
                        positions = [(0, 0)] * at + [value] + [None] * (total - at - 1)
                        self.assert_raises(InvalidPosition, value, call, Strip(row), "x", True, positions)
                        self.assert_raises(InvalidPosition, value, call, Strip(row), "x", True, tuple(positions))

    def test_positions_out_of_order(self):
        row = ["abc", P, "", P, "d"]
        for one, other in itertools.product(all_positions(row), repeat=2):
            if one > other:
                self.assert_raises(InvalidPosition, other, insert_flip, Strip(row), "x", [one, other])
                for at in range(3):
                    positions = [(0, 0)] * at + [one, other] + [None] * (2 - at)
                    self.assert_raises(InvalidPosition, other, insert_swap, Strip(row), "x", "y", positions)
            else:
                insert_flip(Strip(row), "x", [one, other])

    def test_no_pieces(self):
        for value in any_values():
            if not looks_like_piece(value):
                self.assert_raises(InvalidPiece, value, insert_loop, Strip(["a"]), "x", [(0, 1)], piece=value)
                self.assert_raises(InvalidPosition, None, insert_loop, Strip(["a"]), "x", None, piece=value)
                self.assert_raises(InvalidPosition, (0, 2), insert_loop, Strip(["a"]), "x", [(0, 2)], piece=value)


class Guarantees(Case):
    """What point 9 says of scrambled texts."""

    def test_the_flipped_strip_is_as_whole(self):
        for rng, args in samples(107, 3):
            strip = Strip(flipped_items(scramble(*args).row()))
            _, last, rings = complete_run(rng, strip)[-1]
            self.assertTrue(any(contains(part, "".join(args[0])) for part in [last] + rings))

    def test_equal_strips_give_equal_results(self):
        for row in sample_strip_rows()[3:50:7]:
            one, other = Strip(row), Strip(tuple(row)).flipped().flipped()
            self.assertEqual(insert_flip(one, "x", [(0, 0), (0, 0)]), insert_flip(other, "x", [(0, 0), (0, 0)]))
            self.assertTrue(looks_like_marker(insert_loop(one, "x", [(0, 0)]).row()[1]))
