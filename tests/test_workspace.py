"""Points 111 to 119, and what 7 to 9 say of workspaces."""

import copy
import itertools
import random

from markersplice.errors import (
    DuplicateName, InvalidName, InvalidNames, InvalidNumber, InvalidOperation, InvalidUser, Locked, NothingToUndo,
    TooMany, UnknownName, UnknownStrip, Unmatched, Unpaired,
)
from markersplice.joining import JoinedStrip
from markersplice.strips import Ring, Strip
from markersplice.workspace import MAX_NAMES, MAX_STRIPS, Workspace
from support import (
    Case, PlainSpace, any_values, flipped_items, looks_like_name, looks_like_names, mixed_strip_rows, name_list,
    names_in, no_name_lists, other_names, renamed_row, row_fault, sample_actions, sample_strip_rows, space_told,
    subsets,
)

P = ("p", True)
Q = ("q", True)
USERS = ["ann", "bob", "c"]
METHODS = {"add": "add_strip", "lock": "lock", "unlock": "unlock", "join": "join", "unjoin": "unjoin"}
PARAMETERS = {"add": ("strip", "row"), "lock": ("user", "strip", "number"), "unlock": ("user", "strip", "number"),
              "unjoin": ("user", "name")}


def space_of(users, actions):
    """A workspace in which these actions were done."""
    space = Workspace(users)
    for action in actions:
        space.perform(action)
    return space


def two_strips():
    """A workspace with two strips that share p, and in which q has one marker."""
    return space_of(USERS, [("add", "s", ["a", P, "b"]), ("add", "t", ["c", P, "d", Q, "e"])])


def by_method(space, action):
    return getattr(space, METHODS[action[0]])(*action[1:])


def by_keywords(space, action):
    if action[0] == "join":
        return space.join(*action[1:])
    return getattr(space, METHODS[action[0]])(**dict(reversed(list(zip(PARAMETERS[action[0]], action[1:])))))


def runs(seed, total=8):
    """Random numbers, users and actions, some of which are rejected."""
    for number in range(total):
        rng = random.Random(1000 * seed + number)
        users = USERS[:1 + number % 3]
        yield rng, users, list(sample_actions(rng, users, 10 + 5 * number))


class SpaceCase(Case):
    def assert_fault(self, fault, call, *args):
        """Ask for an error, given as a tuple of its class and of what it keeps."""
        error, kept = fault
        with self.assertRaises(error) as caught:
            call(*args)
        self.assertIs(type(caught.exception), error)
        found = caught.exception.total if error is TooMany else caught.exception.value
        self.assertEqual((found, type(found)), (kept, type(kept)))

    def check_action(self, space, plain, action, call):
        """Do an action in both workspaces and ask for the same result or for the right error."""
        fault = plain.fault(action)
        if fault is None:
            found = call(space, action)
            expected = plain.perform(action)
            self.assertEqual((found, type(found)), (expected, type(expected)))
        else:
            before = space_told(space)
            self.assert_fault(fault, call, space, action)
            self.assertEqual(space_told(space), before)


class Creating(SpaceCase):
    """Point 111."""

    def test_a_new_workspace(self):
        for users in (["a"], ("b", "a"), ["ann", "bob", "join"]):
            for space in (Workspace(users), Workspace(users=users)):
                self.assertEqual(space_told(space), PlainSpace(users).told())
                self.assertEqual((len(space), space.users(), space.layout()), (0, list(users), ([], [])))
                self.assertTrue(all(type(text) is str for text in (str(space), repr(space))))

    def test_no_users(self):
        for value in no_name_lists() + [[], (), ["a", "b", "c", "d"], ["ann", "ann"], ("a", "b", "c", "dd")]:
            self.assert_raises(InvalidNames, value, Workspace, value)
            self.assert_raises(InvalidNames, value, Workspace, users=value)
        for value in any_values():
            if looks_like_names(value) and 1 <= len(value) <= 3:
                self.assertEqual(Workspace(value).users(), list(value))

    def test_the_limits(self):
        self.assertEqual((MAX_STRIPS, MAX_NAMES, type(MAX_STRIPS), type(MAX_NAMES)), (4, 20, int, int))


class Adding(SpaceCase):
    """Points 112 and 118."""

    def test_the_examples(self):
        space = Workspace(["ann"])
        self.assertIsNone(space.add_strip("s", ["a", P, "b"]))
        self.assertEqual([space.strips(), space.names(), space.unmatched()], [["s"], ["p"], ["p"]])
        self.assert_raises(DuplicateName, "s", space.add_strip, "s", ["a"])

    def test_no_names(self):
        space = two_strips()
        for value in any_values():
            if not looks_like_name(value):
                self.assert_raises(InvalidName, value, space.add_strip, value, None)
                self.assert_raises(InvalidName, value, space.add_strip, row=["a"], strip=value)

    def test_no_rows(self):
        space = two_strips()
        wrong = [["a", "p", "b"], ["a", P], [], ("a", P, None), ["a", P, "b", ("q", 1), "1"], [P], ["a b"]]
        for value in any_values() + wrong:
            fault = row_fault(value)
            if fault is not None:
                caught = self.assert_raises(*fault, space.add_strip, "s", value)
                self.assertIs(caught.value, fault[1])
                self.assert_raises(*fault, space.add_strip, row=value, strip="new")

    def test_names_that_occur_too_often(self):
        space = two_strips()
        space.join("ann", "p")
        for row, first in ((["", P, ""], "p"), (["", Q, "", Q, ""], "q"),
                           (["", ("r", True), "", Q, "", P, "", Q, ""], "q"),
                           (["", ("r", True), "", ("r", True), "", ("r", False), ""], "r"),
                           (["", Q, "", ("r", True), "", P, "", ("r", True), "", ("r", True), ""], "r")):
            self.assert_raises(Unpaired, first, space.add_strip, "u", row)
        self.assertEqual(space.strips(), ["s", "t"])
        space.add_strip("u", ["", ("q", False), "", ("r", True), "", ("r", True), ""])
        self.assertEqual((space.names(), space.unmatched()), (["p", "q", "r"], []))

    def test_the_limit_of_strips(self):
        space = Workspace(["a"])
        for label in ("s", "t", "u", "v"):
            space.add_strip(label, ["", P, ""] if label in "st" else [""])
        self.assert_total(TooMany, 5, space.add_strip, "w", ["", P, ""])
        self.assert_raises(DuplicateName, "v", space.add_strip, "v", ["", P, ""])
        self.assertEqual(space.strips(), ["s", "t", "u", "v"])

    def test_the_limit_of_names(self):
        names = [one + other for one in "abcde" for other in "abcde"]
        for first in (0, 1, 19, 20, 21, 25):
            for joined in (False, True):
                space = Workspace(["a"])
                row = [""]
                for name in names[:20]:
                    row.extend([(name, True), ""])
                space.add_strip("s", row)
                self.assertEqual(space.names(), names[:20])
                space.add_strip("t", ["", (names[0], True), ""])
                if joined:
                    space.join("a", names[0])
                row = [""] + [item for name in names[max(1, first):] for item in ((name, True), "")]
                new = len([name for name in names[max(1, first):] if name not in names[:20]])
                if new:
                    self.assert_total(TooMany, 20 + new, space.add_strip, "u", row)
                else:
                    space.add_strip("u", row)
                # A name that is too often comes first.
                row = ["", ("zz", True), "", (names[0], True), ""]
                self.assert_raises(Unpaired, names[0], space.add_strip, "v", row)
        space = Workspace(["a"])
        row = [""] + [item for name in names for item in ((name, True), "")]
        self.assert_total(TooMany, 25, space.add_strip, "s", row)

    def test_the_order_of_the_errors(self):
        space = two_strips()
        self.assert_raises(InvalidName, "S", space.add_strip, "S", 0)
        self.assert_raises(DuplicateName, "s", space.add_strip, "s", ["", P, "", P, "", P, ""])
        space.add_strip("u", [""])
        space.add_strip("v", [""])
        self.assert_total(TooMany, 5, space.add_strip, "w", ["", P, "", P, "", P, ""])

    def test_arguments_and_results_that_are_changed(self):
        row = ["a", P, "b"]
        users = ["ann", "bob"]
        space = Workspace(users)
        users.append("c")
        space.add_strip("s", row)
        space.add_strip("t", ("c", P, "d"))
        kept = copy.deepcopy(space_told(space))
        row[0] = "changed"
        row.append("changed")
        for value in (space.users(), space.strips(), space.names(), space.unmatched(), space.joined(), space.actions(),
                      space.row_of("s"), space.actions()[0][2], space.layout()[0], space.layout()[1],
                      space.layout()[0][0][2], space.locks()["ann"]):
            value.append("changed")
            value[0] = "changed"
        space.locks().clear()
        self.assertEqual(space_told(space), kept)
        self.assertIs(type(space.row_of("t")), list)
        action = ("add", "u", ["x"])
        space.perform(action)
        action[2][0] = "changed"
        self.assertEqual((space.row_of("u"), space.actions()[-1]), (["x"], ("add", "u", ["x"])))
        space.undo()
        self.assertEqual(space_told(space), kept)

    def test_unknown_strips_and_numbers(self):
        space = two_strips()
        for value in any_values() + ["u", ["s"], ("s",), {"s": 1}, "S"]:
            self.assert_raises(UnknownStrip, value, space.row_of, value)
            self.assert_raises(UnknownStrip, value, space.row_of, strip=value)
            self.assert_raises(UnknownStrip, value, space.part_of, value, None)
            self.assert_raises(UnknownStrip, value, space.part_of, number=0, strip=value)
        for value in any_values() + [3, -1, [0], (0,), "0"]:
            if type(value) is not int or not 0 <= value <= 2:
                self.assert_raises(InvalidNumber, value, space.part_of, "t", value)
                self.assert_raises(InvalidNumber, value, space.part_of, number=value, strip="t")
        self.assert_raises(InvalidNumber, 2, space.part_of, "s", 2)
        self.assertEqual(space.part_of(number=2, strip="t"), 1)
        self.assertEqual(space.row_of(strip="s"), ["a", P, "b"])


class Layouts(SpaceCase):
    """Points 113 and 119."""

    def test_two_strips(self):
        space = two_strips()
        self.assertEqual(space.layout(), ([(("s", 0), ("s", 1), ["a", P, "b"]),
                                           (("t", 0), ("t", 1), ["c", P, "d", Q, "e"])], []))
        self.assertEqual(space.join("bob", "p"), 0)
        self.assertEqual(space.layout(), ([(("s", 0), ("t", 1), ["ad", Q, "e"]), (("s", 1), ("t", 0), ["BC"])], []))
        self.assertEqual([space.part_of("s", 1), space.part_of("t", 0), space.part_of("t", 2)], [1, 1, 0])
        self.assertEqual((space.unjoin("c", "p"), len(space)), (0, 2))

    def test_rings_over_two_strips(self):
        space = space_of(["a"], [("add", "s", ["a", P, "b", Q, "c"]), ("add", "t", ["d", Q, "e", P, "f"])])
        self.assertEqual([space.join("a", "p"), space.join("a", "q"), len(space)], [0, 1, 3])
        self.assertEqual(space.layout(), ([(("s", 0), ("t", 1), ["af"]), (("s", 1), ("t", 0), ["CD"])], [Ring(["be"])]))
        self.assertEqual([space.part_of("t", number) for number in range(3)], [1, 2, 0])
        self.assertEqual([space.unjoin("a", "p"), len(space)], [-1, 2])

    def test_rings_in_the_order_of_their_first_pieces(self):
        space = space_of(["a"], [("add", "t", ["", P, "x", P, "", Q, "b", Q, ""]),
                                 ("add", "s", ["", ("r", True), "a", ("r", True), ""])])
        for name in "rqp":
            space.join("a", name)
        self.assertEqual(space.layout()[1], [Ring(["x"]), Ring(["b"]), Ring(["a"])])

    def test_against_the_walk(self):
        for rng, users, actions in runs(113, 24):
            space, plain = Workspace(users), PlainSpace(users)
            for action in actions:
                self.check_action(space, plain, action, by_method)
                self.assertEqual(space_told(space), plain.told())
            for part in (*space.layout()[0], *space.layout()[1]):
                self.assertIn(type(part), (tuple, Ring))

    def test_the_kinds_of_values(self):
        for _, users, actions in runs(114, 6):
            space = Workspace(users)
            for action in actions:
                if PlainSpace(users, space.actions()).fault(action) is None:
                    space.perform(action)
            layout = space.layout()
            self.assertEqual([type(layout), *map(type, layout)], [tuple, list, list])
            for strand in layout[0]:
                self.assertEqual([type(strand), *map(type, strand)], [tuple, tuple, tuple, list])
                for end in strand[:2]:
                    self.assertEqual([*map(type, end)], [str, int])
                self.assertLess(*[(space.strips().index(label), number) for label, number in strand[:2]])
            self.assertTrue(all(type(ring) is Ring for ring in layout[1]))
            self.assertEqual((len(space), type(len(space))), (len(layout[0]) + len(layout[1]), int))

    def test_names_joined_in_any_order_and_by_any_user(self):
        for rng, users, actions in runs(115, 12):
            adds = [action for action in actions if action[0] == "add"]
            plain = PlainSpace(users)
            for action in adds:
                if plain.fault(action) is None:
                    plain.perform(action)
            adds = list(plain.actions)
            names = [name for name in plain.names() if name not in plain.unmatched()]
            chosen = rng.sample(names, rng.randrange(len(names) + 1))
            expected = space_of(users, adds + [("join", users[0], name) for name in chosen])
            space = space_of(users, adds)
            for name in rng.sample(names, len(names)):
                space.join(rng.choice(users), name)
            for name in rng.sample(names, len(names)):
                if name not in chosen:
                    space.unjoin(rng.choice(users), name)
            self.assertEqual(space.layout(), expected.layout())
            self.assert_equality(space, expected, True)
            for name in rng.sample(chosen, len(chosen)):
                space.unjoin(rng.choice(users), name)
                space.join(rng.choice(users), name)
            self.assertEqual(space.layout(), expected.layout())

    def test_a_single_strip_against_the_joined_strip(self):
        rng = random.Random(119)
        for row in mixed_strip_rows() + sample_strip_rows()[::4]:
            for names in subsets(rng, names_in(row), 3):
                space = Workspace(["ann", "bob"])
                space.add_strip("s", row)
                for name in names:
                    space.join(rng.choice(["ann", "bob"]), name)
                joined = JoinedStrip(Strip(row), names)
                self.assertEqual(space.layout(), ([(("s", 0), ("s", 1), joined.row())], joined.rings()))
                self.assertEqual(len(space), len(joined) + 1)
                self.assertEqual([space.part_of("s", piece) for piece in range(len(row[::2]))],
                                 [joined.part_of(piece) for piece in range(len(row[::2]))])
                self.assertEqual(space.joined(), joined.names())

    def test_all_names_joined(self):
        for rng, users, actions in runs(116, 12):
            plain = PlainSpace(users)
            for action in actions:
                if action[0] == "add" and plain.fault(action) is None:
                    plain.perform(action)
            space = space_of(users, plain.actions)
            for name in space.names():
                if name not in space.unmatched():
                    space.join(users[-1], name)
            strands, rings = space.layout()
            left = [name for _, _, row in strands for name, _ in row[1::2]] + [name for ring in rings
                                                                              for name in ring.names()]
            self.assertEqual(sorted(left), sorted(space.unmatched()))

    def test_with_other_names_and_flipped_strips(self):
        for rng, users, actions in runs(117, 8):
            plain = PlainSpace(users)
            for action in actions:
                if action[0] in ("add", "join", "unjoin") and plain.fault(action) is None:
                    plain.perform(action)
            new = other_names(rng, plain.names())
            other = Workspace(users)
            turned = Workspace(users)
            for action in plain.actions:
                if action[0] == "add":
                    other.add_strip(action[1], renamed_row(action[2], new))
                    turned.add_strip(action[1], flipped_items(action[2]))
                else:
                    other.perform((*action[:2], new[action[2]]))
                    turned.perform(action)
            strands, rings = plain.layout()
            self.assertEqual(other.layout()[0], [(*strand[:2], renamed_row(strand[2], new)) for strand in strands])
            self.assert_same_rings(other.layout()[1], [Ring(renamed_row(ring.row(), new)) for ring in rings])
            self.assert_same_rings(turned.layout()[1], rings)
            ends = {frozenset((label, 1 - number) for label, number in strand[:2]) for strand in turned.layout()[0]}
            self.assertEqual(ends, {frozenset(strand[:2]) for strand in strands})

    def test_large_rows(self):
        space = Workspace(["a"])
        space.add_strip("s", ["ab" * 4000, P, "c" * 3000])
        space.add_strip("t", ["d" * 5000, ("p", False), ""])
        self.assertEqual(space.join("a", "p"), 0)
        self.assertEqual([row for _, _, row in space.layout()[0]], [["ab" * 4000 + "D" * 5000], ["C" * 3000]])


class Locks(SpaceCase):
    """Points 114 to 116."""

    def test_the_users(self):
        space = two_strips()
        for value in any_values() + ["dan", ["ann"], ("ann",), "Ann"]:
            if value not in USERS:
                for call in (space.lock, space.unlock):
                    self.assert_raises(InvalidUser, value, call, value, None, None)
                    self.assert_raises(InvalidUser, value, call, number=0, strip="s", user=value)
                for call in (space.join, space.unjoin):
                    self.assert_raises(InvalidUser, value, call, value, "p")
                self.assert_raises(InvalidUser, value, space.unjoin, name="q", user=value)

    def test_the_strips_and_numbers(self):
        space = two_strips()
        for call in (space.lock, space.unlock):
            for value in any_values() + ["u", ["s"]]:
                self.assert_raises(UnknownStrip, value, call, "bob", value, None)
            for value in any_values() + [3, -1, "0"]:
                if type(value) is not int or not 0 <= value <= 2:
                    self.assert_raises(InvalidNumber, value, call, "bob", "t", value)
            self.assert_raises(InvalidNumber, 2, call, number=2, strip="s", user="c")

    def test_locked_again_and_released(self):
        space = two_strips()
        for _ in range(3):
            self.assertIsNone(space.lock("bob", "t", 1))
        self.assertEqual(space.locks(), {"ann": [], "bob": [("t", 1)], "c": []})
        self.assertEqual(space.actions()[2:], [("lock", "bob", "t", 1)] * 3)
        self.assertIsNone(space.unlock("bob", "t", 1))
        self.assertEqual(space.locks(), {"ann": [], "bob": [], "c": []})
        caught = self.assert_fault((UnknownName, ("t", 1)), space.unlock, "bob", "t", 1)
        self.assertIsNone(caught)
        space.undo()
        space.undo()
        space.undo()
        self.assertEqual(space.locks()["bob"], [("t", 1)])
        space.undo()
        self.assertEqual(space.locks()["bob"], [])

    def test_the_order_of_the_locks(self):
        space = Workspace(["b", "a"])
        space.add_strip("t", ["", P, "", Q, ""])
        space.add_strip("s", ["", P, "", Q, ""])
        for piece in (("s", 2), ("s", 0), ("t", 1), ("t", 0), ("s", 1)):
            space.lock("a", *piece)
        self.assertEqual(list(space.locks().items()),
                         [("b", []), ("a", [("t", 0), ("t", 1), ("s", 0), ("s", 1), ("s", 2)])])

    def test_another_user_has_locked_the_strand(self):
        space = two_strips()
        space.lock("bob", "t", 2)
        for number in range(3):
            self.assert_raises(Locked, "bob", space.lock, "ann", "t", number)
            self.assert_fault((UnknownName, ("t", number)), space.unlock, "ann", "t", number)
        space.lock("ann", "s", 0)
        self.assert_raises(Locked, "ann", space.lock, "bob", "s", 1)
        self.assert_raises(Locked, "bob", space.join, "ann", "p")
        self.assert_raises(Locked, "ann", space.join, "bob", "p")
        self.assert_raises(Locked, "ann", space.join, "c", "p")
        space.unlock("ann", "s", 0)
        self.assert_raises(Locked, "bob", space.join, "ann", "p")
        self.assertEqual(space.join("bob", "p"), 0)
        # The strand now leads over both strips.
        self.assert_raises(Locked, "bob", space.lock, "ann", "s", 0)
        self.assertIsNone(space.lock("ann", "s", 1))
        self.assert_raises(Locked, "ann", space.unjoin, "bob", "p")
        self.assert_raises(Locked, "bob", space.unjoin, "ann", "p")

    def test_the_first_other_user_in_the_order_of_the_users(self):
        for users in itertools.permutations(USERS):
            space = Workspace(users)
            space.add_strip("s", ["", P, "", ("r", True), ""])
            space.add_strip("t", ["", P, ""])
            space.lock(users[2], "s", 2)
            space.lock(users[1], "t", 0)
            self.assert_raises(Locked, users[1], space.join, users[0], "p")
            self.assert_raises(Locked, users[2], space.join, users[1], "p")
            self.assert_raises(Locked, users[1], space.join, users[2], "p")

    def test_a_lock_at_each_of_the_four_ends(self):
        rows = [("s", ["", P, ""]), ("t", ["", ("p", False), ""])]
        for label, number in (("s", 0), ("s", 1), ("t", 0), ("t", 1)):
            space = space_of(["a", "b"], [("add", *row) for row in rows])
            space.lock("b", label, number)
            self.assert_raises(Locked, "b", space.join, "a", "p")
            self.assertEqual(space.join("b", "p"), 0)
            self.assert_raises(Locked, "b", space.unjoin, "a", "p")
            space.undo()
            space.undo()
            self.assertEqual(space.join("a", "p"), 0)
            # After the join only one of the two strands is locked.
            space.lock("b", label, number)
            self.assert_raises(Locked, "b", space.unjoin, "a", "p")
            self.assertEqual(space.unjoin("b", "p"), 0)

    def test_a_lock_on_a_ring(self):
        space = space_of(["a", "b"], [("add", "s", ["", P, "", Q, "", Q, "", P, ""])])
        self.assertEqual([space.join("a", "p"), space.join("a", "q"), len(space)], [1, 1, 3])
        space.lock("b", "s", 2)
        self.assert_raises(Locked, "b", space.unjoin, "a", "q")
        self.assertEqual(space.unjoin("a", "p"), -1)
        self.assertEqual(space.join("a", "p"), 1)
        self.assert_raises(Locked, "b", space.lock, "a", "s", 2)
        self.assertIsNone(space.lock("a", "s", 1))
        self.assert_raises(Locked, "a", space.unjoin, "b", "q")
        self.assert_raises(Locked, "a", space.unjoin, "b", "p")

    def test_joins_and_unjoins_at_each_name(self):
        space = two_strips()
        for value in any_values() + ["u", "s", ["p"], ("p",)]:
            if value not in ("p", "q"):
                self.assert_raises(UnknownName, value, space.join, "ann", value)
                self.assert_raises(UnknownName, value, space.unjoin, "ann", value)
                self.assert_raises(UnknownName, value, space.unjoin, name=value, user="ann")
        self.assert_raises(Unmatched, "q", space.join, "ann", "q")
        self.assert_raises(UnknownName, "q", space.unjoin, "ann", "q")
        self.assert_raises(UnknownName, "p", space.unjoin, "ann", "p")
        space.join("ann", "p")
        self.assert_raises(UnknownName, "p", space.join, "bob", "p")
        self.assertEqual(space.joined(), ["p"])

    def test_the_order_of_the_errors(self):
        space = two_strips()
        space.lock("bob", "t", 1)
        self.assert_raises(InvalidUser, "dan", space.join, "dan", "zz")
        self.assert_raises(UnknownName, "zz", space.join, "ann", "zz")
        self.assert_raises(Unmatched, "q", space.join, "ann", "q")
        self.assert_raises(InvalidUser, "dan", space.lock, "dan", "zz", 9)
        self.assert_raises(UnknownStrip, "zz", space.lock, "ann", "zz", 9)
        self.assert_raises(InvalidNumber, 9, space.lock, "ann", "t", 9)
        self.assert_raises(UnknownStrip, "zz", space.unlock, "ann", "zz", 9)
        self.assert_raises(InvalidNumber, 9, space.unlock, "ann", "t", 9)

    def test_all_changes_of_the_length(self):
        changes = set()
        for _, users, actions in runs(118, 20):
            space, plain = Workspace(users), PlainSpace(users)
            for action in actions:
                if plain.fault(action) is None:
                    plain.perform(action)
                    changes.add((action[0], by_method(space, action)))
        self.assertLessEqual({("join", -1), ("join", 0), ("join", 1), ("unjoin", -1), ("unjoin", 0), ("unjoin", 1)},
                             changes)

    def test_no_strand_or_ring_is_locked_by_two_users(self):
        for _, users, actions in runs(119, 12):
            space, plain = Workspace(users), PlainSpace(users)
            for action in actions:
                if plain.fault(action) is None:
                    plain.perform(action)
                    space.perform(action)
                locked = [{space.part_of(*piece) for piece in pieces} for pieces in space.locks().values()]
                self.assertEqual(len(set().union(*locked)), sum(map(len, locked)))


class Actions(SpaceCase):
    """Point 117."""

    def test_each_action_by_its_method_and_by_perform(self):
        for _, users, actions in runs(120, 12):
            spaces = [Workspace(users) for _ in range(4)]
            plains = [PlainSpace(users) for _ in range(4)]
            calls = [by_method, by_keywords, lambda space, action: space.perform(action),
                     lambda space, action: space.perform(action=action)]
            for action in actions:
                for space, plain, call in zip(spaces, plains, calls):
                    self.check_action(space, plain, action, call)
                self.assertEqual(space_told(spaces[0]), plains[0].told())
                for space in spaces[1:]:
                    self.assertEqual(space_told(space), space_told(spaces[0]))
                    self.assert_equality(space, spaces[0], True)

    def test_rows_as_tuples(self):
        space = Workspace(["a"])
        space.perform(("add", "s", ("a", P, "b")))
        self.assertEqual(space.actions(), [("add", "s", ["a", P, "b"])])

    def test_values_that_are_no_actions(self):
        right = [("add", "u", ["a"]), ("lock", "ann", "s", 0), ("unlock", "ann", "s", 0), ("join", "ann", "p"),
                 ("unjoin", "ann", "p")]
        wrong = [(), ("add",), ("undo",), ("Join", "ann", "p"), ("joins", "ann", "p"), (["join"], "ann", "p"),
                 (None, "ann", "p"), (("join",), "ann", "p"), ({}, 1, 2), "join ann p", {"join": 1}, ("", "ann", "p"),
                 ("users", "ann"), ("add_strip", "u", ["a"]), (("join", "ann", "p"),), [("join", "ann", "p")]]
        for action in right:
            wrong += [list(action), action[:-1], action + ("p",), action[1:], (*action, *action), (action,)]
        space = two_strips()
        space.lock("ann", "s", 0)
        before = space_told(space)
        for value in any_values() + wrong:
            self.assert_raises(InvalidOperation, value, space.perform, value)
            self.assert_raises(InvalidOperation, value, space.perform, action=value)
        self.assertEqual(space_told(space), before)

    def test_the_errors_of_the_actions(self):
        space = two_strips()
        space.join("ann", "p")
        for values in itertools.product(["u", "s", None, ["s"]], [["a"], None, ["a", "b", "c"], ["", P, ""]]):
            self.check_perform(space, ("add", *values))
        for word in ("join", "unjoin"):
            for values in itertools.product(["ann", "dan", None, ["ann"]], ["p", "q", None, ["p"]]):
                self.check_perform(space, (word, *values))
        for word in ("lock", "unlock"):
            for values in itertools.product(["ann", "dan", {}], ["s", "u", ["s"]], [0, 9, True, None, "0"]):
                self.check_perform(space, (word, *values))

    def check_perform(self, space, action):
        twin = space.clone()
        plain = PlainSpace(USERS, space.actions())
        self.check_action(twin, plain, action, lambda space, action: space.perform(action))
        self.assertEqual(space_told(twin), plain.told())

    def test_undo_until_nothing_is_left(self):
        for number in range(3):
            rng = random.Random(number)
            space, states = Workspace(USERS), []
            for action in sample_actions(rng, USERS, 150, 0):
                states.append((space_told(space), space.clone()))
                space.perform(action)
            for before, twin in reversed(states):
                self.assertIsNone(space.undo())
                self.assertEqual(space_told(space), before)
                self.assert_equality(space, twin, True)
            for _ in range(2):
                with self.assertRaises(NothingToUndo) as caught:
                    space.undo()
                self.assertIs(type(caught.exception), NothingToUndo)
            self.assertEqual(space_told(space), PlainSpace(USERS).told())

    def test_undo_among_other_actions(self):
        for rng, users, actions in runs(121, 12):
            space, plain = Workspace(users), PlainSpace(users)
            for action in actions:
                while plain.actions and rng.random() < 0.3:
                    space.undo()
                    plain.actions.pop()
                self.check_action(space, plain, action, by_method)
                self.assertEqual(space_told(space), plain.told())

    def test_undo_of_what_another_user_has_locked(self):
        space = two_strips()
        space.join("ann", "p")
        space.lock("bob", "s", 0)
        space.undo()
        space.undo()
        self.assertEqual(space.joined(), [])
        space.lock("bob", "s", 0)
        space.lock("bob", "s", 0)
        space.undo()
        self.assertEqual(space.locks()["bob"], [("s", 0)])
        space.unlock("bob", "s", 0)
        space.undo()
        self.assertEqual(space.locks()["bob"], [("s", 0)])

    def test_several_hundred_actions(self):
        space = two_strips()
        for _ in range(140):
            space.join("ann", "p")
            space.unjoin("bob", "p")
        self.assertEqual(len(space.actions()), 282)
        for _ in range(282):
            space.undo()
        self.assertEqual(space_told(space), PlainSpace(USERS).told())


class Equality(SpaceCase):
    """Point 118."""

    def test_whatever_actions_led_there(self):
        one = space_of(USERS, [("add", "s", ["a", P, "b", P, "c"]), ("join", "ann", "p"), ("lock", "bob", "s", 1)])
        other = space_of(USERS, [("add", "s", ("a", P, "b", P, "c")), ("lock", "bob", "s", 1), ("lock", "bob", "s", 1),
                                 ("lock", "bob", "s", 0), ("join", "bob", "p"), ("unlock", "bob", "s", 0)])
        self.assert_equality(one, other, True)
        self.assertNotEqual(one.actions(), other.actions())

    def test_one_difference(self):
        actions = [("add", "s", ["a", P, "b"]), ("add", "t", ["c", P, "d", Q, "e", Q, ""]), ("join", "ann", "p"),
                   ("lock", "bob", "s", 0)]
        space = space_of(USERS, actions)
        self.assert_equality(space, space_of(USERS, actions), True)
        others = [space_of(["bob", "ann", "c"], actions), space_of(["ann", "bob"], actions),
                  space_of(USERS, actions[:-1]), space_of(USERS, actions[:2] + actions[3:]),
                  space_of(USERS, [actions[1], actions[0], *actions[2:]]),
                  space_of(USERS, actions + [("lock", "bob", "s", 0), ("lock", "bob", "t", 2)]),
                  space_of(USERS, actions[:-1] + [("lock", "ann", "s", 0)]),
                  space_of(USERS, actions[:-1] + [("lock", "bob", "t", 3)]),
                  space_of(USERS, actions[:-1] + [("join", "ann", "q"), ("lock", "bob", "s", 0)]),
                  space_of(USERS, actions[:2] + [("join", "ann", "q"), ("lock", "bob", "s", 0)]),
                  space_of(USERS, [("add", "s", ["x", P, "b"]), *actions[1:]]),
                  space_of(USERS, [("add", "s", ["a", ("p", False), "b"]), *actions[1:]]),
                  space_of(USERS, [("add", "u", ["a", P, "b"]), *actions[1:3]]),
                  space_of(USERS, actions[:2] + [("add", "u", [""])] + actions[2:])]
        for other in others:
            self.assert_equality(space, other, False)

    def test_values_of_other_kinds(self):
        space = Workspace(["a"])
        for value in any_values() + [space.actions(), space_told(space), "users a"]:
            self.assert_equality(space, value, type(value) is Workspace)
        for value in any_values():
            self.assert_equality(two_strips(), value, False)

    def test_clones_are_independent(self):
        for rng, users, actions in runs(122, 12):
            space, plain = Workspace(users), PlainSpace(users)
            for action in actions:
                twin = space.clone()
                self.assertIs(type(twin), Workspace)
                self.assert_equality(space, twin, True)
                before = space_told(space)
                self.assertEqual(space_told(twin), before)
                self.check_action(twin, PlainSpace(users, plain.actions), action, by_method)
                self.assertEqual(space_told(space), before)
                self.check_action(space, plain, action, by_method)
                after = space_told(space)
                while twin.actions():
                    twin.undo()
                self.assertEqual(space_told(space), after)
                self.assertEqual(space_told(twin), PlainSpace(users).told())

    def test_equal_calls(self):
        space = two_strips()
        for call in (space.layout, space.locks, space.actions, space.names, space.joined, space.users, space.strips):
            self.assertEqual(call(), call())
            self.assertIsNot(call(), call())
