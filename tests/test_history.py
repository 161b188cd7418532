"""Points 121 to 125, and what 7 to 9 say of histories."""

import random
import re

from markersplice.errors import InvalidNumber, InvalidStep, InvalidText, InvalidWorkspace
from markersplice.history import can_exchange, dump_history, load_history, shortest_actions, state_after
from markersplice.texts import parse_row
from markersplice.workspace import Workspace
from support import Case, PlainSpace, any_values, item_text, sample_actions, space_told

P = ("p", True)
USERS = ["ann", "bob", "c"]
NAME = "[a-z]{1,4}"
ROW = f"(?:[A-Za-z]+|_)(?: {NAME}[+-] (?:[A-Za-z]+|_))*"
FORMS = {
    "add": f"add ({NAME}) ({ROW})", "lock": f"(lock|unlock) ({NAME}) ({NAME}) (0|[1-9][0-9]*)",
    "join": f"(join|unjoin) ({NAME}) ({NAME})",
}


def plain_action(line):
    """The action that a line writes, or None."""
    found = re.fullmatch(FORMS["add"], line)
    if found:
        return ("add", found[1], parse_row(found[2]))
    found = re.fullmatch(FORMS["lock"], line)
    if found:
        return (*found.groups()[:3], int(found[4]) if len(found[4]) < 10 else 10 ** 9)
    found = re.fullmatch(FORMS["join"], line)
    return found.groups() if found else None


def plain_load(text):
    """The workspace to which a history leads, or the index of the first line that fails."""
    lines = text.split("\n")
    users = lines[0].split(" ")[1:]
    if not re.fullmatch(f"users(?: {NAME}){{1,3}}", lines[0]) or len(set(users)) != len(users):
        return 0
    plain = PlainSpace(users)
    for index, line in enumerate(lines[1:], 1):
        action = plain_action(line)
        if action is None or plain.fault(action) is not None:
            return index
        plain.perform(action)
    return plain


def plain_dump(plain):
    """The history of a workspace, as point 121 words it."""
    lines = ["users " + " ".join(plain.users)]
    for word, *rest in plain.actions:
        if word == "add":
            rest[1] = " ".join(item_text(item) for item in rest[1])
        lines.append(" ".join([word, *map(str, rest)]))
    return "\n".join(lines)


def workspaces(seed, total=16, most=40):
    """Workspaces after random actions, some of which were undone, each with a plain one."""
    for number in range(total):
        rng = random.Random(1000 * seed + number)
        users = USERS[:1 + number % 3]
        space, plain = Workspace(users), PlainSpace(users)
        for action in sample_actions(rng, users, rng.randrange(most)):
            if plain.fault(action) is None:
                space.perform(action)
                plain.perform(action)
                if rng.random() < 0.1:
                    space.undo()
                    plain.actions.pop()
        yield rng, space, plain


def no_workspaces():
    return [value for value in any_values() if type(value) is not Workspace]


class HistoryCase(Case):
    def assert_step(self, position, text):
        with self.assertRaises(InvalidStep, msg=repr(text)) as caught:
            load_history(text)
        self.assertIs(type(caught.exception), InvalidStep)
        found = caught.exception.position
        self.assertEqual((found, type(found)), (position, int), repr(text))

    def check_load(self, text):
        """Load a text and ask for what the plain reading gives."""
        expected = plain_load(text)
        if isinstance(expected, int):
            self.assert_step(expected, text)
        else:
            space = load_history(text)
            self.assertIs(type(space), Workspace)
            self.assertEqual(space_told(space), expected.told())
            self.assertEqual(dump_history(space), text)


class Writing(HistoryCase):
    """Point 121."""

    def test_line_by_line(self):
        space = Workspace(["ann", "bob"])
        self.assertEqual(dump_history(space), "users ann bob")
        for action, line in ((("add", "s", ["aB", P, "", ("q", False), "c"]), "add s aB p+ _ q- c"),
                             (("add", "t", ["", P, ""]), "add t _ p+ _"), (("lock", "bob", "s", 0), "lock bob s 0"),
                             (("unlock", "bob", "s", 0), "unlock bob s 0"), (("lock", "ann", "t", 1), "lock ann t 1"),
                             (("join", "ann", "p"), "join ann p"), (("unjoin", "ann", "p"), "unjoin ann p")):
            before = dump_history(space)
            space.perform(action)
            self.assertEqual(dump_history(space), before + "\n" + line)
        space.undo()
        self.assertEqual(dump_history(workspace=space).split("\n")[-1], "join ann p")

    def test_any_workspaces(self):
        for _, space, plain in workspaces(121):
            text = dump_history(space)
            self.assertIs(type(text), str)
            self.assertEqual(text, plain_dump(plain))
            self.assertEqual(space_told(space), plain.told())

    def test_large_numbers_of_pieces(self):
        space = Workspace(["a"])
        names = [one + other for one in "abcde" for other in "abcd"]
        space.add_strip("s", ["x" * 900] + [item for name in names * 2 for item in ((name, True), "x" * 900)])
        space.lock("a", "s", 10)
        space.lock("a", "s", 40)
        text = dump_history(space)
        self.assertGreater(len(text), 30000)
        self.assertEqual(text.split("\n")[2:], ["lock a s 10", "lock a s 40"])
        self.assertEqual(space_told(load_history(text)), space_told(space))

    def test_no_workspaces(self):
        for value in no_workspaces():
            self.assert_raises(InvalidWorkspace, value, dump_history, value)
            self.assert_raises(InvalidWorkspace, value, dump_history, workspace=value)


class Reading(HistoryCase):
    """Point 122."""

    def test_any_workspaces(self):
        for _, space, plain in workspaces(122):
            for loaded in (load_history(dump_history(space)), load_history(text=plain_dump(plain))):
                self.assert_equality(loaded, space, True)
                self.assertEqual(space_told(loaded), plain.told())
                states = []
                while loaded.actions():
                    loaded.undo()
                    states.append(loaded.actions())
                self.assertEqual(states, [plain.actions[:total] for total in range(len(plain.actions))][::-1])

    def test_no_texts(self):
        for value in any_values():
            if type(value) is str:
                self.check_load(value)
            else:
                self.assert_raises(InvalidText, value, load_history, value)
                self.assert_raises(InvalidText, value, load_history, text=value)

    def test_one_change(self):
        for rng, _, plain in workspaces(123, 24, 16):
            for text in self.changed_lines(rng, plain_dump(plain)) + self.changed_words(rng, plain_dump(plain)):
                self.check_load(text)

    def changed_lines(self, rng, text):
        """Texts with a line removed, repeated, exchanged, moved or empty."""
        lines = text.split("\n")
        found = [text + "\n", "\n" + text, text + "\n\n", text + " ", " " + text, text.upper(), text + "\nusers ann"]
        for at in range(len(lines)):
            other = rng.randrange(len(lines))
            exchanged = list(lines)
            exchanged[at], exchanged[other] = lines[other], lines[at]
            found += ["\n".join(changed) for changed in (
                lines[:at] + lines[at + 1:], lines[:at + 1] + lines[at:], exchanged, lines[:at] + [""] + lines[at:],
                lines[:at] + lines[at + 1:] + lines[at:at + 1],
                lines[:at] + [lines[at].replace(" ", "\n", 1)] + lines[at + 1:])]
        return found

    def changed_words(self, rng, text):
        """Texts with a word of a line removed, inserted, replaced or repeated, or with an extra blank."""
        lines = text.split("\n")
        new = ["", "p", "s", "ann", "dan", "0", "1", "00", "01", "-1", "+1", "1.0", "9", "99", "p+", "_", "aB", "add",
               "lock", "join", "users", "undo", "zz", "abcde", "P", "x+", "9" * 40]
        found = []
        for _ in range(60):
            at = rng.randrange(len(lines))
            words = lines[at].split(" ")
            place, word = rng.randrange(len(words)), rng.choice(new)
            changed = rng.choice([words[:place] + words[place + 1:], words[:place] + [word] + words[place:],
                                  words[:place] + [word] + words[place + 1:], words[:place + 1] + words[place:],
                                  words + [word], words[:place] + [words[place] + " "] + words[place + 1:]])
            found.append("\n".join(lines[:at] + [" ".join(changed)] + lines[at + 1:]))
        return found

    def test_the_first_line(self):
        for line in ("users ann bob c", "users a", "users add join lock"):
            self.assertEqual(load_history(line).users(), line.split(" ")[1:])
        for line in ("", "users", "users ", "user ann", "users ann ann", "users a b c d", "Users ann", "users Ann",
                     "users abcde", "ann", "users  ann", " users ann", "users ann ", "add s a", "users ann\tbob"):
            for rest in ("", "\nadd s a", "\nwrong", "\n"):
                self.assert_step(0, line + rest)

    def test_the_first_line_that_fails(self):
        start = "users ann bob\nadd s a p+ b p+ c"
        for line in ("", "add s a", "add t", "add t a p+", "add t a p+ b", "add t a p b", "add T a", "lock ann s 3",
                     "lock ann s 00", "lock ann s 01", "lock ann s +1", "lock ann s -0", "lock ann s", "lock ann s 1 1",
                     "lock dan s 1", "lock ann t 0", "unlock ann s 0", "join ann q", "join ann p p", "join ann", "join",
                     "unjoin ann p", "undo", "users ann", "perform join ann p", "Join ann p", "join  ann p",
                     "join ann p ", " join ann p", "lock ann s 1.0", "lock ann s " + "9" * 5000,
                     "add t " + "a" * 5000 + " "):
            for rest in ("", "\nwrong", "\njoin ann p"):
                self.assert_step(2, start + "\n" + line + rest)
        self.assert_step(3, start + "\njoin ann p\njoin bob p\nwrong")
        self.assert_step(3, start + "\nlock bob s 1\njoin ann p")
        self.assertEqual(load_history(start + "\nlock bob s 1\njoin bob p").joined(), ["p"])

    def test_long_texts(self):
        text = "users a\nadd s " + "ab" * 3000 + " p+ _\nlock a s 0\nunlock a s 0\nlock a s 1"
        self.check_load(text)
        lines = ["users ann", "add s a p+ b p+ c"] + ["join ann p", "unjoin ann p"] * 149
        self.check_load("\n".join(lines))
        lines[200] = "join ann q"
        self.check_load("\n".join(lines))


class Shortening(HistoryCase):
    """Points 123 and 124."""

    def test_the_state_after_each_number_of_actions(self):
        for _, space, plain in workspaces(124, 12, 24):
            before = space_told(space)
            for total in range(len(plain.actions) + 1):
                expected = PlainSpace(plain.users, plain.actions[:total])
                for state in (state_after(space, total), state_after(total=total, workspace=space)):
                    self.assertIs(type(state), Workspace)
                    self.assertEqual(space_told(state), expected.told())
                while state.actions():
                    state.undo()
                self.assertEqual(space_told(space), before)

    def test_the_state_is_independent(self):
        space = load_history("users a\nadd s a p+ b p+ c")
        state = state_after(space, 1)
        state.join("a", "p")
        space.add_strip("t", [""])
        self.assertEqual((space.joined(), state.strips()), ([], ["s"]))

    def test_wrong_numbers_of_actions(self):
        space = load_history("users a\nadd s a p+ b p+ c\njoin a p")
        space.undo()
        for value in any_values() + [2, 3, -1, [0], "0"]:
            if type(value) is not int or not 0 <= value <= 1:
                self.assert_raises(InvalidNumber, value, state_after, space, value)
                self.assert_raises(InvalidNumber, value, state_after, total=value, workspace=space)
        for value in no_workspaces():
            self.assert_raises(InvalidWorkspace, value, state_after, value, None)
            self.assert_raises(InvalidWorkspace, value, state_after, total=0, workspace=value)

    def test_the_shortest_actions(self):
        for _, space, plain in workspaces(125, 24):
            expected = [("add", label, list(row)) for label, row in plain.rows()]
            expected += [("join", plain.users[0], name) for name in plain.joined()]
            expected += [("lock", user, *piece) for user, pieces in plain.locks().items() for piece in pieces]
            actions = shortest_actions(space)
            self.assertEqual(actions, expected)
            self.assertEqual([type(actions), *map(type, actions)], [list] + [tuple] * len(actions))
            self.assertEqual(shortest_actions(workspace=space), expected)
            new = Workspace(space.users())
            for action in actions:
                new.perform(action)
            self.assert_equality(new, space, True)
            self.assertLessEqual(len(actions), len(space.actions()))

    def test_new_lists_each_time(self):
        space = load_history("users a\nadd s a p+ b p+ c\njoin a p")
        actions = shortest_actions(space)
        actions[0][2].append("changed")
        actions.clear()
        self.assertEqual(shortest_actions(space), [("add", "s", ["a", P, "b", P, "c"]), ("join", "a", "p")])

    def test_no_workspaces(self):
        for value in no_workspaces():
            self.assert_raises(InvalidWorkspace, value, shortest_actions, value)
            self.assert_raises(InvalidWorkspace, value, shortest_actions, workspace=value)


class Exchanging(HistoryCase):
    """Point 125."""

    def plain_exchange(self, space, number):
        """Whether the exchange works in a new workspace."""
        actions = space.actions()
        actions[number], actions[number + 1] = actions[number + 1], actions[number]
        plain = PlainSpace(space.users())
        for action in actions:
            if plain.fault(action) is not None:
                return False
            plain.perform(action)
        new, old = plain.told(), space_told(space)
        return all(new[key] == old[key] for key in ("users", "strips", "rows", "joined", "locks"))

    def test_each_pair_of_neighbors(self):
        results = []
        for _, space, _ in workspaces(126, 30, 30):
            before = space_told(space)
            for number in range(len(space.actions()) - 1):
                found = can_exchange(space, number)
                self.assertIs(found, self.plain_exchange(space, number))
                self.assertIs(can_exchange(number=number, workspace=space), found)
                results.append(found)
            self.assertEqual(space_told(space), before)
        self.assertGreater(results.count(True), 50)
        self.assertGreater(results.count(False), 50)

    def test_chosen_cases(self):
        start = "users ann bob\nadd s a p+ b p+ c q+ d q+ e\n"
        cases = [("join ann p\njoin bob q", 1, True), ("join ann p\njoin bob q", 0, False),
                 ("lock ann s 0\nlock ann s 0", 1, True), ("join ann p\nlock bob s 0", 1, False),
                 ("join ann p\nunjoin ann p", 1, False), ("lock ann s 0\nunlock ann s 0", 1, False),
                 ("join ann p\nlock ann s 0", 1, True), ("add t _\nadd u _", 1, False),
                 ("join ann p\nadd u _", 1, True), ("lock ann s 0\nunlock ann s 0\nlock ann s 0", 2, False),
                 ("lock ann s 0\nlock ann s 0\nunlock ann s 0", 2, False)]
        for lines, number, expected in cases:
            self.assertIs(can_exchange(load_history(start + lines), number), expected, lines)

    def test_joins_and_unjoins_at_different_names(self):
        for rng, space, _ in workspaces(127, 16):
            names = [name for name in space.names() if name not in space.unmatched()]
            new = Workspace(space.users())
            for strip in space.strips():
                new.add_strip(strip, space.row_of(strip))
            start = len(new.actions())
            for _ in range(10 if len(names) > 1 else 0):
                name = rng.choice(names)
                (new.unjoin if name in new.joined() else new.join)(rng.choice(new.users()), name)
            actions = new.actions()
            for number in range(start, len(actions) - 1):
                if actions[number][2] != actions[number + 1][2]:
                    self.assertIs(can_exchange(new, number), True)

    def test_wrong_numbers(self):
        for lines, last in (("", -1), ("\nadd s _", -1), ("\nadd s _\nadd t _", 0),
                            ("\nadd s _\nadd t _\nlock a s 0", 1)):
            space = load_history("users a" + lines)
            for value in any_values() + [last + 1, last + 2, -1, -2, [0], "0"]:
                if type(value) is not int or not 0 <= value <= last:
                    self.assert_raises(InvalidNumber, value, can_exchange, space, value)
                    self.assert_raises(InvalidNumber, value, can_exchange, number=value, workspace=space)
        for value in no_workspaces():
            self.assert_raises(InvalidWorkspace, value, can_exchange, value, None)
            self.assert_raises(InvalidWorkspace, value, can_exchange, number=0, workspace=value)

    def test_undone_actions_do_not_count(self):
        space = load_history("users a\nadd s _ p+ _ p+ _\nlock a s 0\njoin a p")
        space.undo()
        self.assert_raises(InvalidNumber, 1, can_exchange, space, 1)
        self.assertIs(can_exchange(space, 0), False)
