"""Points 131 to 136, and what 7 to 9 say of consoles."""

import itertools
import random
import re

from markersplice.console import Console
from markersplice.crossings import crossing_table
from markersplice.errors import (
    Blocked, InvalidKinds, InvalidLine, InvalidNames, InvalidStep, InvalidUser, InvalidWord, Missing, NotApplicable,
    NothingToUndo, StripError, UnknownName, UnknownPart, Unreachable,
)
from markersplice.history import dump_history, load_history
from markersplice.joining import JoinedStrip, edges
from markersplice.kinds import kinds_certificate
from markersplice.operations import apply_all, available_ops, blocker
from markersplice.removal import first_names, last_names, ops_for, sequence_counts
from markersplice.strips import Ring, Strip
from markersplice.texts import parse_row, parse_strip, parts_text
from markersplice.trees import loop_certificate, loop_set_count, loop_sets, ring_certificate
from markersplice.workspace import Workspace
from support import (
    Case, any_values, item_text, looks_like_name, mixed_strip_rows, names_in, sample_strip_rows, space_told,
)

FORMS = {
    "strip": "TEXT", "apply": "OPERATIONS", "remove": "NAMES", "clear": "", "flip": "", "back": "", "show": "",
    "operations": "", "blocker": "OPERATION", "table": "", "components": "", "rank": "NAMES", "result": "NAMES",
    "edges": "", "removable": "NAMES", "counts": "", "first": "", "last": "", "loops": "", "count_loops": "",
    "tree": "NAMES", "makes": "NAME NUMBER", "kinds": "WORDS", "users": "NAMES", "load": "TEXT", "add": "NAME TEXT",
    "lock": "NAME NAME NUMBER", "unlock": "NAME NAME NUMBER", "join": "NAME NAME", "unjoin": "NAME NAME", "undo": "",
    "layout": "", "names": "", "joined": "", "unmatched": "", "locks": "NAME", "log": "",
}
PATTERNS = {"NAME": "[a-z]{1,4}", "NUMBER": "(?:0|[1-9][0-9]{0,29})", "TEXT": "[^ \n]+(?: [^ \n]+)*"}
EXAMPLES = [
    "strip a p+ b q+ c p+ d q+ e", "strip _", "strip -", "apply swap p q", "apply loop p flip q swap r s",
    "apply loop loop", "apply flip swap", "apply swap loop flip", "apply swap swap flip flip swap", "remove",
    "remove p q", "remove loop", "clear", "flip", "back", "show", "operations", "blocker loop p", "blocker flip loop",
    "blocker swap flip swap", "table", "components", "rank", "rank p q", "result", "result q", "edges", "removable",
    "removable p", "counts", "first", "last", "loops", "count_loops", "tree", "tree p q", "makes p 1", "makes loop 0",
    "kinds", "kinds loop", "kinds Loop 7 /", "users a", "users", "users a b c d", "load users a", "load / x", "add s _",
    "add add a p+ b", "lock a s 0", "lock a s 999999999999999999999999999999", "unlock a s 10", "join a p",
    "unjoin join join", "undo", "layout", "names", "joined", "unmatched", "locks a", "log",
]


def plain_ops(words):
    """The operations that words consist of, or None."""
    ops = []
    while words:
        total = {"loop": 2, "flip": 2, "swap": 3}.get(words[0], 99)
        op, words = words[:total], words[total:]
        if len(op) < total or not all(looks_like_name(name) for name in op[1:]) or len(set(op[1:])) < total - 1:
            return None
        ops.append(tuple(op))
    return ops


def is_command(line):
    """Whether a value is a command, as point 131 words it."""
    if type(line) is not str or re.search("\n", line) or "" in line.split(" "):
        return False
    word, *rest = line.split(" ")
    if word not in FORMS:
        return False
    form = FORMS[word]
    if form == "NAMES":
        return all(looks_like_name(name) for name in rest)
    if form == "WORDS":
        return True
    if form in ("OPERATION", "OPERATIONS"):
        ops = plain_ops(rest)
        return bool(ops) and (form == "OPERATIONS" or len(ops) == 1)
    pattern = " ".join(PATTERNS[part] for part in form.split())
    return re.fullmatch(pattern, " ".join(rest)) is not None


def listed(values, between=" "):
    """Words, or groups of words, as point 135 writes them."""
    return between.join(str(value) for value in values) or "-"


def grouped(values):
    return listed([value if isinstance(value, str) else listed(value) for value in values], " / ")


def op_words(ops):
    return [word for op in ops for word in op]


def certificate_text(value):
    """A certificate as its words and values one after another."""
    words = [value[0]]
    for part in value[1:]:
        if value[0] == "operations":
            words += op_words(part)
        else:
            words += part if isinstance(part, list) else [part]
    return listed(words)


class PlainConsole:
    """A console as points 131 to 136 word it, which calls the functions that the commands stand for."""

    def __init__(self):
        self.strip, self.rings, self.space, self.before = Strip([""]), [], Workspace(["a"]), []

    def told(self):
        return {"strip": self.strip, "rings": list(self.rings), "back": len(self.before), **space_told(self.space)}

    def run(self, line):
        word, *rest = line.split(" ")
        if word in ("strip", "apply", "remove", "clear", "flip", "back"):
            return self.change(word, rest)
        if word in ("users", "load", "add", "lock", "unlock", "join", "unjoin", "undo", "layout", "names", "joined",
                    "unmatched", "locks", "log"):
            return self.in_space(word, rest)
        return self.answer(word, rest)

    def put(self, strip, rings):
        self.before.append((self.strip, self.rings))
        self.strip, self.rings = strip, rings

    def change(self, word, rest):
        if word == "back":
            if not self.before:
                raise NothingToUndo()
            self.strip, self.rings = self.before.pop()
            return "ok"
        if word == "flip":
            self.put(self.strip.flipped(), self.rings)
            return "ok"
        if word == "strip":
            strip = parse_strip(" ".join(rest))
            self.put(strip, [])
            return str(len(strip.names()))
        if word == "apply":
            strip, cut = apply_all(self.strip, plain_ops(rest))
            self.put(strip, self.rings + cut)
            return grouped([str(ring) for ring in cut])
        ops = ops_for(self.strip, self.strip.names() if word == "clear" else rest)
        strip, cut = apply_all(self.strip, ops)
        self.put(strip, self.rings + cut)
        return listed(op_words(ops))

    def answer(self, word, rest):
        strip = self.strip
        if word == "removable":
            try:
                ops_for(strip, rest)
            except Unreachable as caught:
                return f"no {caught.ring} {caught.name}"
            return "yes"
        if word == "result":
            joined = JoinedStrip(strip, rest)
            return parts_text(joined.row(), joined.rings()).replace("\n", " / ")
        answers = {
            "show": lambda: parts_text(strip.row(), self.rings).replace("\n", " / "),
            "operations": lambda: listed(op_words(available_ops(strip))),
            "blocker": lambda: listed(blocker(strip, tuple(rest)) or []),
            "table": lambda: grouped(str(crossing_table(strip)).split("\n")),
            "components": lambda: grouped(crossing_table(strip).components()),
            "rank": lambda: str(crossing_table(strip).subtable(rest).rank()),
            "edges": lambda: grouped([(name, *pair) for name, pair in edges(strip).items()]),
            "counts": lambda: grouped(sequence_counts(strip).items()),
            "first": lambda: listed(first_names(strip)), "last": lambda: listed(last_names(strip)),
            "loops": lambda: grouped(loop_sets(strip)), "count_loops": lambda: str(loop_set_count(strip)),
            "tree": lambda: certificate_text(loop_certificate(strip, rest)),
            "makes": lambda: certificate_text(ring_certificate(strip, rest[0], int(rest[1]))),
            "kinds": lambda: certificate_text(kinds_certificate(strip, rest)),
        }
        return answers[word]()

    def in_space(self, word, rest):
        space = self.space
        if word == "users":
            self.space = Workspace(rest)
            return "ok"
        if word == "load":
            self.space = load_history("\n".join(" ".join(rest).split(" / ")))
            return "ok"
        if word == "add":
            row = parse_row(" ".join(rest[1:]))
            space.add_strip(rest[0], row)
            return "ok"
        if word == "locks":
            if rest[0] not in space.users():
                raise InvalidUser(rest[0])
            return grouped(space.locks()[rest[0]])
        if word in ("lock", "unlock"):
            getattr(space, word)(rest[0], rest[1], int(rest[2]))
            return "ok"
        if word in ("join", "unjoin"):
            return str(getattr(space, word)(*rest))
        if word == "undo":
            space.undo()
            return "ok"
        if word == "log":
            return dump_history(space).replace("\n", " / ")
        if word == "layout":
            strands, rings = space.layout()
            groups = [(*one, *other, *map(item_text, row)) for one, other, row in strands]
            return grouped(groups + list(map(str, rings)))
        return listed(getattr(space, word)())


def console_told(console):
    return {"strip": console.strip(), "rings": console.rings(), "back": len(console), **space_told(console.workspace())}


def outcome(call, *args):
    """What a call returns, or the class and the attributes of its error."""
    try:
        return call(*args)
    except (StripError, Missing, Blocked) as caught:
        return (type(caught), vars(caught))


def sample_line(rng, console):
    """A command that fits a console, or nearly."""
    strip, space = console.strip(), console.workspace()
    names = strip.names() + ["yyy"]
    some = rng.sample(names, min(len(names), rng.randrange(4)))
    labels = space.strips() + ["t"]
    piece = f"{rng.choice(labels)} {rng.randrange(4)}"
    user, marker = rng.choice(space.users() + ["dan"]), rng.choice(space.names() + ["yyy"])
    ops = available_ops(strip) or [("loop", "yyy")]
    row = rng.choice(mixed_strip_rows()[:40])
    words = {
        "strip": lambda: ["strip", *map(item_text, row)], "apply": lambda: ["apply", *rng.choice(ops)],
        "more": lambda: ["apply", *rng.choice(ops), *rng.choice(ops)], "remove": lambda: ["remove", *some],
        "blocker": lambda: ["blocker", rng.choice(("loop", "flip")), rng.choice(names)],
        "swap": lambda: ["blocker", "swap", *rng.sample(names + ["yy"], 2)],
        "rank": lambda: ["rank", *some], "result": lambda: ["result", *some], "tree": lambda: ["tree", *some],
        "removable": lambda: ["removable", *some], "repeated": lambda: ["tree", *some, *some],
        "makes": lambda: ["makes", rng.choice(names), str(rng.randrange(4))],
        "kinds": lambda: ["kinds", *rng.sample(["loop", "flip", "swap"], rng.randrange(4))],
        "users": lambda: ["users", *rng.sample(["a", "ann", "bob"], rng.randrange(4))],
        "load": lambda: ["load", *dump_history(space).replace("\n", " / ").split(" ")],
        "add": lambda: ["add", rng.choice(["s", "t", "u"]), *map(item_text, row[:rng.choice((3, 5, 9))])],
        "lock": lambda: ["lock", user, *piece.split(" ")], "unlock": lambda: ["unlock", user, *piece.split(" ")],
        "join": lambda: ["join", user, marker], "unjoin": lambda: ["unjoin", user, marker],
        "locks": lambda: ["locks", user],
    }
    plain = [word for word in FORMS if FORMS[word] == ""]
    word = rng.choice(list(words) * 2 + plain)
    return " ".join(words[word]() if word in words else [word])


class ConsoleCase(Case):
    def console(self, *lines):
        """A console that has run these commands."""
        console = Console()
        for line in lines:
            console.run(line)
        return console

    def assert_outputs(self, console, pairs):
        for line, expected in pairs:
            found = console.run(line)
            self.assertIs(type(found), str)
            self.assertEqual((line, found), (line, expected))


class Lines(ConsoleCase):
    """Point 131."""

    def check_line(self, line):
        """Ask for InvalidLine exactly if a value is no command."""
        console = self.console("strip a p+ b q+ c p+ d q+ e", "add s a p+ b")
        before = console_told(console)
        if is_command(line):
            found = outcome(console.run, line)
            self.assertTrue(type(found) is str or found[0] is not InvalidLine, line)
        else:
            caught = self.assert_raises(InvalidLine, line, console.run, line)
            self.assertIs(caught.value, line)
            self.assert_raises(InvalidLine, line, console.run, line=line)
            self.assertEqual(console_told(console), before)

    def test_the_first_state(self):
        console = Console()
        self.assertEqual(console_told(console), PlainConsole().told())
        self.assertEqual((console.strip(), console.rings(), len(console)), (Strip([""]), [], 0))
        self.assert_equality(console.workspace(), Workspace(["a"]), True)

    def test_the_examples_are_commands(self):
        for line in EXAMPLES:
            self.assertTrue(is_command(line), line)
            self.check_line(line)
        self.assertEqual({line.split(" ")[0] for line in EXAMPLES}, set(FORMS))

    def test_a_word_removed_added_or_replaced(self):
        new = ["p", "q", "loop", "swap", "0", "1", "01", "-1", "P", "abcde", "x+", "_", "/", "ab1", "9" * 30, "9" * 31]
        for line in EXAMPLES:
            words = line.split(" ")
            for at in range(len(words) + 1):
                changed = [words[:at] + words[at + 1:], words[:at] + words[at:at + 1] + words[at:]]
                changed += [words[:at] + [word] + words[at:] for word in new]
                changed += [words[:at] + [word] + words[at + 1:] for word in new]
                for other in changed:
                    self.check_line(" ".join(other))

    def test_extra_blanks_line_feeds_and_upper_case(self):
        for line in EXAMPLES:
            words = line.split(" ")
            changed = [" " + line, line + " ", line.replace(" ", "  ", 1), line + "\n", "\n" + line, line.upper(),
                       line.capitalize(), line.replace(" ", "\n", 1), line + " \n", line[1:], line + "s"]
            changed += ["  ".join(words), " ".join(words[:-1] + [words[-1] + "\n"]), line.replace(" ", "")]
            for other in changed:
                self.check_line(other)

    def test_every_pair_of_words(self):
        for one, other in itertools.product(FORMS, ("", "p", "loop p", "0", "p 0", "p q", "p q 0", "swap p q", "TEXT")):
            self.check_line((one + " " + other).rstrip(" "))

    def test_operations_with_names_that_are_words(self):
        names = ["loop", "flip", "swap", "p"]
        for total in range(6):
            for words in itertools.product(names, repeat=total):
                self.check_line(" ".join(["apply", *words]))
                self.check_line(" ".join(["blocker", *words]))
        console = self.console("strip _ loop+ a loop+ _ flip+ b flip- _ swap+ c p+ d swap+ e p+ f")
        self.assert_outputs(console, [("apply loop loop flip flip", "( A )"), ("blocker swap swap p", "-"),
                                      ("apply swap swap p", "-"), ("show", "Bedcf / ( A )")])

    def test_values_of_every_kind(self):
        for value in any_values() + ["", " ", "help", "strips", "clear\n", ["clear"], ("show",), b"show", {"show": 1}]:
            self.check_line(value)


class Strips(ConsoleCase):
    """Point 132."""

    def test_the_example(self):
        self.assert_outputs(Console(), [("strip _ p+ a q+ b q+ c p+ _", "2"), ("edges", "p 0 1 / q 1 2"),
                                        ("clear", "loop q loop p"), ("show", "_ / ( AC ) / ( B )")])

    def test_outputs(self):
        console = Console()
        self.assert_outputs(console, [
            ("clear", "-"), ("remove", "-"), ("flip", "ok"), ("show", "_"), ("strip a p+ b p+ c q+ d q+ e", "2"),
            ("apply loop p loop q", "( B ) / ( D )"), ("show", "ace / ( B ) / ( D )"), ("back", "ok"),
            ("show", "a p+ b p+ c q+ d q+ e"), ("remove q", "loop q"), ("show", "a p+ b p+ ce / ( D )"),
            ("flip", "ok"), ("show", "EC p- B p- A / ( D )"), ("clear", "loop p"), ("show", "ECA / ( B ) / ( D )"),
            ("strip ab", "0"), ("show", "ab"), ("back", "ok"), ("show", "ECA / ( B ) / ( D )")])
        self.assertEqual(console.rings(), [Ring(["d"]), Ring(["B"])])
        console = self.console("strip a p+ b q- c q+ d p- e r+ _ s+ _ r+ _ s+ _")
        self.assert_outputs(console, [("apply flip p flip q", "-"), ("apply swap r s", "-"), ("show", "aDcBe")])

    def test_errors_change_nothing(self):
        console = self.console("strip _ p+ a q+ b p+ c q+ _ r+ d r+ _", "apply loop r", "add s a p+ b p+ c")
        before = console_told(console)
        for line, error, attributes in (
                ("strip a p+ b", InvalidWord, {"position": 3}), ("strip a p+ p+", InvalidWord, {"position": 2}),
                ("strip p+", InvalidWord, {"position": 0}), ("apply loop z", UnknownName, {"value": "z"}),
                ("apply swap p q loop r", UnknownName, {"value": "r"}),
                ("apply loop p", NotApplicable, {"op": ("loop", "p"), "blocker": ("between", "q")}),
                ("apply swap q p", NotApplicable, {"op": ("swap", "q", "p"), "blocker": ("order", "q", "p")}),
                ("remove p", Unreachable, {"ring": 1, "name": "q"}), ("remove r", UnknownName, {"value": "r"}),
                ("remove p q p", InvalidNames, {"value": ["p", "q", "p"]})):
            self.assertEqual(outcome(console.run, line), (error, attributes))
            self.assertEqual(console_told(console), before)
        for _ in range(2):
            self.assertEqual(console.run("back"), "ok")
        for _ in range(2):
            with self.assertRaises(NothingToUndo) as caught:
                console.run("back")
            self.assertIs(type(caught.exception), NothingToUndo)
        self.assertEqual((console.strip(), console.rings(), len(console)), (Strip([""]), [], 0))
        self.assertEqual(console.workspace().strips(), ["s"])

    def test_back_behind_every_kind_of_command(self):
        lines = ["strip a p+ b p+ c q+ d q- e", "flip", "apply loop p", "remove", "remove q", "clear", "strip _"]
        console, states = Console(), []
        for line in lines:
            states.append((console.strip(), console.rings()))
            console.run(line)
            for query in ("show", "counts", "users b", "add s _", "lock b s 0", "undo", "log"):
                console.run(query)
            self.assertEqual(len(console), len(states))
        for before in reversed(states):
            self.assertEqual(console.run("back"), "ok")
            self.assertEqual((console.strip(), console.rings()), before)
        self.assertEqual(len(console), 0)


class Queries(ConsoleCase):
    """Points 133 and 135."""

    def check_query(self, row, line):
        console = self.console("strip " + " ".join(map(item_text, row)), "flip", "flip")
        plain = PlainConsole()
        plain.strip, plain.before = Strip(row), [None] * 3
        before = console_told(console)
        found = outcome(console.run, line)
        self.assertEqual(found, outcome(plain.run, line), line)
        self.assertIn(type(found), (str, tuple))
        self.assertEqual(outcome(console.run, line), found)
        self.assertEqual(console_told(console), before)

    def test_against_the_functions(self):
        rng = random.Random(133)
        for row in mixed_strip_rows() + sample_strip_rows()[::6]:
            names = names_in(row) + ["yyy"]
            lines = ["show", "operations", "table", "components", "edges", "first", "last", "count_loops", "loops"]
            lines += ["counts"] * (len(names) < 10)
            for _ in range(3):
                some = " ".join(rng.sample(names, min(len(names), rng.randrange(4))))
                for word in ("rank", "result", "removable", "tree"):
                    lines.append(f"{word} {some}".rstrip(" "))
                lines.append(f"makes {rng.choice(names)} {rng.randrange(3)}")
                lines.append(f"blocker {rng.choice(('loop', 'flip'))} {rng.choice(names)}")
                lines.append("blocker swap {} {}".format(*rng.sample(names + ["yy"], 2)))
            for total in range(4):
                for kinds in itertools.combinations(["loop", "flip", "swap"], total):
                    lines.append(" ".join(["kinds", *kinds]))
            for line in lines:
                self.check_query(row, line)

    def test_nothing_to_return(self):
        self.assert_outputs(Console(), [
            ("show", "_"), ("operations", "-"), ("table", "-"), ("components", "-"), ("rank", "0"), ("result", "_"),
            ("edges", "-"), ("removable", "yes"), ("counts", "0 1"), ("first", "-"), ("last", "-"), ("loops", "-"),
            ("count_loops", "1"), ("tree", "operations"), ("kinds", "operations"), ("kinds swap", "operations")])

    def test_several_things(self):
        console = self.console("strip a p+ _ q+ c p+ d q+ e r+ f r- g s+ h s+ i")
        self.assert_outputs(console, [
            ("operations", "swap p q flip r loop s"), ("blocker loop p", "between q"), ("blocker flip p", "direct p"),
            ("blocker swap q p", "order q p"), ("blocker swap p q", "-"), ("blocker loop r", "inverted r"),
            ("blocker swap p s", "uncrossed p s"), ("table", "p 0100 / q 1000 / r 0010 / s 0000"),
            ("components", "p q / r / s"), ("rank", "0"), ("rank p", "0"), ("rank q p r", "3"),
            ("result p", "ad q+ e r+ f r- g s+ h s+ i / ( q+ c )"), ("result s r", "a p+ _ q+ c p+ d q+ eFgi / ( H )"),
            ("edges", "p 0 0 / q 0 0 / r 0 0 / s 0 1"), ("removable p", "no 1 q"), ("removable q p", "yes"),
            ("counts", "3 6"), ("first", "p q r s"), ("last", "p q r s"), ("loops", "s"), ("count_loops", "1"),
            ("tree", "blocked unreached 1"), ("tree p", "blocked cycle p"), ("makes s 1", "set s"),
            ("makes p 1", "blocked within 0"), ("kinds", "blocked inverted r"), ("kinds flip", "blocked ring 1"),
            ("kinds flip loop", "blocked component p q")])
        self.assertEqual(parse_strip(console.run("show")), console.strip())
        console = self.console("strip _ p+ _ q+ _ r+ _ p+ _ q+ _ r+ _")
        self.assert_outputs(console, [("loops", "p / q / r"), ("tree", "blocked unreached 1")])
        self.assertIn(console.run("tree p q"), ("blocked cycle p q", "blocked cycle q p"))
        console = self.console("strip _ p+ _ q+ _ r+ _ r+ _ q+ _ p+ _")
        self.assert_outputs(console, [
            ("makes q 1", "blocked cut 2 3"), ("makes r 1", "blocked beside 2 3"), ("makes p 3", "blocked beside 0 1"),
            ("makes q 2", "set p q r"), ("tree q p", "blocked unreached 3"),
            ("tree r q p", "operations loop r loop q loop p"), ("counts", "3 1"),
            ("kinds loop", "operations loop r loop q loop p"), ("loops", "p q r")])
        console = self.console("strip a p+ b q+ c p+ d q+ e")
        self.assert_outputs(console, [("loops", "-"), ("count_loops", "1"), ("tree", "operations swap p q"),
                                      ("kinds swap", "operations swap p q"), ("result q p", "adcbe")])

    def test_errors(self):
        console = self.console("strip a p+ b q+ c p+ d q+ e", "add s a p+ b p+ c", "apply swap p q", "back")
        before = console_told(console)
        for line, error, attributes in (
                ("blocker loop z", UnknownName, {"value": "z"}), ("rank z", UnknownName, {"value": "z"}),
                ("rank p p", InvalidNames, {"value": ["p", "p"]}), ("result z z", InvalidNames, {"value": ["z", "z"]}),
                ("result p y z", UnknownName, {"value": "y"}), ("removable q q", InvalidNames, {"value": ["q", "q"]}),
                ("removable z", UnknownName, {"value": "z"}), ("tree z", UnknownName, {"value": "z"}),
                ("makes z 0", UnknownName, {"value": "z"}), ("makes p 0", UnknownPart, {"value": 0}),
                ("makes p 1", UnknownPart, {"value": 1}), ("kinds Loop", InvalidKinds, {"value": ["Loop"]}),
                ("kinds loop loop", InvalidKinds, {"value": ["loop", "loop"]}),
                ("kinds loop 7 x+", InvalidKinds, {"value": ["loop", "7", "x+"]})):
            self.assertEqual(outcome(console.run, line), (error, attributes))
            self.assertEqual(console_told(console), before)


class Spaces(ConsoleCase):
    """Point 134."""

    def test_outputs(self):
        console = Console()
        self.assert_outputs(console, [
            ("layout", "-"), ("names", "-"), ("joined", "-"), ("unmatched", "-"), ("locks a", "-"), ("log", "users a"),
            ("users ann bob", "ok"), ("add s a p+ b q+ c", "ok"), ("add t _ q- d p+ e r+ _", "ok"),
            ("names", "p q r"), ("unmatched", "r"), ("lock bob t 3", "ok"), ("lock bob t 0", "ok"),
            ("locks bob", "t 0 / t 3"), ("unlock bob t 0", "ok"), ("locks bob", "t 3"), ("locks ann", "-"),
            ("layout", "s 0 s 1 a p+ b q+ c / t 0 t 1 _ q- d p+ e r+ _"), ("join bob p", "0"), ("join bob q", "0"),
            ("joined", "p q"), ("unjoin bob p", "0"), ("undo", "ok"),
            ("log", "users ann bob / add s a p+ b q+ c / add t _ q- d p+ e r+ _ / lock bob t 3 / lock bob t 0 / "
                    "unlock bob t 0 / join bob p / join bob q")])
        self.assertEqual(console.workspace().joined(), ["p", "q"])
        console = self.console("add s _ p+ a q+ b q+ c p+ _")
        self.assert_outputs(console, [("join a p", "1"), ("join a q", "1"), ("layout", "s 0 s 1 _ / ( AC ) / ( B )"),
                                      ("unjoin a p", "-1"), ("layout", "s 0 s 1 _ p+ ac p+ _ / ( B )")])

    def test_errors_change_nothing(self):
        console = self.console("users ann bob", "add s a p+ b p+ c q+ d", "lock bob s 0", "strip a p+ b p+ c", "flip")
        before = console_told(console)
        cases = [
            ("users", "InvalidNames", []), ("users a a", "InvalidNames", ["a", "a"]),
            ("users a b c d", "InvalidNames", ["a", "b", "c", "d"]), ("add s a p+", "InvalidWord", 2),
            ("add s p+ a", "InvalidWord", 0), ("add s _", "DuplicateName", "s"), ("add t _ p+ _", "Unpaired", "p"),
            ("lock dan s 0", "InvalidUser", "dan"), ("lock ann t 0", "UnknownStrip", "t"),
            ("lock ann s 9", "InvalidNumber", 9), ("lock ann s 0", "Locked", "bob"),
            ("unlock ann s 0", "UnknownName", ("s", 0)), ("join ann p", "Locked", "bob"),
            ("join ann q", "Unmatched", "q"), ("join ann z", "UnknownName", "z"), ("unjoin ann p", "UnknownName", "p"),
            ("locks dan", "InvalidUser", "dan"), ("load x", "InvalidStep", 0),
            ("load users a / add s", "InvalidStep", 1), ("load users a /", "InvalidStep", 0),
            ("load users a / add s _ / join a p", "InvalidStep", 2), ("load users a / / add s _", "InvalidStep", 1),
        ]
        for line, error, kept in cases:
            found = outcome(console.run, line)
            self.assertEqual((found[0].__name__, list(found[1].values())), (error, [kept]), line)
            self.assertEqual(console_told(console), before)
        console = Console()
        with self.assertRaises(NothingToUndo):
            console.run("undo")

    def test_histories(self):
        console = self.console("users ann bob", "add s a p+ b p+ c", "lock bob s 1", "unlock bob s 1", "join ann p")
        log = console.run("log")
        other = Console()
        self.assertEqual(other.run("load " + log), "ok")
        self.assertEqual(space_told(other.workspace()), space_told(console.workspace()))
        self.assertEqual(log.replace(" / ", "\n"), dump_history(console.workspace()))
        self.assert_outputs(other, [("undo", "ok"), ("undo", "ok"), ("locks bob", "s 1"), ("load users a", "ok"),
                                    ("log", "users a")])

    def test_separators_of_a_history(self):
        for text in ("users a / add s _ / join a p", "/", "users a /", "/ users a", "users a / / add s _",
                     "users a // add s _", "users a / / / add s _", "users a/add s _", "users a / add s _ /",
                     "users a / /"):
            found = outcome(Console().run, "load " + text)
            lines = "\n".join(text.split(" / "))
            expected = outcome(load_history, lines)
            if isinstance(expected, Workspace):
                self.assertEqual(found, "ok")
            else:
                self.assertEqual(found, expected)
                self.assertIs(found[0], InvalidStep)


class Runs(ConsoleCase):
    """Points 131 to 136 in long runs."""

    def test_any_commands(self):
        for number in range(40):
            rng = random.Random(number)
            console, plain = Console(), PlainConsole()
            for _ in range(60):
                line = sample_line(rng, console)
                self.assertTrue(is_command(line), line)
                before = console_told(console)
                expected = outcome(plain.run, line)
                found = outcome(console.run, line)
                self.assertEqual((line, found), (line, expected))
                self.assertEqual(console_told(console), plain.told())
                if type(found) is tuple or FORMS[line.split(" ")[0]] == "" and line not in (
                        "clear", "flip", "back", "undo"):
                    self.assertEqual(console_told(console), before)

    def test_run_all_against_run(self):
        for number in range(30):
            rng = random.Random(1000 + number)
            console = Console()
            for _ in range(8):
                lines, trial, outputs = [], console.clone(), []
                for _ in range(rng.randrange(12)):
                    line = sample_line(rng, trial)
                    found = outcome(trial.run, line)
                    if type(found) is str or rng.random() < 0.1:
                        lines.append(line)
                        outputs.append(found)
                before = console_told(console)
                wrong = [found for found in outputs if type(found) is tuple]
                given = rng.choice((lines, tuple(lines)))
                found = outcome(console.run_all, given) if rng.random() < 0.5 else outcome(
                    lambda: console.run_all(lines=given))
                if wrong:
                    self.assertEqual(found, wrong[0])
                    self.assertEqual(console_told(console), before)
                else:
                    self.assertEqual((found, type(found)), (outputs, list))
                    self.assertEqual(console_told(console), console_told(trial))

    def test_forty_commands_and_one_more(self):
        for console in (Console(), self.console("strip a p+ b p+ c")):
            before = console_told(console)
            self.assertEqual(console.run_all(["flip"] * 40), ["ok"] * 40)
            self.assertEqual(len(console), before["back"] + 40)
            for lines in (["flip"] * 41, ("flip",) * 41, [None] * 41):
                self.assert_raises(InvalidLine, lines, console.run_all, lines)
                self.assert_raises(InvalidLine, lines, console.run_all, lines=lines)
            self.assertEqual(console.run_all([]), [])
            self.assertEqual(console.run_all(()), [])
            self.assertEqual(len(console), before["back"] + 40)

    def test_each_command_fails_in_turn(self):
        lines = ["strip a p+ b p+ c", "flip", "users ann bob", "add s _ p+ _ p+ _", "join bob p", "apply loop p",
                 "back", "undo"]
        console = self.console("strip q", "add s _", "flip")
        before = console_told(console)
        for at in range(len(lines) + 1):
            for wrong, error in (("wrong", InvalidLine), ("apply loop z", UnknownName), ("join dan p", InvalidUser),
                                 (None, InvalidLine)):
                given = lines[:at] + [wrong] + lines[at:]
                with self.assertRaises(error) as caught:
                    console.run_all(given)
                self.assertIs(type(caught.exception), error)
                self.assertEqual(console_told(console), before)
        with self.assertRaises(InvalidLine) as caught:
            console.run_all(["flip", given := ["show"]])
        self.assertIs(caught.exception.value, given)
        self.assertEqual(console.run_all(lines), ["1", "ok", "ok", "ok", "1", "( B )", "ok", "ok"])

    def test_values_that_are_not_lists(self):
        console = self.console("strip a p+ b p+ c")
        for value in any_values() + ["show", {"show": 1}]:
            if type(value) not in (list, tuple):
                self.assert_raises(InvalidLine, value, console.run_all, value)
            elif len(value) > 0:
                self.assert_raises(InvalidLine, value[0], console.run_all, value)
        self.assertEqual(len(console), 1)

    def test_the_lines_are_unchanged(self):
        lines = ["strip a p+ b p+ c", "clear"]
        console = Console()
        outputs = console.run_all(lines)
        outputs.append("changed")
        self.assertEqual((lines, len(console)), (["strip a p+ b p+ c", "clear"], 2))


class Objects(ConsoleCase):
    """Point 136."""

    def test_clones_are_independent(self):
        for number in range(12):
            rng = random.Random(2000 + number)
            console = Console()
            for _ in range(25):
                twin = console.clone()
                self.assertIs(type(twin), Console)
                before = console_told(console)
                self.assertEqual(console_told(twin), before)
                line = sample_line(rng, console)
                first = outcome(twin.run, line)
                self.assertEqual(console_told(console), before)
                self.assertEqual(outcome(console.run, line), first)
                after = console_told(console)
                while len(twin) > 0:
                    self.assertEqual(twin.run("back"), "ok")
                while twin.workspace().actions():
                    twin.run("undo")
                self.assertEqual(console_told(console), after)
                self.assertEqual((twin.strip(), twin.rings()), (Strip([""]), []))

    def test_back_on_a_clone(self):
        console = self.console("strip a p+ b p+ c", "clear")
        twin = console.clone()
        self.assert_outputs(twin, [("back", "ok"), ("back", "ok"), ("strip x", "0")])
        self.assertEqual((len(twin), len(console), str(console.strip())), (1, 2, "ac"))
        self.assert_outputs(console, [("back", "ok"), ("show", "a p+ b p+ c")])

    def test_the_workspace_is_independent(self):
        console = self.console("add s a p+ b p+ c", "lock a s 0")
        space = console.workspace()
        self.assertIs(type(space), Workspace)
        before = console_told(console)
        space.join("a", "p")
        space.undo()
        space.undo()
        self.assertEqual(console_told(console), before)
        console.run("join a p")
        self.assertEqual((space.joined(), space.strips()), ([], ["s"]))

    def test_the_rings_in_the_order_in_which_they_were_cut_out(self):
        console = self.console("strip _ p+ z p+ _ q+ a q+ _ r+ m r+ _", "apply loop p", "apply loop r loop q")
        self.assertEqual([str(ring) for ring in console.rings()], ["( Z )", "( M )", "( A )"])
        self.assertEqual(console.run("show"), "_ / ( A ) / ( M ) / ( Z )")
        console.rings().clear()
        self.assertEqual(len(console.rings()), 3)
        self.assertIs(type(console.strip()), Strip)

    def test_large_strips(self):
        console = self.console("strip " + "ab" * 3000 + " p+ " + "c" * 3000 + " p+ _")
        self.assertEqual(console.run("clear"), "loop p")
        self.assertEqual(console.run("show"), "ab" * 3000 + " / ( " + "C" * 3000 + " )")
