"""Points 31 to 36, and what 7 to 9 say of texts."""

import copy
import itertools
import random
import re

from markersplice.errors import InvalidMarker, InvalidPiece, InvalidRow, InvalidText
from markersplice.rows import clean_row
from markersplice.strips import Ring, Strip
from markersplice.texts import (
    complete_strip, parse_parts, parse_ring, parse_row, parse_strip, parts_text, ring_text, row_text,
)
from support import (
    SAMPLE_ROW, Case, any_values, flipped_items, item_text, looks_like_marker, looks_like_piece, name_list,
    names_in, other_names, reading_text, renamed_row, ring_readings, sample_row, sample_rows, sample_strip_rows,
)

P = ("p", True)
Q = ("q", False)
PARSERS = (parse_row, parse_strip, parse_ring)

# The words of a text, each followed by a semicolon. The second pattern of each pair fits the words
# with which a text can begin, the first one those of a whole text.
PIECE = "([a-zA-Z]+|_);"
MARKER = "[a-z]{1,4}[+-];"
ROW = (f"{PIECE}({MARKER}{PIECE})*", f"({PIECE}{MARKER})*({PIECE})?")
RING = (fr"\(;(({PIECE})|({MARKER}{PIECE})+)\);",
        fr"(\(;(({PIECE}(\);)?)|({MARKER}{PIECE})+({MARKER}|\);)?|{MARKER})?)?")


def fits(pattern, words):
    return re.fullmatch(pattern, "".join(word + ";" for word in words)) is not None and ";" not in "".join(words)


def counts(words):
    names = [word[:-1] for word in words[1::2]]
    return {name: names.count(name) for name in names}


def is_whole(parser, words):
    if parser is parse_strip:
        return fits(ROW[0], words) and len(counts(words)) <= 12 and set(counts(words).values()) <= {2}
    return fits((ROW if parser is parse_row else RING)[0], words)


def can_continue(parser, words):
    if parser is parse_strip:
        return fits(ROW[1], words) and len(counts(words)) <= 12 and set(counts(words).values()) <= {1, 2}
    return fits((ROW if parser is parse_row else RING)[1], words)


def fault(parser, words):
    """The index that 33 gives for words, or None if they are a whole text."""
    for index in range(len(words)):
        if not can_continue(parser, words[:index + 1]):
            return index
    return None if is_whole(parser, words) else len(words)


def text_of(row):
    return " ".join(item_text(item) for item in row)


def readings():
    """Readings of rings of many shapes."""
    rng = random.Random(32)
    found = [[""], ["abc"], ["aB", Q, "", P], ["", P], ["b", P, "A", Q], ["p", P, "p", P]]
    for markers in (1, 2, 2, 3, 5, 12, 49):
        for names in (["p"], ["p", "q"], name_list(14)):
            found.append(sample_row(rng, markers, names)[:-1])
    return found


def changed_words(rng, words):
    """Lists of words that differ from the given ones by one change."""
    strange = ["", "_", "a", "aB", "p+", "p-", "zz+", "abcde+", "P+", "+", "-", "p", "p*", "p+-", "p-+", "(", ")",
               "()", "__", "_a", "a1", "1", "a\n", "\n", "p\n+", "p+\n", "\np+", "a\nb", "a,", "^", "pq+r", "=", "a_"]
    at = rng.randrange(len(words) + 1)
    new = rng.choice(strange + words)
    found = [words[:at] + [new] + words[at:], words + [new], words[:at], words + words]
    if at < len(words):
        other = rng.randrange(len(words))
        exchanged = list(words)
        exchanged[at], exchanged[other] = words[other], words[at]
        found += [words[:at] + words[at + 1:], words[:at] + [new] + words[at + 1:],
                  words[:at + 1] + words[at:], exchanged]
    return [changed for changed in found if changed]


class Writing(Case):
    def test_the_examples(self):
        self.assertEqual(row_text(["aB", P, "", Q, "c", ("p", False), "", Q, "Dd"]), "aB p+ _ q- c p- _ q- Dd")
        self.assertEqual(ring_text(["aB", Q, "", P]), "( p+ aB q- _ )")
        self.assertEqual(ring_text(["abc"]), "( abc )")
        self.assertEqual(ring_text([""]), "( _ )")

    def test_rows(self):
        for row in sample_rows() + sample_strip_rows():
            self.assertEqual(row_text(row), text_of(row))
            self.assertEqual(row_text(tuple(row)), text_of(row))
            self.assertEqual(row_text(row=row), text_of(row))

    def test_strips(self):
        for row in sample_strip_rows():
            self.assertEqual(str(Strip(row)), row_text(row))

    def test_this_very_reading(self):
        for start in readings():
            for row in ring_readings(start)[:12]:
                self.assertEqual(ring_text(row), reading_text(row))
                self.assertEqual(ring_text(tuple(row)), reading_text(row))
                self.assertEqual(ring_text(row=row), reading_text(row))

    def test_the_errors_of_rows(self):
        for value in any_values():
            if type(value) not in (list, tuple) or len(value) % 2 == 0:
                self.assert_raises(InvalidRow, value, row_text, value)
                self.assert_raises(InvalidRow, value, row_text, row=value)
            if not looks_like_piece(value):
                self.assert_raises(InvalidPiece, value, row_text, [value])
                self.assert_raises(InvalidPiece, value, row_text, ("a", P, value, value, 0))
            if not looks_like_marker(value):
                self.assert_raises(InvalidMarker, value, row_text, ["a", value, 0])
                self.assert_raises(InvalidMarker, value, row_text, ("a", P, "b", value, "c"))

    def test_the_errors_of_rings(self):
        for value in any_values():
            if type(value) not in (list, tuple) or len(value) not in (1, 2):
                self.assert_raises(InvalidRow, value, ring_text, value)
                self.assert_raises(InvalidRow, value, ring_text, row=value)
            if not looks_like_piece(value):
                self.assert_raises(InvalidPiece, value, ring_text, [value])
                self.assert_raises(InvalidPiece, value, ring_text, ("a", P, value, value))
            if not looks_like_marker(value):
                self.assert_raises(InvalidMarker, value, ring_text, ["a", value])
                self.assert_raises(InvalidMarker, value, ring_text, ("a", value, 0, 1))
        for row in ([], (), ["a", P, "b"], ["a", 1, 2, 3, 4]):
            self.assert_raises(InvalidRow, row, ring_text, row)

    def test_arguments_are_not_modified(self):
        row, ring = list(SAMPLE_ROW), ["b", P, "A", Q]
        rings = [Ring(ring), Ring(["a"])]
        kept = copy.deepcopy([row, ring]) + [list(rings)]
        row_text(row)
        ring_text(ring)
        parts_text(row, rings)
        self.assertEqual([row, ring, rings], kept)


class Reading(Case):
    def test_rows_are_read_back(self):
        for row in sample_rows() + sample_strip_rows():
            found = parse_row(row_text(row))
            self.assertEqual(found, row)
            self.assertIs(type(found), list)
            self.assertTrue(all(type(item[1]) is bool for item in found[1::2]))
            self.assertEqual(parse_row(text=row_text(row)), row)

    def test_strips_are_read_back(self):
        for row in sample_strip_rows():
            for strip in (Strip(row), Strip(row).flipped()):
                found = parse_strip(str(strip))
                self.assertIs(type(found), Strip)
                self.assertEqual(found, strip)
                self.assertEqual(parse_strip(text=row_text(strip.row())).row(), strip.row())

    def test_rings_are_read_back_from_every_reading(self):
        for row in readings():
            ring = Ring(row)
            self.assertEqual(parse_ring(str(ring)), ring)
            for reading in ring_readings(row)[:30]:
                found = parse_ring(ring_text(reading))
                self.assertIs(type(found), Ring)
                self.assertEqual(found, ring)
                self.assertEqual(found.row(), ring.row())
            self.assertEqual(parse_ring(text=ring_text(row)), ring)

    def test_any_length(self):
        row = clean_row([""] + [P, "ab" * 500] * 60) + [("q", True), "c" * 9000]
        self.assertEqual(parse_row(row_text(row)), row)
        row = ["a"] + [P, "b"] * 300
        self.assertEqual(parse_row(row_text(row)), row)
        self.assertEqual(parse_ring(ring_text(row[:-1])), Ring(row[:-1]))
        row = ["x" * 5000, P, "", P, "y" * 5000]
        self.assertEqual(parse_strip(row_text(row)).row(), row)

    def test_a_new_list_each_time(self):
        first = parse_row("a p+ b")
        first.append("changed")
        self.assertEqual(parse_row("a p+ b"), ["a", P, "b"])
        row, rings = parse_parts("a p+ b\n( c )")
        row.clear()
        rings.clear()
        self.assertEqual(parse_parts("a p+ b\n( c )"), (["a", P, "b"], [Ring(["c"])]))

    def test_values_that_are_no_strings(self):
        for value in any_values():
            if type(value) is not str:
                for call in PARSERS + (complete_strip, parse_parts):
                    self.assert_raises(InvalidText, value, call, value)
                    self.assert_raises(InvalidText, value, call, text=value)

    def test_with_other_names(self):
        rng = random.Random(9)
        for row in sample_strip_rows()[::5]:
            new = other_names(rng, names_in(row))
            other = renamed_row(row, new)
            self.assertEqual(renamed_row(parse_strip(row_text(row)).row(), new), parse_strip(row_text(other)).row())

    def test_flipped_strips(self):
        for row in sample_strip_rows():
            self.assertEqual(row_text(flipped_items(row)), str(Strip(row).flipped()))


class Faults(Case):
    def check(self, words):
        """Read words by each parser, and ask for what the patterns say."""
        for parser in PARSERS:
            text = " ".join(words)
            expected = fault(parser, words)
            if expected is None:
                parser(text)
            else:
                self.assert_word(expected, parser, text)
            if parser is parse_strip:
                self.check_completion(words)

    def check_completion(self, words):
        """Point 34: a strip has at least four words for each name, and one more."""
        found = complete_strip(" ".join(words))
        if not can_continue(parse_strip, words):
            self.assertIsNone(found, words)
            return
        self.assertIs(type(found), Strip)
        new = str(found).split(" ")
        self.assertEqual(new[:len(words)], words)
        self.assertEqual(len(new), 4 * len(counts(words)) + 1, words)

    def test_rows(self):
        cases = [
            ("", 0), (" ", 0), ("a ", 1), (" a", 0), ("a  p+ b", 1), ("a p+", 2), ("a p+ ", 2), ("a p+ b q-", 4),
            ("p+", 0), ("a b", 1), ("a p+ q+", 2), ("a p+ b c", 3), ("a p+ b\n", 2), ("a\np+ b", 0), ("a abcde+", 1),
            ("a +", 1), ("a P+", 1), ("a p", 1), ("a p*", 1), ("a1", 0), ("__", 0), ("a _", 1), ("( a )", 0),
            ("a p+ b p+ ( c", 4), ("a p+ b p+ c p+", 6),
        ]
        for text, position in cases:
            self.assert_word(position, parse_row, text)

    def test_strips(self):
        cases = [
            ("", 0), ("a p+", 2), ("a p+ b", 3), ("a p+ b p+", 4), ("a p+ b p- c p+ d", 5), ("a p+ b q+ c p+ d", 7),
            ("a p+ b q+ c p+ d p- e q- f", 7), ("a p+ b p+ p+", 4), ("a p+ b p+ c p", 5),
        ]
        for text, position in cases:
            self.assert_word(position, parse_strip, text)

    def test_the_thirteenth_name(self):
        names = name_list(13)
        twelve = " ".join(f"a {name}+" for name in names[:12])
        self.assert_word(24, parse_strip, twelve)
        self.assert_word(25, parse_strip, twelve + " b")
        self.assert_word(25, parse_strip, f"{twelve} b {names[12]}+ c")
        self.assert_word(25, parse_strip, f"{twelve} b {names[12]}+ c ???")
        whole = " ".join([twelve] + [f"b {name}-" for name in names[:12]])
        self.assertEqual(len(parse_strip(whole + " c")), 12)
        self.assert_word(49, parse_strip, f"{whole} c {names[12]}+")
        self.assert_word(49, parse_strip, f"{whole} c {names[0]}+ d")
        self.assertIsNone(complete_strip(f"{whole} c {names[12]}+"))
        self.assertEqual(str(complete_strip(whole)), whole + " _")
        self.assertEqual(len(complete_strip(twelve)), 12)
        self.assertEqual(len(parse_row(f"{whole} c {names[12]}+ d")), 51)

    def test_rings(self):
        cases = [
            ("", 0), ("(", 1), ("a", 0), ("( ", 1), ("( )", 1), ("( a", 2), ("( a p+ )", 2), ("( a b )", 2),
            ("( p+", 2),
            ("( p+ )", 2), ("( p+ q+ a )", 2), ("( p+ a", 3), ("( p+ a b )", 3), ("( p+ a q-", 4), ("( p+ a )\n", 3),
            ("( p+ a ) ", 4), ("( p+ a ) )", 4), ("( a ) b", 3), ("( a ) p+", 3), ("( ( a )", 1), (") a (", 0),
            ("(a)", 0),
        ]
        for text, position in cases:
            self.assert_word(position, parse_ring, text)
        self.assertEqual(len(parse_ring("( " + "p+ _ " * 40 + ")")), 40)

    def test_all_short_texts(self):
        words = ["a", "_", "p+", "p-", "q+", "(", ")", ""]
        for length in range(1, 5):
            for found in itertools.product(words, repeat=length):
                self.check(list(found))

    def test_one_change(self):
        rng = random.Random(33)
        rows = sample_rows()[::3] + sample_strip_rows()[::3]
        texts = [text_of(row) for row in rows] + [reading_text(row) for row in readings()]
        for text in texts:
            for words in changed_words(rng, text.split(" ")) + changed_words(rng, text.split(" ")):
                self.check(words)

    def test_cut_after_each_word(self):
        texts = [text_of(row) for row in sample_strip_rows()[::4]] + [reading_text(row) for row in readings()[::2]]
        for text in texts:
            words = text.split(" ")
            for length in range(1, len(words) + 1):
                self.check(words[:length])

    def test_extra_blanks_and_line_feeds(self):
        for text in ("aB p+ _ q- c p- _ q- Dd", "( p+ aB q- _ )", "( abc )"):
            for at in range(len(text) + 1):
                self.check((text[:at] + " " + text[at:]).split(" "))
                self.check((text[:at] + "\n" + text[at:]).split(" "))


class Completing(Case):
    def test_cases(self):
        self.assertIsNone(complete_strip(""))
        self.assertIsNone(complete_strip("a p+ "))
        self.assertIsNone(complete_strip("a p+ b p+ c p+"))
        self.assertIsNone(complete_strip("a p"))
        self.assertEqual(complete_strip("a"), Strip(["a"]))
        self.assertEqual(complete_strip(text="_"), Strip([""]))
        self.assertEqual(complete_strip("a p+ b p- c"), Strip(["a", P, "b", ("p", False), "c"]))
        self.assertEqual(str(complete_strip("a p+ b p- "[:-1])), "a p+ b p- _")
        self.assertEqual(len(str(complete_strip("a p+ b q- c")).split(" ")), 9)

    def test_equal_calls(self):
        for text in ("a p+ b q- c r+", "a", "a p+"):
            self.assertEqual(complete_strip(text), complete_strip(text))


def samples_of_parts():
    """Tuples of a row and of some rings, equal ones among them."""
    rng = random.Random(35)
    rows, rings = sample_rows(), [Ring(row) for row in readings()]
    for total in (0, 0, 1, 1, 2, 3, 5, 8, 30):
        for _ in range(3):
            chosen = [rings[rng.randrange(len(rings))] for _ in range(total)]
            yield rows[rng.randrange(len(rows))], chosen + chosen[:2]


class Parts(Case):
    def test_writing(self):
        self.assertEqual(parts_text(["a"], []), "a")
        rings = [Ring(["b", P, "A", Q]), Ring(["abc"]), Ring([""]), Ring(["cab"])]
        self.assertEqual(parts_text([""], rings), "_\n( ACB )\n( ACB )\n( _ )\n( p+ A q- b )")
        for row, rings in samples_of_parts():
            expected = "\n".join([text_of(row)] + sorted(reading_text(ring.row()) for ring in rings))
            self.assertEqual(parts_text(row, rings), expected)
            self.assertEqual(parts_text(tuple(row), tuple(rings)), expected)
            self.assertEqual(parts_text(row=row, rings=rings[::-1]), expected)

    def test_reading_back(self):
        for row, rings in samples_of_parts():
            found = parse_parts(parts_text(row, rings))
            self.assertIs(type(found), tuple)
            self.assertEqual([type(part) for part in found], [list, list])
            self.assertEqual(found[0], row)
            self.assertEqual(found[1], sorted(rings, key=str))
            self.assertEqual(parse_parts(text=parts_text(row, rings)), found)

    def test_any_readings_in_any_order(self):
        rng = random.Random(36)
        for row, rings in samples_of_parts():
            lines = [ring_text(rng.choice(ring_readings(ring.row()))) for ring in rings]
            self.assertEqual(parse_parts("\n".join([text_of(row)] + lines)), (row, rings))

    def test_the_errors_of_writing(self):
        for value in any_values():
            if type(value) not in (list, tuple) or len(value) % 2 == 0:
                self.assert_raises(InvalidRow, value, parts_text, value, 0)
                self.assert_raises(InvalidRow, value, parts_text, rings=[], row=value)
            if not (type(value) in (list, tuple) and all(type(item) is Ring for item in value)):
                self.assert_raises(InvalidRow, value, parts_text, ["a"], value)
                self.assert_raises(InvalidRow, value, parts_text, row=("a",), rings=value)
            if type(value) is not Ring:
                for rings in ([value], (Ring(["a"]), value), [Ring(["a"]), value, Ring(["b"])]):
                    self.assert_raises(InvalidRow, rings, parts_text, ["a"], rings)
        item = [1]
        self.assert_raises(InvalidPiece, item, parts_text, ["a", P, item], 0)
        self.assert_raises(InvalidMarker, item, parts_text, ["a", item, "b"], [0])

    def test_faults(self):
        cases = [
            ("", (0, 0)), ("\n", (0, 0)), ("a\n", (1, 0)), ("a\n\n( a )", (1, 0)), ("a\n( a )\n", (2, 0)),
            ("a p+\n( a )", (0, 2)), ("a p+\nb", (0, 2)), ("a\n( a )\n( b", (2, 2)), ("a\nb", (1, 0)),
            ("( a )\na", (0, 0)),
            ("a b\n( a", (0, 1)), ("a\n( p+ q+ )\nb", (1, 2)), ("a\n( a ) ( b )", (1, 3)), ("a\n ( a )", (1, 0)),
            ("a \n( a )", (0, 1)), ("a\n( a ) ", (1, 3)), ("a p+ b p+ c p+\n", (0, 6)),
        ]
        for text, position in cases:
            self.assert_word(position, parse_parts, text)

    def test_one_changed_line(self):
        rng = random.Random(37)
        for row, rings in samples_of_parts():
            lines = parts_text(row, rings).split("\n")
            at = rng.randrange(len(lines))
            for words in changed_words(rng, lines[at].split(" ")):
                self.check(lines[:at] + [" ".join(words)] + lines[at + 1:])
            self.check(lines[:at] + lines[at + 1:] or ["a"])
            self.check(lines[:at] + [""] + lines[at:])
            self.check(lines + [""])
            self.check(lines + [lines[at]])
            self.check(lines[at:] + lines[:at])

    def check(self, lines):
        lines = "\n".join(lines).split("\n")
        faults = [fault(parse_ring if number else parse_row, line.split(" ")) for number, line in enumerate(lines)]
        wrong = [(number, position) for number, position in enumerate(faults) if position is not None]
        if wrong:
            self.assert_word(wrong[0], parse_parts, "\n".join(lines))
        else:
            expected = (parse_row(lines[0]), [parse_ring(line) for line in lines[1:]])
            self.assertEqual(parse_parts("\n".join(lines)), expected)
