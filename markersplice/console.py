"""A console that runs commands on a strip, on the rings cut out of it, and on a workspace."""

from markersplice.answers import DONE, QUERIES, answer, parts_line, sentence
from markersplice.changes import CHANGES, changed_strip
from markersplice.commands import read_command
from markersplice.errors import InvalidLine, NothingToUndo
from markersplice.history import load_history
from markersplice.spaces import space_output
from markersplice.strips import Strip
from markersplice.texts import parse_strip
from markersplice.workspace import Workspace

MOST_LINES = 40


class Console:
    """A strip, the rings that were cut out of it, and a workspace, with commands that change or show them."""

    def __init__(self):
        self._strip = Strip([""])
        self._rings = []
        self._space = Workspace(["a"])
        # The strip and the rings before each command that can be taken back.
        self._before = []

    def run(self, line):
        """Run a command and return its output."""
        word, arguments = read_command(line)
        if word in QUERIES:
            return answer(word, self._strip, arguments)
        if word == "show":
            return parts_line(self._strip.row(), self._rings)
        if word == "strip":
            strip = parse_strip(arguments[0])
            return self._change(strip, [], sentence(len(strip)))
        if word in CHANGES:
            strip, cut, output = changed_strip(word, self._strip, arguments)
            return self._change(strip, self._rings + cut, output)
        if word == "back":
            return self._go_back()
        if word == "users":
            return self._put_workspace(Workspace(arguments[0]))
        if word == "load":
            return self._put_workspace(load_history(arguments[0].replace(" / ", "\n")))
        return space_output(word, self._space, arguments)

    def run_all(self, lines):
        """Run commands in order and return the list of their outputs; if one fails, nothing changes."""
        if not isinstance(lines, (list, tuple)) or len(lines) > MOST_LINES:
            raise InvalidLine(lines)
        # They run in a clone, so that an error leaves this console as it is.
        trial = self.clone()
        outputs = [trial.run(line) for line in lines]
        self._strip, self._rings, self._space, self._before = trial._strip, trial._rings, trial._space, trial._before
        return outputs

    def strip(self):
        """Return the strip."""
        return self._strip

    def rings(self):
        """Return the rings, in the order in which they were cut out."""
        return list(self._rings)

    def workspace(self):
        """Return a clone of the workspace."""
        return self._space.clone()

    def clone(self):
        """Return an independent console in the same state."""
        twin = Console()
        twin._strip, twin._rings, twin._space = self._strip, list(self._rings), self._space.clone()
        twin._before = list(self._before)
        return twin

    def _change(self, strip, rings, output):
        """Replace the strip and the rings, keep the old ones, and return the output."""
        self._before.append((self._strip, self._rings))
        self._strip, self._rings = strip, rings
        return output

    def _go_back(self):
        """Restore the strip and the rings before the last command that changed them."""
        if len(self._before) == 0:
            raise NothingToUndo()
        self._strip, self._rings = self._before.pop()
        return DONE

    def _put_workspace(self, space):
        self._space = space
        return DONE

    def __len__(self):
        return len(self._before)
