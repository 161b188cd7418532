"""Histories of workspaces: writing and reading them, shortening them, and going back in them."""

from markersplice.errors import Blocked, InvalidNumber, InvalidStep, InvalidText, InvalidWorkspace, Missing, StripError
from markersplice.rows import is_integer
from markersplice.texts import parse_row, row_text
from markersplice.wording import is_number_word
from markersplice.workspace import Workspace


def dump_history(workspace):
    """Return the history of a workspace: its users, then the actions that have not been reverted."""
    _check_workspace(workspace)
    lines = [" ".join(["users", *workspace.users()])]
    lines.extend([" ".join(_action_words(action)) for action in workspace.actions()])
    return "\n".join(lines)


def load_history(text):
    """Return a new workspace with the users of a history, in which its actions were done."""
    if not isinstance(text, str):
        raise InvalidText(text)
    lines = [line.split(" ") for line in text.split("\n")]
    workspace = _new_workspace(lines[0])
    if workspace is None:
        raise InvalidStep(0)
    for index, words in enumerate(lines[1:], start=1):
        if not _is_done(workspace, words):
            raise InvalidStep(index)
    return workspace


def state_after(workspace, total):
    """Return a new workspace as this one was after so many of its actions."""
    _check_workspace(workspace)
    done = len(workspace.actions())
    if not is_integer(total, 0, done):
        raise InvalidNumber(total)
    earlier = workspace.clone()
    for _ in range(done - total):
        earlier.undo()
    return earlier


def shortest_actions(workspace):
    """Return a shortest list of actions that turn a new workspace into an equal one."""
    _check_workspace(workspace)
    first = workspace.users()[0]
    locks = workspace.locks()
    actions = [("add", strip, workspace.row_of(strip)) for strip in workspace.strips()]
    actions.extend([("join", first, name) for name in workspace.joined()])
    actions.extend([("lock", user, strip, number) for user in locks for strip, number in locks[user]])
    return actions


def can_exchange(workspace, number):
    """Return True if the action with this index and the next one, exchanged, lead to an equal workspace."""
    _check_workspace(workspace)
    actions = workspace.actions()
    if not is_integer(number, 0, len(actions) - 2):
        raise InvalidNumber(number)
    # What comes before the two actions is done as it was, so it is accepted.
    other = state_after(workspace, number)
    for action in [actions[number + 1], actions[number], *actions[number + 2:]]:
        if not _is_accepted(other, action):
            return False
    return other == workspace


def _check_workspace(value):
    if not isinstance(value, Workspace):
        raise InvalidWorkspace(value)


def _action_words(action):
    """Return the words of the line that writes an action."""
    if action[0] == "add":
        _, strip, row = action
        return ["add", strip, row_text(row)]
    return [str(item) for item in action]


def _new_workspace(words):
    """Return an empty workspace with the users of a history's first line, or None if the line is not valid."""
    if words[0] != "users":
        return None
    try:
        return Workspace(words[1:])
    except StripError:
        return None


def _is_done(workspace, words):
    """Do the action of a history's line, and return False if the line is not valid in its place."""
    try:
        action = _action_of(words)
    except StripError:
        return False
    return action is not None and _is_accepted(workspace, action)


def _is_accepted(workspace, action):
    """Do an action, and return False if the workspace rejects it."""
    try:
        workspace.perform(action)
    except (StripError, Missing, Blocked):
        return False
    return True


def _action_of(words):
    """Return the action that the words of a line write, or None if they have another form."""
    word = words[0]
    if word == "add" and len(words) > 2:
        return ("add", words[1], parse_row(" ".join(words[2:])))
    if word in ("lock", "unlock") and len(words) == 4 and is_number_word(words[3]):
        return (word, words[1], words[2], int(words[3]))
    if word in ("join", "unjoin") and len(words) == 3:
        return (word, words[1], words[2])
    return None
