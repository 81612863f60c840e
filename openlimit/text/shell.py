"""A shell: a desk that is worked at by lines."""

from openlimit.desk.desk import Desk, StrictDesk
from openlimit.desk.edits import is_name
from openlimit.errors import InvalidCommand, ParseError, Unlimited
from openlimit.machines.machines import is_alphabet
from openlimit.machines.needs import is_word
from openlimit.patterns.rewriting import tidied
from openlimit.text.formats import edit_text, machine_text, number_in, parse_edit
from openlimit.verdicts.bounds import rate

# For each command what its parts are, behind its word.
PARTS = {
    "desk": ("alphabet",),
    "strict": ("alphabet",),
    "edit": ("edits",),
    "undo": ("number",),
    "redo": ("number",),
    "room": ("number",),
    "list": (),
    "need": ("name", "word"),
    "tidy": ("name",),
    "rate": ("name", "name", "number"),
    "status": ("number",),
    "broken": (),
    "machine": ("name",),
}
NEW = ("desk", "strict")


def words_of(line):
    """Return the list of the words of the line; InvalidCommand if it is not a command with as many words."""
    if not isinstance(line, str):
        raise InvalidCommand("a command is a string")
    words = line.split(" ")
    if words[0] not in PARTS:
        raise InvalidCommand("this is not the word of a command")
    if words[0] == "edit" and len(words) > 1:
        return ["edit", line[len("edit "):]]
    if len(words) != len(PARTS[words[0]]) + 1:
        raise InvalidCommand("this command has another number of words")
    return words


def check_part(is_right):
    """Raise ParseError if the part is not as it must be."""
    if not is_right:
        raise ParseError("a part of the command is not as it must be")


def part_of(kind, part, alphabet):
    """Return the value of the part; a word is one of the alphabet."""
    if kind == "number":
        return number_in(part)
    if kind == "edits":
        return [parse_edit(text) for text in part.split("; ")]
    if kind == "alphabet":
        check_part(is_alphabet(part))
    elif kind == "name":
        check_part(is_name(part))
    elif part == "-":
        return ""
    else:
        check_part(part != "" and is_word(alphabet, part))
    return part


def paper_text(paper):
    """Return the text of a verdict that shows that a pattern is not bounded."""
    if paper[0] == "never":
        return " ".join(["never", paper[1] or "-"])
    return "grows"


def status_text(status):
    """Return the text of the status of a promise."""
    if status[0] in ("kept", "over"):
        return status[0] if status[1] is None else f"{status[0]} {status[1]}"
    return paper_text(status)


def edited(desk, edits):
    """Make the edits as one group."""
    desk.apply(*edits)
    return "ok"


def undone(desk, many):
    """Take the last groups back."""
    desk.undo(many=many)
    return "ok"


def redone(desk, many):
    """Make the groups again that were taken back last."""
    desk.redo(many=many)
    return "ok"


def roomed(desk, number):
    """Limit closures to so many tuples."""
    desk.set_room(number)
    return "ok"


def listing(desk):
    """Return the text of all patterns and promises."""
    patterns = desk.patterns
    lines = [f"{name} = {patterns[name]}" for name in patterns]
    for promise in desk.promises:
        lines.append(edit_text(("promise", *promise))[len("promise "):])
    return "; ".join(lines) or "-"


def need_text(desk, name, word):
    """Return the text of the need of the word."""
    least = desk(name, word)
    return "none" if least is None else str(least)


def tidy_text(desk, name):
    """Return the text of the tidied pattern."""
    return str(tidied(desk[name]))


def machine_at(desk, name):
    """Return the machine of the pattern for the alphabet of the desk."""
    pattern = desk[name]
    return pattern.machine_for(desk.alphabet)


def rate_text(desk, first, second, cap):
    """Return the text of the rate of one pattern over another one, or of what shows that there is none."""
    one, other = machine_at(desk, first), machine_at(desk, second)
    try:
        return str(rate(one, other, cap, most=desk.room))
    except Unlimited as error:
        return paper_text(error.paper)


def promise_text(desk, index):
    """Return the text of the status of the promise."""
    return status_text(desk.status(index))


def broken_text(desk):
    """Return the text of the numbers of the promises that are not kept."""
    return " ".join([str(index) for index, _ in desk.broken()]) or "-"


def lines_text(desk, name):
    """Return the text of the machine of the pattern in one line."""
    return "; ".join(machine_text(machine_at(desk, name)).split("\n"))


ACTIONS = {
    "edit": edited,
    "undo": undone,
    "redo": redone,
    "room": roomed,
    "list": listing,
    "need": need_text,
    "tidy": tidy_text,
    "rate": rate_text,
    "status": promise_text,
    "broken": broken_text,
    "machine": lines_text,
}


class Shell:
    """A desk, none at first, and the commands that worked at it."""

    def __init__(self):
        self._desk = None
        self._lines = []

    def run(self, line):
        """Run the command, and return its result."""
        words = words_of(line)
        if self._desk is None and words[0] not in NEW:
            raise InvalidCommand("there is no desk")
        alphabet = "" if self._desk is None else self._desk.alphabet
        parts = [part_of(kind, part, alphabet) for kind, part in zip(PARTS[words[0]], words[1:])]
        if words[0] in NEW:
            self._desk = StrictDesk(parts[0]) if words[0] == "strict" else Desk(parts[0])
            found = "ok"
        else:
            action = ACTIONS[words[0]]
            found = action(self._desk, *parts)
        self._lines.append(line)
        return found

    def run_all(self, *lines):
        """Run the commands in order, and return the tuple of their results."""
        return tuple([self.run(line) for line in lines])

    def log(self):
        """Return the tuple of the commands that raised no error."""
        return tuple(self._lines)

    def copied(self):
        """Return an independent desk that is equal to the desk of the shell and has its room, or None."""
        if self._desk is None:
            return None
        return self._desk.copied()

    def __len__(self):
        return len(self._lines)
