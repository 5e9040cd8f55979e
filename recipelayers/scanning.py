"""How texts of trees, layers, steps and recipes are read: line by line, each from its first sign to its last."""

from recipelayers.errors import NoText
from recipelayers.forms import entry_form, step_form, turned
from recipelayers.kinds import LETTERS

MOST_NAMES = 20
MOST_MADE = 20
DIGITS = "01234567"
ESCAPES = {"\\": "\\", '"': '"', "n": "\n"}


class Scanner:
    """A line, and how far it has been read. What may not stand there makes it raise NoText."""

    def __init__(self, line):
        self._line = line
        self._at = 0

    def peek(self):
        """The next sign, or the empty string at the end."""
        return self._line[self._at:self._at + 1]

    def sign(self):
        """Read the next sign."""
        sign = self.peek()
        if sign == "":
            raise NoText()
        self._at = self._at + 1
        return sign

    def takes(self, sign):
        """Whether the next sign is this one; it is read then."""
        if self.peek() != sign:
            return False
        self._at = self._at + 1
        return True

    def skip(self, sign):
        """Read the next sign, which has to be this one."""
        if not self.takes(sign):
            raise NoText()

    def letters(self):
        """Read all letters up to the next other sign."""
        begin = self._at
        while self._at < len(self._line) and self._line[self._at] in LETTERS:
            self._at = self._at + 1
        return self._line[begin:self._at]

    def finish(self):
        """Nothing must be left to read."""
        if self.peek() != "":
            raise NoText()


def scanned_rows(text):
    """The rows that a text tells, any value, which may be none that a tree or a layer has."""
    lines = scanned_lines(text)
    return [scanned_row(line) for line in lines] if lines != [""] else []


def scanned_stages(text):
    """The stages that a text tells, any value, which may be none that a recipe has."""
    stages = []
    for line in scanned_lines(text):
        scanner = Scanner(line)
        kind = scanner.letters()
        if kind == "stage":
            name, start = scan_heading(scanner)
            stages.append((name, start, []))
        elif len(stages) > 0:
            stages[-1][2].append(scan_form(scanner, kind, step_form(kind)))
        else:
            raise NoText()
        scanner.finish()
    return stages


def scanned_step(text):
    """The step that a text tells, any value, which may be none."""
    lines = scanned_lines(text)
    if len(lines) > 1:
        raise NoText()
    scanner = Scanner(lines[0])
    kind = scanner.letters()
    step = scan_form(scanner, kind, step_form(kind))
    scanner.finish()
    return step


def scanned_lines(text):
    """The lines of a text, any value."""
    if not isinstance(text, str):
        raise NoText()
    return text.split("\n")


def scanned_row(line):
    """The row that a line tells."""
    scanner = Scanner(line)
    path = scan_path(scanner)
    scanner.skip(" ")
    kind = scanner.letters()
    entry = scan_form(scanner, kind, entry_form(kind))
    scanner.finish()
    return (path, entry)


def scan_heading(scanner):
    """The name and the start of a stage, behind the word that they begin with."""
    scanner.skip(" ")
    name = scan_name(scanner)
    scanner.skip(" ")
    return (name, None if scanner.takes("-") else scan_name(scanner))


def scan_form(scanner, kind, form):
    """What remains of an entry or a step of a kind with a form, which is None if there is no such kind."""
    if form is None:
        raise NoText()
    parts = []
    for told in form:
        scanner.skip(" ")
        read = READERS[told]
        parts.append(read(scanner))
    return turned((kind, *parts))


def scan_name(scanner):
    """What stands in place of a name; it may be empty or too long."""
    return scanner.letters()


def scan_path(scanner):
    """A path."""
    if scanner.takes("/"):
        return ()
    names = [scan_name(scanner)]
    while scanner.takes("/"):
        names.append(scan_name(scanner))
    if len(names) > MOST_NAMES:
        raise NoText()
    return tuple(names)


def scan_rights(scanner):
    """Rights, or None."""
    sign = scanner.sign()
    if sign == "-":
        return None
    if sign not in DIGITS:
        raise NoText()
    return int(sign)


def scan_string(scanner):
    """A string, of any length."""
    scanner.skip('"')
    signs = []
    while not scanner.takes('"'):
        sign = scanner.sign()
        signs.append(scan_escaped(scanner) if sign == "\\" else sign)
    return "".join(signs)


def scan_escaped(scanner):
    """The sign that is written behind a backslash."""
    sign = scanner.sign()
    if sign not in ESCAPES:
        raise NoText()
    return ESCAPES[sign]


def scan_content(scanner, within=0):
    """A content within this many made ones."""
    if scanner.peek() == '"':
        return scan_string(scanner)
    if within >= MOST_MADE:
        raise NoText()
    deed = scan_name(scanner)
    scanner.skip("(")
    if scanner.takes(")"):
        return ("made", deed, ())
    parts = [scan_part(scanner, within + 1)]
    while scanner.takes(","):
        parts.append(scan_part(scanner, within + 1))
    scanner.skip(")")
    return ("made", deed, tuple(parts))


def scan_part(scanner, within):
    """A part of a made content."""
    return None if scanner.takes("-") else scan_content(scanner, within)


def scan_told(scanner):
    """A text, or what tells an argument."""
    return ("arg", scan_name(scanner)) if scanner.takes("$") else scan_string(scanner)


def scan_reads(scanner):
    """What a run reads."""
    if scanner.takes("-"):
        return ()
    reads = [scan_read(scanner)]
    while scanner.takes(","):
        reads.append(scan_read(scanner))
    return tuple(reads)


def scan_read(scanner):
    """One of what a run reads."""
    if scanner.peek() == '"':
        return ("text", scan_string(scanner))
    return ("arg", scan_name(scanner)) if scanner.takes("$") else ("path", scan_path(scanner))


READERS = {
    "name": scan_name, "path": scan_path, "rights": scan_rights, "string": scan_string, "content": scan_content,
    "text": scan_told, "reads": scan_reads,
}
