"""How the parts of trees, layers, steps and recipes are written."""

from recipelayers.forms import entry_form, step_form, turned


def row_line(row):
    """The line of a row of a tree or a layer."""
    path, entry = row
    return f"{path_text(path)} {entry_text(entry)}"


def entry_text(entry):
    """The text of a node or an entry."""
    return text_of(entry, entry_form(entry[0]))


def step_text(step):
    """The text of a step."""
    return text_of(step, step_form(step[0]))


def stage_lines(stage):
    """The lines of a stage."""
    name, start, steps = stage
    return [f"stage {name} {start_text(start)}", *[step_text(step) for step in steps]]


def text_of(thing, form):
    """The text of an entry or a step that has this form."""
    kind, *parts = turned(thing)
    words = [kind]
    for part, told in zip(parts, form):
        write = WRITERS[told]
        words.append(write(part))
    return " ".join(words)


def name_text(name):
    """The text of a name."""
    return name


def start_text(start):
    """The text of the start of a stage."""
    return "-" if start is None else start


def path_text(path):
    """The text of a path."""
    return "/" if path == () else "/".join(path)


def rights_text(rights):
    """The text of rights, or of None."""
    return "-" if rights is None else f"{rights}"


def string_text(text):
    """The text of a string."""
    written = text.replace("\\", "\\\\").replace('"', '\\"').replace("\n", "\\n")
    return f'"{written}"'


def content_text(content):
    """The text of a content, or of None."""
    if content is None:
        return "-"
    if isinstance(content, str):
        return string_text(content)
    return f"{content[1]}({parts_text(content[2])})"


def parts_text(parts):
    """The text of the parts of a made content."""
    return ",".join([content_text(part) for part in parts])


def told_text(text):
    """The text of a text or of what tells an argument."""
    return string_text(text) if isinstance(text, str) else f"${text[1]}"


def reads_text(reads):
    """The text of what a run reads."""
    return ",".join([read_text(read) for read in reads]) if len(reads) > 0 else "-"


def read_text(read):
    """The text of one of what a run reads."""
    if read[0] == "path":
        return path_text(read[1])
    return string_text(read[1]) if read[0] == "text" else f"${read[1]}"


WRITERS = {
    "name": name_text, "path": path_text, "rights": rights_text, "string": string_text, "content": content_text,
    "text": told_text, "reads": reads_text,
}
