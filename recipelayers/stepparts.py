"""What stands in a step: its path, the other paths, the source, the texts and the arguments."""


def path_of(step):
    """The path at which a step writes."""
    return step[3] if step[0] == "copy" or step[0] == "run" else step[1]


def source_of(step):
    """The name of the stage or input that a copy reads; None for every other step."""
    return step[1] if step[0] == "copy" else None


def paths_read(step):
    """The paths that a step reads in the tree before it, in order."""
    if step[0] == "rights":
        return [step[1]]
    return [read[1] for read in reads_of(step) if read[0] == "path"]


def paths_in(step):
    """All paths that stand in a step."""
    copied = [step[2]] if step[0] == "copy" else []
    return [path_of(step), *copied, *paths_read(step)]


def arguments_in(step):
    """The names in ("arg", name), as often as they stand in a step."""
    if has_text(step):
        return [] if isinstance(step[2], str) else [step[2][1]]
    return [read[1] for read in reads_of(step) if read[0] == "arg"]


def texts_told(step):
    """The texts that stand in a step."""
    if has_text(step):
        return [step[2]] if isinstance(step[2], str) else []
    return [read[1] for read in reads_of(step) if read[0] == "text"]


def with_texts(step, texts):
    """The step with these texts, by names, in place of the arguments that they are of."""
    if has_text(step) and not isinstance(step[2], str) and step[2][1] in texts:
        return (*step[:2], texts[step[2][1]], *step[3:])
    if step[0] == "run":
        reads = tuple([read_with_text(read, texts) for read in step[2]])
        return (step[0], step[1], reads, step[3])
    return step


def read_with_text(read, texts):
    """What a run reads, with the text in place of an argument that it is of."""
    return ("text", texts[read[1]]) if read[0] == "arg" and read[1] in texts else read


def has_text(step):
    """Whether a step has a text or an argument of its own."""
    return step[0] == "write" or step[0] == "link"


def reads_of(step):
    """What a run reads; nothing for every other step."""
    return step[2] if step[0] == "run" else ()
