"""The forms of entries and steps in texts: the kinds of their parts, in the order in which they are written."""

ENTRY_FORMS = {
    "file": ("rights", "content"),
    "link": ("string",),
    "folder": ("rights",),
    "opaque": ("rights",),
    "gone": (),
    "cleared": (),
}

STEP_FORMS = {
    "write": ("path", "rights", "text"),
    "folder": ("path", "rights"),
    "link": ("path", "text"),
    "delete": ("path",),
    "clear": ("path",),
    "copy": ("name", "path", "path"),
    "rights": ("path", "rights"),
    "run": ("name", "reads", "path"),
}


def entry_form(kind):
    """The form of an entry of a kind, or None."""
    return ENTRY_FORMS.get(kind)


def step_form(kind):
    """The form of a step of a kind, or None."""
    return STEP_FORMS.get(kind)


def turned(thing):
    """An entry or a step as it is written, or the other way round."""
    # Where rights are written beside something that may be long, they stand ahead of it.
    if thing[0] == "file" or thing[0] == "write":
        return (*thing[:-2], thing[-1], thing[-2])
    return thing
