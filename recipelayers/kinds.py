"""The kinds of plain values, and what stands at a path where a layer has a word."""

LETTERS = "abcdefghijklmnopqrstuvwxyz"
MOST_LETTERS = 8
MOST_CHARACTERS = 20
MOST_PARTS = 3
MOST_RIGHTS = 7


def is_integer(thing):
    """Whether thing is an integer; True and False are none."""
    return isinstance(thing, int) and not isinstance(thing, bool)


def is_name(thing):
    """Whether thing is a name."""
    if not isinstance(thing, str) or not 1 <= len(thing) <= MOST_LETTERS:
        return False
    return all([letter in LETTERS for letter in thing])


def is_path(thing):
    """Whether thing is a path, of any length; the root is one."""
    return isinstance(thing, tuple) and all([is_name(name) for name in thing])


def is_text(thing):
    """Whether thing is a text."""
    return isinstance(thing, str) and len(thing) <= MOST_CHARACTERS


def is_content(thing):
    """Whether thing is a content, of any size."""
    if is_text(thing):
        return True
    return is_tagged(thing, "made", 3) and is_name(thing[1]) and are_parts(thing[2])


def are_parts(thing):
    """Whether thing is the tuple of the parts of a made content."""
    if not isinstance(thing, tuple) or len(thing) > MOST_PARTS:
        return False
    return all([part is None or is_content(part) for part in thing])


def is_rights(thing):
    """Whether thing is the rights of a file or a folder."""
    return is_integer(thing) and 0 <= thing <= MOST_RIGHTS


def is_node(thing):
    """Whether thing is a node."""
    if is_tagged(thing, "file", 3):
        return is_content(thing[1]) and is_rights(thing[2])
    if is_tagged(thing, "link", 2):
        return is_text(thing[1])
    return is_tagged(thing, "folder", 2) and is_rights(thing[1])


def is_entry(thing):
    """Whether thing is an entry of a layer."""
    if is_tagged(thing, "folder", 2) or is_tagged(thing, "opaque", 2):
        return thing[1] is None or is_rights(thing[1])
    return is_node(thing) or is_tagged(thing, "gone", 1) or is_tagged(thing, "cleared", 1)


def is_tagged(thing, tag, many):
    """Whether thing is a tuple of this many items that begins with this string."""
    # The kind of the first item is asked first, as any value may stand there, with an == of its own.
    return isinstance(thing, tuple) and len(thing) == many and isinstance(thing[0], str) and thing[0] == tag


def is_plain(thing, plain):
    """Whether thing, any value, is this value of lists, tuples, strings, integers and None."""
    if isinstance(plain, list):
        return isinstance(thing, list) and are_plain(thing, plain)
    if isinstance(plain, tuple):
        return isinstance(thing, tuple) and are_plain(thing, plain)
    if plain is None:
        return thing is None
    # The kind is asked first, as True == 1, and as any value may have an == of its own.
    return (isinstance(thing, str) if isinstance(plain, str) else is_integer(thing)) and thing == plain


def are_plain(things, plains):
    """Whether things are, one by one, these plain values."""
    if len(things) != len(plains):
        return False
    return all([is_plain(thing, plain) for thing, plain in zip(things, plains)])


def is_folder(node):
    """Whether a node, None for nothing, or a word or an entry begins with "folder"."""
    return node is not None and node[0] == "folder"


def size(content):
    """The size of a content."""
    if isinstance(content, str):
        return 1
    return 1 + sum([size(part) for part in content[2] if part is not None])


def stands(word, node):
    """What stands at a path with this word in a layer where node, or None for nothing, stood before."""
    if word == "keep":
        return node
    if word == "gone":
        return None
    if word == ("folder", None):
        return node if is_folder(node) else ("folder", 5)
    return word
