"""What nodes and contents are made of; all of it holds of described nodes, too."""


def content_of(node):
    """The content of a file; None for every other node and for nothing."""
    return node[1] if node is not None and node[0] == "file" else None


def rights_of(node):
    """The rights of a file or a folder; None for a link and for nothing."""
    return None if node is None or node[0] == "link" else node[-1]


def with_rights(node, rights):
    """A file or a folder with other rights; a link or nothing as it is."""
    if node is None or node[0] == "link":
        return node
    return (*node[:-1], rights)


def node_of(kind, text, rights):
    """The node of a kind with this text, or content, and these rights, as far as it has them."""
    if kind == "file":
        return ("file", text, rights)
    return ("link", text) if kind == "link" else ("folder", rights)


def texts_of(node):
    """The texts that a node has in it."""
    if node[0] == "file":
        return texts_in(node[1])
    return [node[1]] if node[0] == "link" else []


def texts_in(content):
    """The texts that a content is made of."""
    if isinstance(content, str):
        return [content]
    return [text for part in content[2] if part is not None for text in texts_in(part)]
