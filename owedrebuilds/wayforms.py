"""Forms of ways: texts that are the same exactly for equal ways of one schema.

The least store of a way is a tree. A spine of rows leads from its first row to its last one; two
ways that are equal have the same spine with the same flags, as each joins the ends of the other.
Beside the spine are only branches, into which the way goes back, and out of which it comes along
the same links. A branch that fits into another one or into a part of the spine asks nothing more.

A piece is a row and the branches that link to it: (hop, flags, pieces). hop is that by which the
way first comes to the row; in a branch it goes back, and tells the link.
"""

from owedrebuilds.waywords import all_flags, brackets, hop_word, turned

_START = (False, "", "")


def form(way):
    """The form of a way."""
    spine = _spine(way.hops, way.asked)
    words = [way.start + brackets(spine[0][1])]
    words.extend([hop_word(hop) + brackets(flags) for hop, flags, _ in spine[1:]])
    if len(spine) < len(way.asked):
        links = _spine_links(spine)
        branches = [_thinned(piece[2], more) for piece, more in zip(spine, links)]
        words = [word + _written(found) for word, found in zip(words, branches)]
    return " ".join(words)


def _spine(hops, asked):
    """The pieces of the rows from the first to the last one, with the branches beside them."""
    path = [(_START, asked[0], ())]
    for at, hop in enumerate(hops):
        flags = asked[at + 1]
        last = path[-1]
        if last[0][0] and hop == turned(last[0]):
            path.pop()
            before, more, pieces = path[-1]
            path[-1] = (before, all_flags(more, flags), (*pieces, last))
        else:
            path.append((hop, flags, ()))
    return path


def _spine_links(spine):
    """For each row of a spine the pieces of the rows beside it on the spine that link to it."""
    behind = [() for _ in spine]
    for at in reversed(range(len(spine) - 1)):
        hop, flags, pieces = spine[at + 1]
        if hop[0]:
            behind[at] = ((hop, flags, (*pieces, *behind[at + 1])),)
    ahead = [() for _ in spine]
    for at in range(1, len(spine)):
        _, flags, pieces = spine[at - 1]
        hop = spine[at][0]
        if not hop[0]:
            ahead[at] = ((turned(hop), flags, (*pieces, *ahead[at - 1])),)
    return [(*one, *other) for one, other in zip(ahead, behind)]


def _thinned(pieces, others):
    """The pieces that fit into none beside them, nor into the others; so are their own pieces."""
    thin = [(hop, flags, _thinned(more, ())) for hop, flags, more in pieces]
    left = []
    for at, piece in enumerate(thin):
        if not any([_fits(piece, beside) for beside in [*left, *thin[at + 1:], *others]]):
            left.append(piece)
    return tuple(left)


def _fits(piece, beside):
    """Whether a row with its branches can be folded into another one."""
    if piece[0] != beside[0] or not all([flag in beside[1] for flag in piece[1]]):
        return False
    return all([any([_fits(more, there) for there in beside[2]]) for more in piece[2]])


def _written(pieces):
    """The text of branches, whatever their order."""
    texts = [hop_word(hop) + brackets(flags) + _written(more) for hop, flags, more in pieces]
    return "(" + ",".join(sorted(texts)) + ")" if texts else ""
