"""Plans of rules: what has to be kept while a row is read, to tell at its end whether it is let.

Each name and `?` of the text is a place, numbered from 1; 0 is where rows begin. Of a row that
was read it is kept, as bits, which places it can have come to. The tree of a plan tells by
these bits whether the row is let: ("at", bits) if it has come to one of these places,
("not", tree), ("all", trees), ("any", trees).
"""

START = 1


class Piece:
    """A part of the text without & and !: where its rows begin and end, as bits."""

    def __init__(self, can_be_empty, first, last):
        self.can_be_empty = can_be_empty
        self.first = first
        self.last = last


class Plan:
    """What follows from the parts of a rule's text."""

    def __init__(self, kinds, parts):
        self.parts = parts
        self.read = 0
        # For each place, as bits, the places to which a row can come from it with one more kind.
        self.following = [0]
        # For each kind, as bits, the places at which it may stand.
        self.places = [0] * kinds
        self.tree = tree_of(self, any_read(self))


def takes_part(plan, sign):
    """Whether this sign comes next; if so it is read."""
    is_next = plan.parts[plan.read:plan.read + 1] == [sign]
    if is_next:
        plan.read += 1
    return is_next


def are_pieces(found):
    return all([isinstance(one, Piece) for one in found])


def any_read(plan):
    """What is parted by `|`."""
    found = [all_read(plan)]
    while takes_part(plan, "|"):
        found.append(all_read(plan))
    if len(found) == 1:
        return found[0]
    if not are_pieces(found):
        return ("any", [tree_of(plan, one) for one in found])
    piece = found[0]
    for one in found[1:]:
        can_be_empty = piece.can_be_empty or one.can_be_empty
        piece = Piece(can_be_empty, piece.first | one.first, piece.last | one.last)
    return piece


def all_read(plan):
    """What is parted by `&`."""
    found = [not_read(plan)]
    while takes_part(plan, "&"):
        found.append(not_read(plan))
    return found[0] if len(found) == 1 else ("all", [tree_of(plan, one) for one in found])


def not_read(plan):
    """What may have `!` ahead of it."""
    many = 0
    while takes_part(plan, "!"):
        many += 1
    found = row_read(plan)
    if many & 1:
        return ("not", tree_of(plan, found))
    return found


def row_read(plan):
    """What is parted by `,`."""
    found = starred_read(plan)
    while takes_part(plan, ","):
        behind = starred_read(plan)
        lead_on(plan, found.last, behind.first)
        first = found.first | behind.first if found.can_be_empty else found.first
        last = found.last | behind.last if behind.can_be_empty else behind.last
        found = Piece(found.can_be_empty and behind.can_be_empty, first, last)
    return found


def starred_read(plan):
    """What may have `*` behind it."""
    found = one_read(plan)
    while takes_part(plan, "*"):
        lead_on(plan, found.last, found.first)
        found = Piece(True, found.first, found.last)
    return found


def one_read(plan):
    if takes_part(plan, "("):
        found = any_read(plan)
        plan.read += 1
        return found
    if takes_part(plan, "-"):
        return Piece(True, 0, 0)
    here = 1 << len(plan.following)
    plan.following.append(0)
    for kind in range(len(plan.places)):
        if plan.parts[plan.read] in (kind, "?"):
            plan.places[kind] |= here
    plan.read += 1
    return Piece(False, here, here)


def lead_on(plan, last, first):
    """From each of the last places a row can go on at the first ones."""
    for place in range(len(plan.following)):
        if last >> place & 1:
            plan.following[place] |= first


def tree_of(plan, found):
    """The tree of what was read."""
    if not isinstance(found, Piece):
        return found
    lead_on(plan, START, found.first)
    return ("at", found.last | START if found.can_be_empty else found.last)


def bits_behind(plan, bits, kind):
    """The bits behind one more kind."""
    reached = 0
    for place, following in enumerate(plan.following):
        if bits >> place & 1:
            reached = reached | following
    return reached & plan.places[kind]


def lets_bits(tree, bits):
    """Whether a row that has come to these places is let."""
    word, rest = tree
    if word == "at":
        return bits & rest != 0
    if word == "not":
        return not lets_bits(rest, bits)
    let = [lets_bits(one, bits) for one in rest]
    return all(let) if word == "all" else any(let)


def lets_row(plan, kinds):
    """Whether the row of these kinds is let."""
    bits = START
    for kind in kinds:
        bits = bits_behind(plan, bits, kind)
    return lets_bits(plan.tree, bits)
