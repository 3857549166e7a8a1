"""What several of the tests use."""

import functools
import itertools

from keptandsaid.audiences import Audience
from keptandsaid.errors import InvalidNumber, InvalidWords
from keptandsaid.matrices import reduced_rows
from keptandsaid.nets import Net

FIELDS = (2, 3, 5, 7, 11, 13)

# For each field up to how many columns there are few spaces.
FEW = {2: 6, 3: 5, 5: 4, 7: 4, 11: 3, 13: 3}


def deep(value, levels):
    for level in range(levels):
        value = [value] if level % 2 else (value,)
    return value


def any_values():
    """Values of every kind that point [1] names."""
    return [
        -1, 0, 1, 2, 3, 4, 12, 13, 14, 10 ** 30, -(10 ** 30), True, False, None,
        "", "0", "2", "a text", "-", (), [], (0,), [0], (1, 0), [1, 0], ((1, 0),), [(1, 0)], ([1, 0],),
        ((),), ([],), (None,), (True, False), ((True, False),), ("10",), ((("1", "0"),),), deep(1, 10), deep((), 9),
        Audience(2, 2, ()), (Audience(2, 2, ()),), ((Audience(2, 2, ()), 1),), [Audience(2, 2, ())],
    ]


def is_int(value):
    return type(value) is int


def words_of(p, columns):
    return list(itertools.product(range(p), repeat=columns))


def product_of(p, one, other):
    total = 0
    for k in range(len(one)):
        total += one[k] * other[k]
    return total % p


def added_up(p, rows, letters, columns):
    return tuple(sum(row[k] * letter for row, letter in zip(rows, letters, strict=True)) % p for k in range(columns))


def spanned(p, rows, columns):
    """All rows that rows span, by trying: each row doubles, trebles .. what the earlier ones span."""
    found = {(0,) * columns}
    for row in rows:
        found = {tuple((a + letter * b) % p for a, b in zip(one, row)) for one in found for letter in range(p)}
    return found


class Numbers:
    """Numbers that are the same in every run, for many different matrices and nets."""

    def __init__(self, seed):
        self.state = seed

    def below(self, bound):
        self.state = (self.state * 6364136223846793005 + 1442695040888963407) % 2 ** 64
        return (self.state >> 33) % bound

    def matrix(self, p, rows, columns):
        return tuple(tuple(self.below(p) for _ in range(columns)) for _ in range(rows))


def raised(call, *args, **named):
    """The error that the call raises, with what it keeps, or None."""
    try:
        call(*args, **named)
    except ValueError as error:
        return error
    return None


def expect(case, kind, kept, call, *args, **named):
    """The call raises an error of just this class that keeps just these very values."""
    error = raised(call, *args, **named)
    case.assertIs(type(error), kind, (call, args, named))
    case.assertEqual(list(vars(error)), list(kept), (call, args))
    for name, value in kept.items():
        case.assertEqual(kind_of(getattr(error, name)), kind_of(value), (call, args))
        case.assertEqual(getattr(error, name), value, (call, args))
    return error


def expect_number(case, value, call, *args, **named):
    error = expect(case, InvalidNumber, {"value": value}, call, *args, **named)
    case.assertIs(error.value, value)


def kind_of(value):
    """The classes of a value and of all within it, as True and 1, or (1,) and [1], count for unlike here."""
    if isinstance(value, (list, tuple)):
        return (type(value), [kind_of(part) for part in value])
    return type(value)


def only_tuples(value):
    """Whether there is no list and no bool within value."""
    if isinstance(value, tuple):
        return all([only_tuples(part) for part in value])
    return type(value) in (int, type(None)) or not isinstance(value, (list, bool, dict, set))


def some_nets(seed, rounds, most=12):
    """Nets of up to so many places, with few, some or all arcs."""
    numbers = Numbers(seed)
    for _ in range(rounds):
        size = 1 + numbers.below(most)
        share = numbers.below(5)
        pairs = [(i, j) for i in range(size) for j in range(size) if i != j]
        yield Net(size, [pair for pair in pairs if numbers.below(4) < share])


def all_nets(size):
    pairs = [(i, j) for i in range(size) for j in range(size) if i != j]
    for taken in itertools.product((False, True), repeat=len(pairs)):
        yield Net(size, [pair for pair, there in zip(pairs, taken) if there])


def values(p, rows, word):
    return tuple([product_of(p, row, word) for row in rows])


def served(audience, telling, listener):
    knows, wants = audience.listeners[listener]
    inside = spanned(audience.p, telling + knows, audience.size)
    return all(row in inside for row in wants)


def some_audiences(seed, rounds, sizes=None, listeners=5):
    """Audiences whose words can all be gone through: up to what sizes for each field, with how many listeners."""
    numbers = Numbers(seed)
    sizes = sizes or {2: 6, 3: 4, 5: 3, 7: 2, 11: 2, 13: 2}
    fields = sorted(sizes)
    for _ in range(rounds):
        p = fields[numbers.below(len(fields))]
        size = 1 + numbers.below(sizes[p])
        yield Audience(p, size, [
            (numbers.matrix(p, numbers.below(3), size), numbers.matrix(p, numbers.below(3), size))
            for _ in range(numbers.below(listeners))
        ])


def no_matrices():
    """Values that are no matrix of two columns over 2."""
    wrong = [((1,),), ((1, 0, 0),), ((1, 0), (1,)), ((0, 2),), [(1, 0)], ([1, 0],), ((),), ((True, 0),), (1, 0), ((-1, 0),)]
    return wrong + [
        value for value in any_values()
        if not (isinstance(value, tuple) and only_tuples(value) and value in ((), ((1, 0),)))
    ]


@functools.lru_cache(maxsize=None)
def spaces_of(p, size):
    """All spaces of rows of so many columns, by trying: pairs of a rank and the set of rows that are spanned."""
    noughts = frozenset([(0,) * size])
    found = {noughts: 0}
    newest = [noughts]
    while newest:
        longer = []
        for space in newest:
            for word in words_of(p, size):
                if word not in space:
                    more = frozenset(
                        tuple((a + letter * b) % p for a, b in zip(one, word)) for one in space for letter in range(p)
                    )
                    if more not in found:
                        found[more] = found[space] + 1
                        longer.append(more)
        newest = longer
    return [(rank, space) for space, rank in found.items()]


# Up to how many places there are at most 81 words.
MOST = {2: 6, 3: 4, 4: 3, 5: 2}


def nets_and_letters(seed, rounds):
    for net in some_nets(seed, rounds, 6):
        for q, most in MOST.items():
            if net.size <= most:
                yield net, q


def all_words(net, q):
    return list(itertools.product(range(q), repeat=net.size))


def places_by_trial(net, one, other):
    """All places at which both words exclude one another."""
    return [
        place for place in range(net.size)
        if one[place] != other[place] and all(one[known] == other[known] for known in net.knows[place])
    ]


def no_letters(net):
    """Values that are no number of letters for the net."""
    numbers = [-1, 0, 1, 6, 7, 11, 13, 81, 10 ** 30, -(10 ** 30)]
    too_many = [q for q in range(2, 6) if net.size > MOST[q]]
    return numbers + too_many + [value for value in any_values() + [2.0, "3"] if not is_int(value)]


def some_words(net, q, numbers, share=4):
    return tuple(word for word in all_words(net, q) if numbers.below(share) == 0)


def some_store(net, q, numbers):
    """A store, grown by words in a changing order."""
    words = all_words(net, q)
    found = []
    for _ in range(len(words)):
        word = words.pop(numbers.below(len(words)))
        if not any(places_by_trial(net, word, other) for other in found):
            found.append(word)
    return tuple(sorted(found))


def no_words(net, q):
    """Values that are no word of the net, of every kind."""
    right = (0,) * net.size
    wrong = [
        list(right), right + (0,), right[1:], (q,) + right[1:], right[1:] + (-1,), (True,) + right[1:], right[1:] + (None,),
        right[1:] + ("0",), (right,), right[1:] + ((0,),), "0" * net.size, right[1:] + (10 ** 30,), right[1:] + (False,),
    ]
    return wrong + [
        value for value in any_values()
        if not (isinstance(value, tuple) and len(value) == net.size and all(is_int(k) and 0 <= k < q for k in value))
    ]


def no_tuples_of_words(net, q):
    """Values that are no rising tuple of words of the net, which has three words at least."""
    words = all_words(net, q)
    first, second, third = words[0], words[1], words[2]
    wrong = [
        (second, first), (first, first), (first, third, second), (first, second, second), [first, second], [],
        (first, list(second)), first, (first, first + (0,)), (first, second[1:]), (first, second, third, third),
        (first, second[:-1] + (q,)), (first, second[:-1] + (True,)), (first, None), (None,), (first, second, 5), "",
        (first, "1"), ((),), (first, second[:-1] + (-1,)), (second, third, first), dict([(first, 1)]),
    ]
    right = ((), ((1, 0),))
    return wrong + [
        value for value in any_values() if not (isinstance(value, tuple) and only_tuples(value) and value in right)
    ]


def check_words_errors(case, call, rest, net=Net(2, ((0, 1),)), q=2):
    """InvalidNumber(q), then InvalidWords(words), ahead of all that is wrong with the rest."""
    for value in no_letters(net):
        for words in ((), None, ((0, 0), (0, 0))):
            expect_number(case, value, call, net, value, words, *rest)
    for words in no_tuples_of_words(net, q):
        error = expect(case, InvalidWords, {"value": words}, call, net, q, words, *rest)
        case.assertIs(error.value, words)


def whole_net(size):
    return Net(size, [(i, j) for i in range(size) for j in range(size) if i != j])


def two_way_ring(size):
    pairs = [(i, (i + 1) % size) for i in range(size)]
    return Net(size, sorted(set(pairs + [(j, i) for i, j in pairs])))


def right_signals(net, q, numbers):
    """The signals of a right broadcast: each word takes one that no word that it excludes has."""
    words = all_words(net, q)
    signals = []
    for k, word in enumerate(words):
        barred = {signals[j] for j in range(k) if places_by_trial(net, word, words[j])}
        free = [signal for signal in range(len(words)) if signal not in barred]
        signals.append(free[numbers.below(2)] if len(free) > 1 else free[0])
    return tuple(signals)


def no_lots(size):
    """Values that are no lot of places below size."""
    wrong = [
        (size,), (-1,), (0, 0), (0, size), list(range(size)), [0], [], 0, None, "0", (True,), (False,), (None,), ("0",),
        ((0,),), (10 ** 30,), (-(10 ** 30), 0), (0.0,), ((),), ([],), True, "", tuple(range(size + 1)), {0: True},
    ]
    if size > 1:
        wrong += [(1, 0), (1, 1), (0, 1, 0), (0, True), (False, 1), tuple(range(size))[::-1], (size - 1, size)]
    return wrong + [value for value in any_values() if not isinstance(value, tuple)]


def lots_of(size):
    """All lots, that without a place, too."""
    return [lot for many in range(size + 1) for lot in itertools.combinations(range(size), many)]


def line_begins(lines):
    """Where each of the lines begins in their text."""
    begins = [0]
    for line in lines:
        begins.append(begins[-1] + len(line) + 1)
    return begins[:-1]


SIGNS = "0123456789,;- \nknowslistener"


def changed_texts(text, numbers, signs=150):
    """Texts that differ from this one by a line or a sign: left out, doubled, exchanged, changed, put in, cut off."""
    lines = text.split("\n")
    yield text
    yield text + "\n"
    yield ""
    for k, line in enumerate(lines):
        yield "\n".join(lines[:k] + lines[k + 1:])
        yield "\n".join(lines[:k] + [line, line] + lines[k + 1:])
        yield "\n".join(lines[:k] + lines[k + 1:k + 2] + [line] + lines[k + 2:])
        yield "\n".join(lines[:k] + [lines[numbers.below(len(lines))]] + lines[k + 1:])
        yield "\n".join(lines[:k] + ["", line] + lines[k + 1:])
        yield "\n".join(lines[:k + 1])
        yield "\n".join(lines[:k])
        yield "\n".join(lines[:k] + [line + " "] + lines[k + 1:])
    for _ in range(signs if text else 0):
        k = numbers.below(len(text))
        sign = SIGNS[numbers.below(len(SIGNS))]
        yield text[:k] + text[k + 1:]
        yield text[:k] + sign + text[k:]
        yield text[:k] + sign + text[k + 1:]
        yield text[:k] + text[k] + text[k:]
        yield text[:k]
        yield text[:k] + text[k + 1:k + 2] + text[k] + text[k + 2:]


def served_by_trial(audience, space):
    """Whether each row of wants is a row of the space plus a row that the listener's knows span."""
    for knows, wants in audience.listeners:
        known = spanned(audience.p, knows, audience.size)
        for want in wants:
            if not any(tuple((a - b) % audience.p for a, b in zip(want, one)) in space for one in known):
                return False
    return True


def said_by_trial(audience):
    return min(rank for rank, space in spaces_of(audience.p, audience.size) if served_by_trial(audience, space))


def holds_by_trial(audience, r, book):
    """Whether this tuple of entries of the right kinds is a book, as the document words it."""
    p, size = audience.p, audience.size
    spaces = [space for space, listener, row in book]
    if r == 0 or not spaces:
        return r == 0 and not spaces
    if list(book) != sorted(book) or len(set(spaces)) < len(spaces) or () not in spaces:
        return False
    for space, listener, row in book:
        if len(space) >= r or reduced_rows(p, space) != space:
            return False
        if not 0 <= listener < len(audience.listeners) or not 0 <= row < len(audience.listeners[listener][1]):
            return False
        knows, wants = audience.listeners[listener]
        if wants[row] in spanned(p, space + knows, size):
            return False
        for known in spanned(p, knows, size):
            more = tuple((a + b) % p for a, b in zip(wants[row], known))
            if len(space) < r - 1 and reduced_rows(p, space + (more,)) not in spaces:
                return False
    return True


def some_deed(numbers, audience):
    """A deed that fits the audience, unless it is about a listener that there is not."""
    p, size, many = audience.p, audience.size, len(audience.listeners)
    word = ("join", "join", "join", "leave", "hear", "hear", "say")[numbers.below(7)]
    row = numbers.matrix(p, 1, size)[0]
    if word == "join":
        return ("join", (numbers.matrix(p, numbers.below(size + 1), size), numbers.matrix(p, numbers.below(3), size)))
    if word == "leave":
        return ("leave", numbers.below(many + 1))
    return ("hear", numbers.below(many + 1), row) if word == "hear" else ("say", row)


def lead(board, numbers, moves):
    """Leads a board by some deeds, undos and redos, of which some may raise an error."""
    for _ in range(moves):
        kind = numbers.below(5)
        if kind == 0:
            raised(board.undo)
        elif kind == 1:
            raised(board.redo)
        else:
            raised(board.deed, some_deed(numbers, board.audience()))
    return board
