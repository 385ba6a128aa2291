"""Rows and things that several tests use."""

import itertools
import random

SMALL = "abcdefghijklmnopqrstuvwxyz"


class Prickly:
    """An object that fails at whatever is asked of it."""

    def fail(self, *rest):
        raise RuntimeError("asked of an object that is no row")

    __eq__ = __ne__ = __lt__ = __le__ = __gt__ = __ge__ = fail
    __len__ = __iter__ = __getitem__ = __contains__ = __bool__ = fail
    __str__ = __repr__ = __hash__ = __int__ = __index__ = __call__ = fail


class Plain:
    """An object of some class."""


class RowLike:
    """An object with the letters of a row that is no text."""

    def __len__(self):
        return 1

    def __getitem__(self, at):
        return "a"[at]

    def __eq__(self, other):
        return other == "a"

    def __str__(self):
        return "a"


def deep_list(depth):
    thing = []
    for _ in range(depth):
        thing = [thing]
    return thing


def deep_tuple(depth):
    thing = ("a",)
    for _ in range(depth):
        thing = (thing,)
    return thing


def deep_mixed(depth):
    thing = "a"
    for at in range(depth):
        thing = [thing] if at % 2 else (thing, "a")
    return thing


def deep_dict(depth):
    thing = {}
    for _ in range(depth):
        thing = {"a": thing}
    return thing


def round_list():
    thing = []
    thing.append(thing)
    return thing


def other_things():
    """Pairs of a name and a thing that is no text; names stand in for things that can't be shown."""
    return [
        ("nought", 0), ("one", 1), ("minus one", -1), ("great", 10 ** 60), ("small", -10 ** 60),
        ("True", True), ("False", False), ("None", None),
        ("empty list", []), ("list of a letter", ["a"]), ("list of letters", ["a", "b"]),
        ("empty tuple", ()), ("tuple of a letter", ("a",)), ("tuple of letters", ("a", "b")),
        ("empty dict", {}), ("dict of a letter", {"a": 0}),
        ("empty set", set()), ("set of a letter", {"a"}), ("frozen set", frozenset("a")),
        ("empty bytes", b""), ("bytes of letters", b"ab"), ("bytearray", bytearray(b"ab")),
        ("range", range(3)), ("iterator", iter("ab")), ("a class", str), ("a function", len),
        ("an object", Plain()), ("a bare object", object()), ("a row-like object", RowLike()),
        ("a prickly object", Prickly()),
        ("deep list", deep_list(5000)), ("deep tuple", deep_tuple(5000)),
        ("deep lists and tuples", deep_mixed(5001)), ("deep dict", deep_dict(5000)),
        ("very deep list", deep_list(100000)), ("list in itself", round_list()),
    ]


def wrong_texts():
    """Texts with one sign that is no small letter, at the beginning, between and at the end."""
    signs = [chr(code) for code in range(ord(" "), ord("~") + 1)]
    wrong = ["\n"] + [sign for sign in signs if sign not in SMALL]
    texts = []
    for sign in wrong:
        texts += [sign, sign + "abz", "ab" + sign + "z", "abz" + sign, sign + sign]
    return texts


def short_rows(letters, longest):
    """All rows of the letters, from the one of none on up to a length."""
    rows = []
    for length in range(longest + 1):
        rows += ["".join(row) for row in itertools.product(letters, repeat=length)]
    return rows


def long_rows():
    """Rows of up to 80 letters, the same ones at each run."""
    chance = random.Random(20)
    rows = ["a" * 80, "ab" * 40, SMALL * 3 + "ab", "a" * 79 + "z", "z" + "a" * 79]
    for letters in ["ab", "abc", "abcdefgh", SMALL]:
        for length in [1, 2, 17, 79, 80]:
            rows.append("".join(chance.choice(letters) for _ in range(length)))
    return rows


def shaped_rows():
    """Rows of none to 80 letters, of one, two, three, five and all letters, repeated and mirrored ones."""
    chance = random.Random(7)
    rows = [""]
    for letters in ["a", "yz", "abc", "bdfhz", SMALL]:
        for length in [1, 2, 3, 5, 12, 26, 40, 79, 80]:
            rows.append("".join(chance.choice(letters) for _ in range(length)))
            rows.append((letters * 80)[:length])
            rows.append((letters[::-1] * 80)[:length])
        half = "".join(chance.choice(letters) for _ in range(40))
        rows += [half + half[::-1], half[:39] + half[::-1], half * 2]
        rows.append("".join(letter * 3 for letter in letters)[:80])
    return rows


def some_numbers(many, most):
    """At most about so many numbers from 0 on below many, rising, the ends among them."""
    if many <= most:
        return list(range(many))
    chance = random.Random(many)
    numbers = {0, 1, 2, many // 2, many - 3, many - 2, many - 1}
    numbers |= {chance.randrange(many) for _ in range(most)}
    return sorted(numbers)


def all_left(row):
    """All unlike rows left of the row, as texts are ordered, by leaving out letters in each way there is."""
    found = {""}
    for letter in row:
        found |= {left + letter for left in found}
    return sorted(found)


def wrong_places(many):
    """Pairs of a name and a thing that is no whole number from 0 on below many."""
    numbers = [-1, -2, -many, -many - 1, -10 ** 60, many, many + 1, 2 * many + 1, many + 2 ** 64, 10 ** 60]
    # Minus nought is no number below 0.
    pairs = [("number " + str(number), number) for number in numbers if not 0 <= number < many]
    pairs += [("text " + text, text) for text in ["", "0", "1", "-1", "a", " 0", "0\n", "None", "0" * 3000]]
    pairs += [("list of nought", [0]), ("tuple of nought", (0,)), ("dict of nought", {0: 0}), ("bytes", b"0")]
    whole = ["nought", "one", "minus one", "great", "small"]
    return pairs + [pair for pair in other_things() if pair[0] not in whole]


def wrong_rows(row):
    """Pairs of a name and a thing that isn't left of the row."""
    texts = wrong_texts() + [row + "a", "z" + row, row + row + "q", "ab" * 1500, (row + "A")[-3:], row + "\n", " " + row]
    pairs = [("text " + text[:90], text) for text in texts]
    pairs += [("its letters in a list", list(row)), ("its letters in a tuple", tuple(row)), ("in bytes", row.encode())]
    return pairs + other_things()


def thinned(row, share):
    """A row left of the row, of about a share of its letters in a hundred, the same one at each run."""
    chance = random.Random(share)
    return "".join(letter for letter in row if chance.randrange(100) < share)


def row_pairs():
    """Pairs of rows: alike, one left of the other, a letter otherwise or more, mirrored, drawn, of unlike letters."""
    chance = random.Random(14)
    pairs = [("", ""), ("", "a"), ("z", ""), ("a" * 80, "a" * 79), ("ab" * 40, "ba" * 40), (SMALL * 3, SMALL[::-1] * 3)]
    for letters in ["a", "by", "xyz", "bdfhz", SMALL]:
        for length in [1, 7, 26, 80]:
            row = "".join(chance.choice(letters) for _ in range(length))
            drawn = "".join(chance.choice(letters) for _ in range(chance.randrange(length + 1)))
            at = chance.randrange(length)
            otherwise = row[:at] + chance.choice(SMALL) + row[at + 1:]
            more = (row[:at] + chance.choice(letters) + row[at:])[:80]
            unlike = "".join(letter for letter in SMALL if letter not in row) * 2
            others = [row, thinned(row, 50), row[1:], otherwise, more, row[::-1], drawn, unlike, (letters * 80)[:length]]
            pairs += [(row, other) for other in others]
            pairs += [(other, row) for other in others[1:4]]
    return pairs


def some_letters(row):
    """Texts of unlike letters, rising: the row's own, with one that it hasn't got, with one less, one, and all."""
    own = "".join(sorted(set(row)))
    lacked = [letter for letter in SMALL if letter not in row]
    found = {own, own[1:], own[:-1], own[:1], own[-1:], own[::2], SMALL, "a", "z", "mn"}
    found |= {"".join(sorted(own + letter)) for letter in lacked[:1] + lacked[-1:]}
    return sorted(found - {""})


def wrong_letters():
    """Pairs of a name and a thing that is no text of unlike small letters, rising."""
    texts = ["", "aa", "zz", "ba", "za", "aba", "abb", "aab", "acb", "abcdefgg", SMALL + "z", "a" + SMALL, SMALL[::-1]]
    texts += ["A", "AB", "aB", "Ab", "ABC", "0", "1", "a1", "1a", " ", "a ", " a", "a b", "  ", "\n", "a\n", "\na", "a\nb"]
    texts += ["-", "a-z", "a,b", "None", "a" * 3000, SMALL * 100]
    return [("text " + text[:90], text) for text in texts + wrong_texts()] + other_things()


def wrong_single_letters():
    """Pairs of a name and a thing that is no small letter."""
    texts = ["", "ab", "aa", "A", "Z", "0", " ", "\n", "a\n", "\na", " a", "a ", "-", "`", "{", "abc" * 1000, SMALL]
    return [("text " + text[:90], text) for text in texts + wrong_texts()] + other_things()
