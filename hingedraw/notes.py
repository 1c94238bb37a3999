"""Notes: machines, leads, curves and points as texts, and such texts read; just what is written is read."""

from hingedraw.errors import BadNote
from hingedraw.fractions import is_fraction, is_whole
from hingedraw.leads import is_lead
from hingedraw.machines import is_machine
from hingedraw.roots import is_number, is_plain, one_field

FIGURES = "0123456789"
BLOCK = 64
MOST_LEADS = 6
# The places behind a step's word at which a whole number stands, not a fraction.
WHOLE_AT = {"crank": (1,), "pair": (1, 2, 5), "like": (1, 2)}


def whole_text(number):
    # Python refuses to write very long numbers at once, so they are written in blocks.
    block = 10 ** 64
    rest = abs(number)
    blocks = []
    while rest >= block:
        blocks.append(str(rest % block).zfill(BLOCK))
        rest = rest // block
    blocks.append(str(rest))
    if number < 0:
        blocks.append("-")
    return "".join(reversed(blocks))


def fraction_text(fraction):
    if fraction[1] == 1:
        return whole_text(fraction[0])
    return whole_text(fraction[0]) + "/" + whole_text(fraction[1])


def number_text(number):
    if is_plain(number):
        return fraction_text(number[0])
    return fraction_text(number[0]) + "@" + fraction_text(number[1])


def point_text(point):
    return number_text(point[0]) + " " + number_text(point[1])


def written(thing):
    return whole_text(thing) if is_whole(thing) else fraction_text(thing)


def row_text(row):
    # A step or a lead: its word, and what stands behind it.
    return " ".join([row[0]] + [written(thing) for thing in row[1:]])


def machine_text(machine):
    return " ; ".join([row_text(step) for step in machine])


def leads_text(leads):
    return " ; ".join([row_text(lead) for lead in leads])


def curve_text(curve):
    sums = []
    for key in sorted(curve, reverse=True):
        sums.append(" ".join([fraction_text(curve[key]), whole_text(key[0]), whole_text(key[1])]))
    return " ; ".join(sums)


def figures_read(figures):
    # Python refuses to read very long numbers at once too.
    head = len(figures) % BLOCK
    number = int("0" + figures[:head])
    for at in range(head, len(figures), BLOCK):
        number = number * 10 ** 64 + int(figures[at:at + BLOCK])
    return number


def whole_read(word):
    figures = word[1:] if word.startswith("-") else word
    if figures == "" or not all([sign in FIGURES for sign in figures]):
        raise BadNote("a whole number is to stand here")
    if figures[0] == "0" and word != "0":
        raise BadNote("a number is written without a leading 0, and 0 without a sign")
    number = figures_read(figures)
    return -number if word.startswith("-") else number


def fraction_read(word):
    parts = word.partition("/")
    if parts[1] == "":
        return (whole_read(word), 1)
    fraction = (whole_read(parts[0]), whole_read(parts[2]))
    if not is_fraction(fraction) or fraction[1] == 1:
        raise BadNote("a fraction is written in lowest terms")
    return fraction


def number_read(word):
    parts = word.partition("@")
    if parts[1] == "":
        return (fraction_read(word), (0, 1))
    number = (fraction_read(parts[0]), fraction_read(parts[2]))
    if not is_number(number) or is_plain(number):
        raise BadNote("under a root stands no square")
    return number


def ask_text(thing):
    if not isinstance(thing, str):
        raise BadNote("no text")


def point_read(text):
    ask_text(text)
    words = text.split(" ")
    if len(words) != 2:
        raise BadNote("a point is two numbers")
    point = (number_read(words[0]), number_read(words[1]))
    if not one_field(point[0], point[1]):
        raise BadNote("a point's numbers are of one field")
    return point


def rows_of(text):
    ask_text(text)
    return [row.split(" ") for row in text.split(" ; ")]


def step_read(words):
    step = [words[0]]
    for at, word in enumerate(words[1:], start=1):
        step.append(whole_read(word) if at in WHOLE_AT.get(words[0], ()) else fraction_read(word))
    return tuple(step)


def machine_read(text):
    machine = tuple([step_read(words) for words in rows_of(text)])
    if not is_machine(machine):
        raise BadNote("no machine")
    return machine


def lead_read(words):
    lead = tuple([words[0]] + [fraction_read(word) for word in words[1:]])
    if not is_lead(lead):
        raise BadNote("no lead")
    return lead


def leads_read(text):
    leads = [lead_read(words) for words in rows_of(text)]
    if len(leads) > MOST_LEADS:
        raise BadNote("too many leads")
    return leads


def power_read(word):
    if len(word) != 1:
        raise BadNote("a power is one figure")
    return whole_read(word)


def curve_read(text):
    curve = {}
    last = None
    for words in rows_of(text):
        if len(words) != 3:
            raise BadNote("a sum is a number and two powers")
        fraction = fraction_read(words[0])
        key = (power_read(words[1]), power_read(words[2]))
        if fraction[0] == 0 or (last is not None and key >= last):
            raise BadNote("sums are not 0, and fall by their powers")
        curve[key] = fraction
        last = key
    return curve
