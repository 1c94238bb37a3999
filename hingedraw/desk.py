"""A desk that keeps machines, leads and curves by names, and answers lines about them."""

from hingedraw.curves import on_curve
from hingedraw.errors import BadNote, NoMachine, NoName
from hingedraw.leads import curve_led, kind_of, led, led_back
from hingedraw.machines import stand
from hingedraw.notes import (
    ask_text, curve_read, curve_text, fraction_read, fraction_text, leads_read, leads_text, machine_read, machine_text,
    point_read, point_text,
)

KINDS = ("machine", "leads", "curve")
LETTERS = "abcdefghijklmnopqrstuvwxyz"
MOST_LETTERS = 8
MOST_CRANKS = 6


def thing_read(kind, text):
    if kind == "machine":
        return machine_read(text)
    return leads_read(text) if kind == "leads" else curve_read(text)


def thing_text(kind, thing):
    if kind == "machine":
        return machine_text(thing)
    return leads_text(thing) if kind == "leads" else curve_text(thing)


def kind_text(kind):
    if kind is None:
        return "none"
    return " ".join([kind[0]] + [fraction_text(fraction) for fraction in kind[1:]])


def drive_read(word):
    return None if word == "none" else fraction_read(word)


def many_cranks(machine):
    return len([step for step in machine if step[0] == "crank"])


def ask_count(words, many):
    if len(words) != many:
        raise BadNote("too many words, or too few")


def ask_kind(word):
    if word not in KINDS:
        raise BadNote("no kind")


def ask_name(word):
    if not 1 <= len(word) <= MOST_LETTERS or not all([sign in LETTERS for sign in word]):
        raise BadNote("no name")


class Desk:

    def __init__(self):
        self.kept = {"machine": {}, "leads": {}, "curve": {}}

    def found(self, kind, name):
        if name not in self.kept[kind]:
            raise NoName("nothing of this kind is kept by this name")
        return self.kept[kind][name]

    def said_keep(self, words):
        if len(words) < 4:
            raise BadNote("too few words")
        ask_kind(words[1])
        ask_name(words[2])
        self.kept[words[1]][words[2]] = thing_read(words[1], " ".join(words[3:]))
        return "ok"

    def said_show(self, words):
        ask_count(words, 3)
        ask_kind(words[1])
        ask_name(words[2])
        return thing_text(words[1], self.found(words[1], words[2]))

    def said_names(self, words):
        ask_count(words, 2)
        ask_kind(words[1])
        return " ".join(sorted(self.kept[words[1]]))

    def said_stand(self, words):
        if not 2 <= len(words) <= 2 + MOST_CRANKS:
            raise BadNote("no name, or more drives than any machine has cranks")
        ask_name(words[1])
        drives = tuple([drive_read(word) for word in words[2:]])
        machine = self.found("machine", words[1])
        if many_cranks(machine) != len(drives):
            raise NoMachine("the machine has another count of cranks")
        return " ; ".join([point_text(point) for point in stand(machine, drives)])

    def said_led(self, words):
        ask_count(words, 4)
        ask_name(words[1])
        point = point_read(" ".join(words[2:]))
        return point_text(led(self.found("leads", words[1]), point))

    def said_back(self, words):
        ask_count(words, 3)
        ask_name(words[1])
        ask_name(words[2])
        self.kept["leads"][words[2]] = led_back(self.found("leads", words[1]))
        return "ok"

    def said_drawn(self, words):
        ask_count(words, 4)
        for word in words[1:]:
            ask_name(word)
        leads = self.found("leads", words[1])
        self.kept["curve"][words[3]] = curve_led(leads, self.found("curve", words[2]))
        return "ok"

    def said_kind(self, words):
        ask_count(words, 2)
        ask_name(words[1])
        return kind_text(kind_of(self.found("curve", words[1])))

    def said_on(self, words):
        ask_count(words, 4)
        ask_name(words[1])
        point = point_read(" ".join(words[2:]))
        return "on" if on_curve(self.found("curve", words[1]), point) else "off"

    def say(self, line):
        ask_text(line)
        words = line.split(" ")
        if words[0] == "keep":
            return self.said_keep(words)
        if words[0] == "show":
            return self.said_show(words)
        if words[0] == "names":
            return self.said_names(words)
        if words[0] == "stand":
            return self.said_stand(words)
        if words[0] == "led":
            return self.said_led(words)
        if words[0] == "back":
            return self.said_back(words)
        if words[0] == "drawn":
            return self.said_drawn(words)
        if words[0] == "kind":
            return self.said_kind(words)
        if words[0] == "on":
            return self.said_on(words)
        raise BadNote("no such line")
