"""The texts of [110], written and read in the plainest way, without the package."""

import re

import oracle


def shown_term(term):
    return term[0] + ("(" + ",".join(map(shown_term, term[1:])) + ")" if term[1:] else "")


def shown(code):
    """A long code, a guard or a fact."""
    if code[0] == "go":
        return "go " + code[1] + " (" + ",".join(map(shown_term, code[2])) + ")"
    if code[0] == "with":
        return "with " + code[1] + " " + shown(code[2]) + " " + shown(code[3])
    words = [code[0]] + [shown_term(part) for part in code[1:3]] + [shown(part) for part in code[3:]]
    return " ".join(words)


def shown_claim(claim):
    return shown(claim[0]) + " " + shown_term(claim[1])


def shown_key(key):
    return key[0] + ("(" + ",".join(map(str, key[1:])) + ")" if key[1:] else "")


def shown_world(world):
    return " ".join(shown_key(key) + "=" + str(world[key]) for key in sorted(world)) if world else "-"


def shown_edit(edit):
    part = shown_term(edit[2]) if oracle.is_term(edit[2]) else shown(edit[2])
    return edit[0] + " " + (".".join(map(str, edit[1])) if edit[1] else "-") + " " + part


def shown_program(functions):
    return "".join(name + " " + ",".join(functions[name][0]) + " " + shown(functions[name][1]) + "\n"
                   for name in sorted(functions))


def shown_deed(deed):
    if deed[0] == "edit":
        return "edit " + deed[1] + " " + shown_edit(deed[2:])
    if deed[0] == "claim":
        return "claim " + deed[1] + " " + shown_claim(deed[2:])
    return " ".join(map(str, deed))


class Odd(Exception):
    """The text writes nothing."""


class Reader:
    """A text that is read sign by sign from its beginning."""

    def __init__(self, text):
        self.text, self.at = text, 0

    def take(self, pattern):
        found = re.compile(pattern).match(self.text, self.at)
        if not found:
            raise Odd(pattern)
        self.at = found.end()
        return found.group()

    def name(self):
        found = self.take("[a-z]+")
        if not oracle.is_name(found):
            raise Odd(found)
        return found

    def number(self):
        return int(self.take("(0|[1-9][0-9]*)(?![0-9])"))

    def listed(self, one, ahead=r"\(", between=",", behind=r"\)"):
        """Things between signs, with signs between them, at least one."""
        self.take(ahead)
        found = [one()]
        while re.compile(between).match(self.text, self.at):
            self.take(between)
            found.append(one())
        self.take(behind)
        return tuple(found)

    def term(self):
        name = self.name()
        return (name,) + (self.listed(self.term) if self.text[self.at:self.at + 1] == "(" else ())

    def key(self):
        name = self.name()
        return (name,) + (self.listed(self.number) if self.text[self.at:self.at + 1] == "(" else ())

    def behind_blank(self, one):
        self.take(" ")
        return one()

    def forked(self, end):
        if not re.compile("if ").match(self.text, self.at):
            return end()
        self.take("if")
        terms = (self.behind_blank(self.term), self.behind_blank(self.term))
        return ("if",) + terms + (self.behind_blank(lambda: self.forked(end)), self.behind_blank(lambda: self.forked(end)))

    def code(self):
        return self.forked(self.no_if)

    def no_if(self):
        word = self.take("tell|with|go")
        if word == "tell":
            return (word, self.behind_blank(self.term))
        name = self.behind_blank(self.name)
        if word == "with":
            return (word, name, self.behind_blank(self.code), self.behind_blank(self.code))
        self.take(" ")
        if self.text[self.at:self.at + 2] == "()":
            self.take(r"\(\)")
            return (word, name, ())
        return (word, name, self.listed(self.term))

    def guard(self):
        return self.forked(lambda: (self.take("yes|no"),))

    def fact(self):
        return (self.take("alike|unlike"), self.behind_blank(self.term), self.behind_blank(self.term))

    def claim(self):
        return (self.guard(), self.behind_blank(self.term))

    def worth(self):
        key = self.key()
        self.take("=")
        return key, self.number()

    def world(self):
        if self.text == "-":
            self.take("-")
            return {}
        found = self.listed(self.worth, "", " ", "")
        if sorted({key for key, _ in found}) != [key for key, _ in found]:
            raise Odd("keys")
        return dict(found)

    def place(self):
        if self.text[self.at:self.at + 1] == "-":
            self.take("-")
            return ()
        return self.listed(self.number, "", r"\.", "")

    def edit(self):
        function, place = self.name(), self.behind_blank(self.place)
        self.take(" ")
        is_code = re.compile("(tell|if|with|go) ").match(self.text, self.at)
        return (function, place, self.code() if is_code else self.term())

    def line(self):
        name = self.name()
        self.take(" ")
        givens = list(self.listed(self.name, "", ",", " "))
        found = (name, (givens, self.code()))
        self.take("\n")
        return found

    def program(self):
        """The functions of a program, as a dict."""
        found = self.listed(self.line, "", "(?=.)", "")
        functions = dict(found)
        if sorted(functions) != [name for name, _ in found] or oracle.refusal(functions):
            raise Odd("functions")
        return functions


def read(kind, text):
    """What a text writes, or None: a world may be empty, so see whether it is None."""
    reader = Reader(text)
    try:
        found = getattr(reader, kind)()
        if reader.at != len(text):
            raise Odd("more")
    except Odd:
        return None
    return found
