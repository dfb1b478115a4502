"""Books and desks as the document tells of them, worked out in the plainest way, without the package."""

import re

import oracle
import texts


def is_place(thing):
    return type(thing) is tuple and all(map(oracle.is_integer, thing))


def is_part(thing):
    return bool(oracle.is_term(thing) or oracle.is_long(thing))


FORMS = {
    "join": (oracle.is_name,), "edit": (oracle.is_name, oracle.is_name, is_place, is_part), "drop": (oracle.is_name, oracle.is_integer),
    "claim": (oracle.is_name, oracle.is_guard, oracle.is_term), "free": (oracle.is_integer,)}


def is_deed(thing):
    if type(thing) is not tuple or not thing or type(thing[0]) is not str or thing[0] not in FORMS:
        return False
    checks = FORMS[thing[0]]
    return len(thing) == len(checks) + 1 and all(check(part) for check, part in zip(checks, thing[1:]))


class Ledger:
    """What a book of some functions holds; whatever is refused is told as a tuple (error, argument ..)."""

    def __init__(self, functions):
        self.base = functions
        self.log, self.undone = [], []

    def state(self, log=None):
        """The sheets, the claims and the functions behind some deeds that were done."""
        sheets, claims = {}, []
        for deed in self.log if log is None else log:
            self.put(sheets, claims, deed)
        return sheets, claims, oracle.merged(self.base, list(sheets.values())) if sheets else self.base

    def put(self, sheets, claims, deed):
        word = deed[0]
        if word == "join":
            sheets[deed[1]] = []
        elif word == "edit":
            sheets[deed[1]].append(deed[2:])
        elif word == "drop":
            del sheets[deed[1]][deed[2]]
        elif word == "claim":
            claims.append(deed[1:])
        else:
            del claims[deed[1]]

    def refusal(self, deed):
        """Why a deed is refused, or None; of Broken without the world."""
        if not is_deed(deed):
            return ("NoDeed",)
        word = deed[0]
        sheets, claims, _ = self.state()
        if word == "join" and deed[1] in sheets:
            return ("Taken", deed[1])
        if word in ("edit", "drop") and deed[1] not in sheets:
            return ("NoEditor", deed[1])
        function = {"edit": deed[-3], "claim": deed[1]}.get(word) if len(deed) > 3 else None
        if function is not None and function not in self.base:
            return ("NoFunction", function)
        if word == "edit" and not oracle.is_edit(self.base, deed[2:]):
            return ("NoPlace", deed[3])
        if word in ("drop", "free") and deed[-1] not in range(len(sheets[deed[1]] if word == "drop" else claims)):
            return ("NoNumber", deed[-1])
        self.put(sheets, claims, deed)
        made = oracle.edited(self.base, sheets[deed[1]]) if word in ("edit", "drop") else None
        if type(made) is tuple:
            return made
        made = oracle.merged(self.base, list(sheets.values()))
        if type(made) is tuple:
            return made
        broken = [number for number, (name, guard, term) in enumerate(claims)
                  if not oracle.keeps_claim(oracle.whole(made, name), (guard, term))]
        return ("Broken", broken[0]) if broken else None

    def do(self, deed):
        told = self.refusal(deed)
        if told is None:
            self.log.append(deed)
            self.undone = []
        return told

    def back(self):
        if not self.log:
            return ("Nothing",)
        self.undone.append(self.log.pop())
        return self.undone[-1]

    def again(self):
        if not self.undone:
            return ("Nothing",)
        self.log.append(self.undone.pop())
        return self.log[-1]

    def word(self, function):
        sheets = list(self.state()[0].values())
        return oracle.verdict(self.base, sheets, function)[1] if sheets else "kept"

    def execute(self, line):
        """What a desk answers, or None if the line is none."""
        if re.search("[0-9]{41}", line):
            return None
        deed = read_deed(line)
        if deed is not None:
            told = self.do(deed)
            return "done" if told is None else "refused " + told[0]
        if line in ("back", "again"):
            told = self.back() if line == "back" else self.again()
            return "nothing" if told == ("Nothing",) else texts.shown_deed(told)
        sheets, claims, program = self.state()
        if line in ("editors", "claims"):
            return " ".join(sheets if line == "editors" else [function for function, _, _ in claims]) or "-"
        if line == "program":
            return texts.shown_program(program)
        found = re.fullmatch("(code|whole|word) ([a-z]+)|(run) ([a-z]+) ([^\n]*)", line)
        if not found:
            return None
        word, function = found[1] or found[3], found[2] or found[4]
        world = texts.read("world", found[5]) if word == "run" else {}
        if not oracle.is_name(function) or world is None:
            return None
        if function not in self.base:
            return "refused NoFunction"
        if word == "word":
            return self.word(function)
        if word == "run":
            return str(oracle.ran(program, function, world))
        return texts.shown(program[function][1] if word == "code" else oracle.whole(program, function))


def read_deed(line):
    """The deed that a line writes, or None."""
    word, _, rest = line.partition(" ")
    name, _, more = rest.partition(" ")
    number = int(more) if re.fullmatch("0|[1-9][0-9]*", more) else None
    deed = None
    if word == "join":
        deed = ("join", rest)
    elif word == "edit":
        deed = ("edit", name) + (texts.read("edit", more) or ())
    elif word == "drop":
        deed = ("drop", name, number)
    elif word == "claim":
        deed = ("claim", name) + (texts.read("claim", more) or ())
    elif word == "free" and re.fullmatch("0|[1-9][0-9]*", rest):
        deed = ("free", int(rest))
    return deed if is_deed(deed) else None
