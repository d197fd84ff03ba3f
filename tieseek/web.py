"""The web: things with their values, and the numbered ties between them."""

from tieseek.errors import Full, NoKey, NoName, NoNumber, NoThing, NoTie, StillTied, Twice
from tieseek.names import few_figures, good_name

MOST_THINGS = 100
MOST_TIES = 400


def check_name(name):
    if not good_name(name):
        raise NoName("a name has 1 to 12 small letters")


def check_number(number):
    # The refusal does not show the number: a very long one cannot be written out.
    if not few_figures(number):
        raise NoNumber("a number has at most sixty figures")


class Web:
    def __init__(self):
        # A dict keeps the order in which keys came: here that of the things,
        # and below that of the ties, whose numbers therefore always rise.
        self.kept_values = {}
        self.kept_ties = {}
        # Kept by itself, since a number is not given again when its tie is cut.
        self.coming_number = 0

    def check_thing(self, name):
        if name not in self.kept_values:
            raise NoThing("no thing has this name")

    def check_tie(self, number):
        if number not in self.kept_ties:
            raise NoTie("no tie has this number")

    def add_thing(self, name):
        check_name(name)
        if name in self.kept_values:
            raise Twice("a thing of this name is there")
        if len(self.kept_values) >= MOST_THINGS:
            raise Full("the web has no room for a further thing")
        self.kept_values[name] = {}

    def drop_thing(self, name):
        self.check_thing(name)
        if self.out_of(name) or self.into(name):
            raise StillTied("a tie starts or ends at this thing")
        self.kept_values.pop(name)

    def set_value(self, name, key, number):
        self.check_thing(name)
        check_name(key)
        check_number(number)
        self.kept_values[name][key] = number

    def take_value(self, name, key):
        self.check_thing(name)
        if key not in self.kept_values[name]:
            raise NoKey("the thing has no value of this key")
        self.kept_values[name].pop(key)

    def add_tie(self, start, name, end, weight=0):
        self.check_thing(start)
        self.check_thing(end)
        check_name(name)
        check_number(weight)
        if len(self.kept_ties) >= MOST_TIES:
            raise Full("the web has no room for a further tie")
        number = self.coming_number
        self.kept_ties[number] = (start, name, end, weight)
        self.coming_number = number + 1
        return number

    def cut_tie(self, number):
        self.check_tie(number)
        self.kept_ties.pop(number)

    def has_thing(self, name):
        return name in self.kept_values

    def things(self):
        return list(self.kept_values)

    def value(self, name, key):
        self.check_thing(name)
        return self.kept_values[name].get(key)

    def values_of(self, name):
        self.check_thing(name)
        return sorted(self.kept_values[name].items())

    def ties(self):
        return list(self.kept_ties)

    def tie(self, number):
        self.check_tie(number)
        return self.kept_ties[number]

    def out_of(self, name):
        self.check_thing(name)
        return [number for number in self.kept_ties if self.kept_ties[number][0] == name]

    def into(self, name):
        self.check_thing(name)
        return [number for number in self.kept_ties if self.kept_ties[number][2] == name]

    def named(self, name):
        return [number for number in self.kept_ties if self.kept_ties[number][1] == name]

    def twin(self):
        other = Web()
        # Each thing's values are copied by themselves, so that the two webs share none.
        other.kept_values = dict([(name, dict(self.kept_values[name])) for name in self.kept_values])
        other.kept_ties = dict(self.kept_ties)
        other.coming_number = self.coming_number
        return other
