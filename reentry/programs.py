"""Bodies of entries as rows of steps with jumps.

A call that waits is known by its step alone in such a row, whatever stands around it, so that a run
can go on behind it.
"""

from reentry.expressions import Number
from reentry.limits import FAIL
from reentry.statements import Assign, Attempt, Call, Fail, If, Return

# The label of the step to which a failure leads that no attempt takes.
UNHANDLED = 0


class Step:
    """What is done at a place of a program, and the line of its statement, if it has one."""

    def __init__(self, word, line=None, expression=None, size=None, name=None, target=None, into=None):
        self.word = word
        self.line = line
        self.expression = expression
        self.size = size
        self.name = name
        self.target = target
        self.into = into


class Coder:
    """Turns a body into steps. A label is the index of its place in `places`."""

    def __init__(self, sizes, callouts, results, line):
        self.sizes = sizes
        self.callouts = callouts
        self.results = results
        self.line = line
        self.steps = []
        self.places = [None]

    def code_entry(self, body):
        """Add the steps of an entry with this body."""
        self.code_body(body, UNHANDLED)
        self.steps.append(Step("return", None, Number(0), self.results))
        self.set_label(UNHANDLED)
        self.steps.append(Step("failed"))

    def code_body(self, body, handler):
        """Add the steps of a body; what fails in it leads to the label `handler`."""
        for statement in body:
            self.code_statement(statement, handler)

    def code_statement(self, statement, handler):
        """Add the steps of a statement."""
        line = self.line
        self.line = line + 1
        if isinstance(statement, Assign):
            size = self.sizes[statement.name]
            self.steps.append(Step("assign", line, statement.expression, size, statement.name))
        elif isinstance(statement, Call):
            size = self.callouts[statement.name]
            step = Step("call", line, statement.expression, size, statement.name, handler, statement.into)
            self.steps.append(step)
        elif isinstance(statement, Return):
            self.steps.append(Step("return", line, statement.expression, self.results))
        elif isinstance(statement, Fail):
            self.steps.append(Step("jump", line, target=handler))
        elif isinstance(statement, If):
            self.code_if(statement, line, handler)
        elif isinstance(statement, Attempt):
            self.code_attempt(statement, line, handler)
        else:
            self.code_while(statement, line, handler)

    def code_if(self, statement, line, handler):
        """Add the steps of an `if`."""
        otherwise = self.new_label()
        self.steps.append(Step("test", line, statement.test, target=otherwise))
        self.code_body(statement.body, handler)
        self.code_second(statement.otherwise, otherwise, handler)

    def code_attempt(self, statement, line, handler):
        """Add the steps of an `attempt`."""
        failed = self.new_label()
        self.steps.append(Step("begin", line))
        self.code_body(statement.body, failed)
        self.code_second(statement.handler, failed, handler)

    def code_second(self, body, label, handler):
        """Add the steps of a second body, which begins at this label, and a jump over it."""
        end = self.new_label()
        self.steps.append(Step("jump", target=end))
        self.set_label(label)
        if body:
            # The line between the bodies is `else`.
            self.line = self.line + 1
        self.code_body(body, handler)
        self.set_label(end)

    def code_while(self, statement, line, handler):
        """Add the steps of a `while`."""
        again = self.new_label()
        end = self.new_label()
        self.set_label(again)
        self.steps.append(Step("loop", line, statement.test, target=end))
        self.code_body(statement.body, handler)
        self.steps.append(Step("jump", target=again))
        self.set_label(end)

    def new_label(self):
        """A label whose place is not known yet."""
        self.places.append(None)
        return len(self.places) - 1

    def set_label(self, label):
        """Let the label stand for the place of the next step."""
        self.places[label] = len(self.steps)


class Program:
    """An entry of a module, as it is run."""

    def __init__(self, entry, variables, callouts, line):
        self.name = entry.name
        self.shared = tuple([variable[0] for variable in variables])
        self.own = (entry.parameter,) + tuple([slot[0] for slot in entry.slots])
        sizes = sizes_in(entry, variables)
        coder = Coder(sizes, {callout[0]: callout[1] for callout in callouts}, entry.results, line)
        coder.code_entry(entry.body)
        self.sizes = sizes
        self.steps = coder.steps
        self.places = coder.places

    def begin(self, store, value):
        """The response to a call, the store behind it, and the frame or None."""
        return self.run_from(store, 0, self.values_of_call(store, value))

    def go_on(self, store, place, own, answer):
        """The same for an answer to the call statement at this place, with these values of its frame."""
        values = self.values_from(store, own)
        behind = self.take_answer(place, answer, values)
        return self.run_from(store, behind, values)

    def lines_of_call(self, store, value):
        """The lines of the statements that a call runs, as the keys of a dict."""
        return self.lines_from(0, self.values_of_call(store, value))

    def lines_of_answer(self, store, place, own, answer):
        """The same for an answer to the call statement at this place, with these values of its frame."""
        values = self.values_from(store, own)
        behind = self.take_answer(place, answer, values)
        return self.lines_from(behind, values)

    def values_of_call(self, store, value):
        """The values of all names when a call with this value begins."""
        return self.values_from(store, (value,) + (0,) * (len(self.own) - 1))

    def values_from(self, store, own):
        """The values of all names, from those of the variables and those of the parameter and slots."""
        return dict(zip(self.shared + self.own, store + own))

    def take_answer(self, place, answer, values):
        """The place where the run goes on when the call statement at this place is answered.

        If a name gets the answer, it has it in `values` then.
        """
        step = self.steps[place]
        if answer == FAIL:
            return self.places[step.target]
        if step.into is not None:
            values[step.into] = answer % self.sizes[step.into]
        return place + 1

    def lines_from(self, place, values):
        """The lines of the statements that a run from this place on runs. It changes `values`."""
        lines = {}
        last_step(self.steps, self.places, place, values, lines)
        return lines

    def run_from(self, store, place, values):
        """What a run from this place on leads to. It changes `values`."""
        step = last_step(self.steps, self.places, place, values)
        if step is None:
            return ("hang",), store, None
        behind = tuple([values[name] for name in self.shared])
        if step.word == "failed":
            return ("back", FAIL), behind, None
        value = step.expression.worth(values) % step.size
        if step.word == "return":
            return ("back", value), behind, None
        return ("out", step.name, value), behind, (step.line, tuple([values[name] for name in self.own]))


def sizes_in(entry, variables):
    """The sizes of all names that an entry may use."""
    sizes = {variable[0]: variable[1] for variable in variables}
    sizes[entry.parameter] = entry.arguments
    for name, size in entry.slots:
        sizes[name] = size
    return sizes


def last_step(steps, places, place, values, lines=None):
    """Run steps from this place on, up to one that ends the run; it is returned, or None if there is none.

    The names get their new values in `values`. If `lines` is a dict, the lines of the statements become keys of it.
    """
    seen = {}
    while True:
        step = steps[place]
        if lines is not None and step.line is not None:
            lines[step.line] = True
        if step.word == "assign":
            values[step.name] = step.expression.worth(values) % step.size
            place += 1
        elif step.word == "test" or step.word == "loop":
            if step.word == "loop":
                # A run without end comes to a loop with the same values again, since these are finitely many.
                point = (place, tuple(values.values()))
                if point in seen:
                    return None
                seen[point] = True
            place = places[step.target] if step.expression.worth(values) == 0 else place + 1
        elif step.word == "jump":
            place = places[step.target]
        elif step.word == "begin":
            place += 1
        else:
            return step
