"""What is told of free runs: their events, and the values that they hold."""

from loadanywhere.errors import BadAnswer
from loadanywhere.freeled import Led
from loadanywhere.freenumbers import SumNumbers
from loadanywhere.freeruns import REGISTERS, FreeRun, program_of
from loadanywhere.kinds import is_row


def led_by(image, answers):
    """The free run of an image behind these answers."""
    if not is_row(answers):
        raise BadAnswer(0)
    led = Led(FreeRun(program_of(image, SumNumbers())))
    led.give(answers)
    return led


def free_events(image, answers):
    led = led_by(image, answers)
    if not led.over:
        return led.heard + [("wait",)]
    return led.heard


def shown_value(run, value):
    if value[0] == "at":
        return value
    return ("number", run.program.numbers.shown(value[1]))


def shown_state(run):
    """Where a free run stands, the values of its registers, and those of its data words."""
    values = [shown_value(run, value) for value in run.held]
    words = {address: values[where] for address, where in run.program.wheres.items()}
    return (run.spot, tuple(values[:REGISTERS]), words)


def free_state(image, answers):
    return shown_state(led_by(image, answers).free)
