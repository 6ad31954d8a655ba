"""Scripts, kinds and tables of short texts, with ` ; ` in the place of newlines."""

from meltback.kinds import Kind
from meltback.scripts import Script
from meltback.tables import Table


def script_of(columns, text=""):
    return Script.read(columns.split(), text.replace(" ; ", "\n"))


def kind_of(text):
    return Kind.read(text.replace(" ; ", "\n"))


def table_of(text):
    return Table.read(text.replace(" ; ", "\n"))
