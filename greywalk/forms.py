"""The forms of deeds: what stands behind the word in a deed's tuple, place by place."""

# A slot is one of the hand that was told last ahead of it.
FORMS = {
    "make": ("hand", "slot", "many", "bulk"),
    "get": ("hand", "slot", "slot", "field"),
    "put": ("hand", "slot", "field", "slot"),
    "copy": ("hand", "slot", "slot"),
    "drop": ("hand", "slot"),
    "give": ("hand", "slot", "hand", "slot"),
    "write": ("hand", "slot", "load"),
    "read": ("hand", "slot"),
    "name": ("hand", "slot", "word"),
    "seek": ("hand", "slot", "word"),
}


def forms_of(word):
    return FORMS.get(word)
