"""The names of the interface, their parameters and the files in which they are defined."""

import importlib
import inspect
import unittest

INTERFACE = {
    "forms": ["is_term(value)", "is_sheet(value)", "places(sheet)", "part(sheet, place)"],
    "changes": [
        "rooted(sheet, name)", "trimmed(sheet)", "lifted(sheet, place, name)", "inlined(sheet, place)", "changed(sheet, place, term)",
        "grafted(sheet, place, other_sheet)", "renamed(sheet, pairs)", "unrolled(sheet, depth)"],
    "texts": ["thing_text(plain)", "sheet_text(sheet)", "thing_of(text)", "sheet_of(text)"],
    "things": ["is_thing(sheet, value)", "word_of(sheet, thing)", "has_empty(sheet)", "layout(sheet, thing)"],
    "rings": ["ring(sheet, place, bare=False)", "is_ring(sheet, value, bare=False)", "is_flat(sheet)", "levels(sheet)"],
    "faults": ["faults(sheet)", "overlap(sheet, place)", "is_overlap(sheet, place, value)"],
    "reading": ["read(sheet, bits, at=0)", "is_word(sheet, bits)", "can_follow(sheet, bits)", "rest(sheet, bits)", "read_run(sheet, bits, at=0)"],
    "lengths": ["lengths(sheet, most)", "length_table(sheet, most)", "is_closed(sheet, most, value)", "least_length(sheet)"],
    "growth": ["growth(sheet)", "is_growth(sheet, value)", "is_ceiling(sheet, value)", "ceiling(sheet)", "most_length(sheet)"],
    "prices": [
        "price_floor(sheet, zero, one, most)", "is_floor(sheet, zero, one, most, value)", "cheapest(sheet, zero, one, most)",
        "thing_of_length(sheet, length)"],
    "counting": [
        "count_table(sheet, most)", "is_count_table(sheet, most, value)", "count_things(sheet, length)", "counts_up_to(sheet, most)", "count_all(sheet)",
        "count_from(sheet, bits, length)", "nth_thing(sheet, number)", "rank_of(sheet, thing)"],
    "acceptors": [
        "bulk(sheet)", "teller_bulk(sheet)", "acceptor_of(sheet)", "is_least(value)", "state_behind(acceptor, state, bits)", "acceptor_read(acceptor, bits)",
        "first_word(acceptor, state)", "parted_by(acceptor, state, other_state)", "behind(acceptor, bits)", "is_full(acceptor)", "shares(acceptor)"],
    "tellers": ["teller_of(sheet)", "is_least_teller(value)", "known(teller, bits)", "state_known(teller, bits)"],
    "gaps": [
        "gap(acceptor)", "gap_at(acceptor, length)", "nearest(acceptor)", "heights(acceptor)", "is_height_table(acceptor, value)", "worth(acceptor, table)",
        "apart(acceptor, other_acceptor)"],
    "mending": ["fill(acceptor, holed)", "fill_count(acceptor, holed)", "mend(acceptor, bits)"],
    "finding": [
        "heard(acceptor, bits)", "settling(acceptor, open_state, other_open_state)", "standoff(acceptor)", "is_standoff(acceptor, value)",
        "is_finder(acceptor, bits)", "finder(acceptor)", "least_finder(acceptor)", "outside(acceptor)", "lock(acceptor)", "ranks(acceptor)", "rut(acceptor)",
        "is_rank_table(acceptor, value)", "is_rut(acceptor, value)", "struck(acceptor, bits, damage, index)", "slip(acceptor, damage)",
        "slipping(acceptor, damage)", "is_slipping(acceptor, damage, value)"],
    "versions": [
        "unread(acceptor, other_acceptor)", "common(acceptor, other_acceptor)", "collision(acceptor, other_acceptor)", "joined(acceptor, other_acceptor)",
        "room(acceptor)"],
    "leads": [
        "misread(teller, other_teller)", "lead_table(teller, other_teller)", "is_lead_table(teller, other_teller, value)", "lost(sheet, other_sheet)",
        "keeping(versions)"],
    "patterns": ["is_chart(value)", "turned_chart(chart)"],
    "maps": ["is_map(value)", "turned_map(mapping)", "mapped(mapping, plain)"],
    "charts": [
        "chart_of(mapping)", "shortened_map(mapping)", "same_map(mapping, other_mapping)", "is_below(mapping, other_mapping)",
        "parting(mapping, other_mapping)"],
    "carrying": ["misfit(sheet, mapping)", "unkept(sheet, mapping, other_sheet, *, most=8)"],
    "rules": ["rewritings(term)", "step_map(term, path, rule)", "weight(term)", "reach(term)"],
    "rewriting": [
        "put_in(sheet)", "is_rewriting_row(term, value)", "rewritten(term, steps)", "carried(term, steps, thing)", "is_normal_term(term)",
        "normal_row(term)", "normal_term(term)", "is_road(term, other_term, value)", "road(term, other_term)"],
    "codes": [
        "is_code(value)", "code_fault(code)", "code_of(sheet)", "rule_lengths(code)", "are_lengths(code, value)", "pace(code)", "is_pace(code, value)"],
    "feeding": [
        "begun(code)", "feed(code, held, bits)", "answer_of(code, bits)", "steps(code, held, bits)", "is_held(code, value)", "ending(code, held)",
        "death(code, held, bit)", "is_death(code, held, bit, value)"],
    "heldtexts": ["held_text(code, held)", "held_of(code, text)"],
    "streams": [
        "opened(code)", "fed(code, stream, bits)", "is_stream(code, value)", "stream_text(code, stream)", "stream_of(code, text)",
        "relayed(code, mapping, other_sheet, stream, bits)"],
    "sure": ["takes(form, plain)", "least_form(things)", "sure(code, held)", "samples(code, held)"],
    "wires": [
        "is_wire(value)", "packed(wire, pieces)", "woven(wire, pieces, most)", "turn_bits(wire, name, most)", "linked(wire)", "feed_link(wire, link, bits)",
        "is_link(wire, value)", "link_text(wire, link)", "link_of(wire, text)"],
    "spots": [
        "spot_stretch(sheet, thing, spot)", "spot_thing(sheet, thing, spot)", "spot_sizes(sheet, thing, spot)", "two_places(sheet, spot)",
        "place_by(sheet, spot, sizes)"],
    "bench": ["replay(wire, deeds)"],
}
CLASSES = {
    ("bench", "Bench"): [
        "__init__(self, wire)", "send(self, name, thing)", "pack(self, name, number)", "flip(self, index)", "lose(self, index)", "put(self, index, bit)",
        "take(self, count)", "renew(self, name)", "undo(self)", "begin(self)", "keep(self)", "drop(self)", "twin(self)", "queue(self, name)", "events(self)",
        "things(self, name)", "dead(self)", "link(self)", "sure(self, name)", "__len__(self)", "__iter__(self)", "__eq__(self, other)"],
    ("bench", "CarefulBench"): ["take(self, count)"],
    ("console", "Console"): ["__init__(self)", "execute(self, command)"],
}
PROPERTIES = ["wire", "tape", "taken", "deeds", "depth"]


class InterfaceTest(unittest.TestCase):
    def test_names_parameters_and_files(self):
        for file, rows in INTERFACE.items():
            module = importlib.import_module(f"termsonwires.{file}")
            for row in rows:
                name = row.split("(")[0]
                function = getattr(module, name)
                self.assertTrue(inspect.isfunction(function), row)
                self.assertEqual(function.__module__, module.__name__)
                self.assertEqual(name + str(inspect.signature(function)), row)

    def test_classes(self):
        for (file, name), rows in CLASSES.items():
            kind = getattr(importlib.import_module(f"termsonwires.{file}"), name)
            self.assertEqual(kind.__module__, f"termsonwires.{file}")
            for row in rows:
                method = vars(kind)[row.split("(")[0]]
                self.assertEqual(method.__name__ + str(inspect.signature(method)), row)
        bench = importlib.import_module("termsonwires.bench")
        self.assertTrue(all(isinstance(vars(bench.Bench)[word], property) for word in PROPERTIES))
        self.assertEqual(bench.CarefulBench.__bases__, (bench.Bench,))


if __name__ == "__main__":
    unittest.main()
