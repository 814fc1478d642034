package schema_test

import (
	"fmt"
	"math/rand"
	"slices"
	"strings"
	"testing"

	"canopy/api"
	"canopy/schema"
)

// P801, P803: texts as Text writes them.
func TestText(t *testing.T) {
	ors, seqs := or(a(), text()), seq(a(), text())
	for want, m := range map[string]api.Model{
		"empty":                          void(),
		"any":                            anything(),
		"text":                           text(),
		"a":                              a(),
		"a | text":                       ors,
		"a, text":                        seqs,
		"empty | any | text | a":         or(void(), anything(), text(), a()),
		"empty, any, text, a":            seq(void(), anything(), text(), a()),
		"empty*":                         star(void()),
		"any+":                           plus(anything()),
		"text?":                          opt(text()),
		"a*":                             star(a()),
		"(a | text)*":                    star(ors),
		"(a | text)+":                    plus(ors),
		"(a | text)?":                    opt(ors),
		"(a, text)*":                     star(seqs),
		"(a, text)+":                     plus(seqs),
		"(a, text)?":                     opt(seqs),
		"(a*)*":                          star(star(a())),
		"(a*)+":                          plus(star(a())),
		"(a*)?":                          opt(star(a())),
		"(a+)*":                          star(plus(a())),
		"(a+)+":                          plus(plus(a())),
		"(a?)?":                          opt(opt(a())),
		"((a?)+)*":                       star(plus(opt(a()))),
		"a, text | a":                    or(seqs, a()),
		"a | a, text":                    or(a(), seqs),
		"a, text | a, text":              or(seqs, seqs),
		"(a | text), a":                  seq(ors, a()),
		"a, (a | text)":                  seq(a(), ors),
		"(a | text), (a | text)":         seq(ors, ors),
		"(a, text), a":                   seq(seqs, a()),
		"a, (a, text)":                   seq(a(), seqs),
		"(a | text) | a":                 or(ors, a()),
		"a | (a | text)":                 or(a(), ors),
		"a*, a+, a?":                     seq(star(a()), plus(a()), opt(a())),
		"a* | a+ | a?":                   or(star(a()), plus(a()), opt(a())),
		"(a | text)*, (a, text)+":        seq(star(ors), plus(seqs)),
		"(a | text)* | (a, text)+":       or(star(ors), plus(seqs)),
		"((a, text), a)?":                opt(seq(seqs, a())),
		"((a | text) | a)?":              opt(or(ors, a())),
		"a, (a, text | text)":            seq(a(), or(seqs, text())),
		"(a, (a | text))* | ((a?)+)*, a": or(star(seq(a(), ors)), seq(star(plus(opt(a()))), a())),
	} {
		want = "root a; element a = " + want + ";"
		if got := schema.Text(alone(m)); got != want {
			t.Errorf("P801: Text of %v: %q, not %q", m, got, want)
		}
		if s, at, err := schema.Parse(want); !same(s, alone(m)) || at != 0 || err != api.OK {
			t.Errorf("P803: Parse of %q: %v, %d, %v", want, s, at, err)
		}
	}
	for want, s := range map[string]api.Schema{
		"root a; element a = empty;":                                                  of("a", void()),
		"root b; element a = b; element b = a;":                                       of("b", b(), a()),
		"root a; element a = any; element b = text*; element c = a | b, c?;":          of("a", anything(), star(text()), or(a(), seq(b(), opt(name("c"))))),
		"root z; element z = roots; element roots = z;":                               {Root: "z", L: []api.Element{{Name: "z", M: name("roots")}, {Name: "roots", M: name("z")}}},
		"root abcdefgh; element b = empty; element abcdefgh = (b, abcdefgh)+ | text;": {Root: "abcdefgh", L: []api.Element{{Name: "b", M: void()}, {Name: "abcdefgh", M: or(plus(seq(b(), name("abcdefgh"))), text())}}},
	} {
		if got := schema.Text(s); got != want {
			t.Errorf("P801: Text of %v: %q, not %q", s, got, want)
		}
		if got := parsed(t, want); !same(got, s) {
			t.Errorf("P803: Parse of %q: %v", want, got)
		}
	}
}

// P803, T1: any schemas; and no parentheses of a text may be left out.
func TestThereAndBack(t *testing.T) {
	some(11, 6000, func(r *rand.Rand, s api.Schema) {
		written := schema.Text(s)
		if got, at, err := schema.Parse(written); !same(got, s) || at != 0 || err != api.OK {
			t.Fatalf("P803: Parse of %q: %v, %d, %v, not %v", written, got, at, err, s)
		}
		if got, at, err := plainRead(written); !same(got, s) || at != 0 || err != api.OK {
			t.Fatalf("P801: %q is %v, %d, %v, not %v", written, got, at, err, s)
		}
		if again := schema.Text(s); again != written {
			t.Fatalf("P3: %q, then %q", written, again)
		}
		if text := loose(r, s); len(text) <= api.MaxText {
			if got := schema.Text(parsed(t, text)); got != written {
				t.Fatalf("P801: Text of %q: %q, not %q", text, got, written)
			}
		}
		for i := range written {
			if written[i] == '(' && r.Intn(6) == 0 {
				j := partner(written, i)
				less := written[:i] + written[i+1:j] + written[j+1:]
				if got, _, err := schema.Parse(less); err == api.OK && same(got, s) {
					t.Fatalf("P801: %q has more parentheses than %q", written, less)
				}
			}
		}
		if strings.Contains(written, "( ") || strings.Contains(written, " )") || strings.Contains(written, "  ") || strings.HasSuffix(written, " ") {
			t.Fatalf("P801: blanks of %q", written)
		}
	})
}

// partner is the place of what closes the parenthesis at a place.
func partner(s string, at int) int {
	for i, open := at, 0; ; i++ {
		switch s[i] {
		case '(':
			open++
		case ')':
			open--
		}
		if open == 0 {
			return i
		}
	}
}

// P801: of a schema that is read, all is written, be it more than what was read.
func TestLongText(t *testing.T) {
	const some = "root a;element a="
	for _, between := range []string{",", "|", "*,", "+|"} {
		row := many(900/len(between), "a", between)
		got, want := schema.Text(parsed(t, some+row+";")), "root a; element a = "+strings.NewReplacer(",", ", ", "|", " | ").Replace(row)+";"
		if got != want {
			t.Errorf("P801: %d bytes, not %d", len(got), len(want))
		}
	}
	full := some + many(991, "a", ",") + ";"
	if got := schema.Text(parsed(t, full)); len(full) != 1999 || len(got) != 3+len(full)+990 {
		t.Errorf("P801: %d bytes, %d written", len(full), len(got))
	}
	if got := schema.Text(alone(or(slices.Repeat([]api.Model{seq(a(), star(text()))}, 3000)...))); got != "root a; element a = "+many(3000, "a, text*", " | ")+";" {
		t.Errorf("P801: %d bytes", len(got))
	}
}

// P801: two symbols of each element, as they stand, then a text's.
func TestSyms(t *testing.T) {
	for _, c := range []struct {
		s    api.Schema
		want string
	}{
		{of("a", void()), "[{a 1} {a 2} {text 3}]"},
		{of("b", b(), text()), "[{a 1} {a 2} {b 1} {b 2} {text 3}]"},
		{parsed(t, "root b; element zz = any; element b = zz; element abcdefgh = b;"), "[{zz 1} {zz 2} {b 1} {b 2} {abcdefgh 1} {abcdefgh 2} {text 3}]"},
		{of("c", a(), a(), a(), a(), a(), a(), a(), a()), "[{a 1} {a 2} {b 1} {b 2} {c 1} {c 2} {d 1} {d 2} {e 1} {e 2} {f 1} {f 2} {g 1} {g 2} {h 1} {h 2} {text 3}]"},
	} {
		if got := fmt.Sprint(schema.Syms(c.s)); got != c.want {
			t.Errorf("P801: Syms of %v: %s", c.s, got)
		}
	}
}

// P2: what is handed in stays, its spare room too, and what is answered is new.
func TestSymsRoom(t *testing.T) {
	some(12, 500, func(r *rand.Rand, s api.Schema) {
		f, g := roomy(s), roomy(s)
		got, spoilt := schema.Syms(f), schema.Syms(f)
		over(spoilt, api.Sym{Name: "no", Kind: -7})
		written := schema.Text(f)
		if !sameRoom(f, g) {
			t.Fatalf("P2: %v is %v now", g, f)
		}
		if again := schema.Syms(f); !slices.Equal(got, again) || !slices.Equal(again, schema.Syms(s)) {
			t.Fatalf("P2: Syms of %v: %v, once an answer is written over", s, again)
		}
		spoil(f)
		if !slices.Equal(got, schema.Syms(s)) || written != schema.Text(s) {
			t.Fatalf("P2: %v, %q, once what was handed in is written over", got, written)
		}
	})
}

// P1, P8: whatever is handed in, each call ends, and leaves it as it was; what Text writes of it Parse reads or refuses.
func TestWrong(t *testing.T) {
	words := [][]int{nil, {}, {0, 1}, {0, 2, 3, 1}, {0, 0, 1, 1}, {0, 4, 1}, {-1}, {1 << 62, -1 << 63}, {0, 1, 0, 1}, {1, 0}, {0}, {2, 3, 99}, {0, 52, 1}}
	for _, s := range wrongs() {
		before := fmt.Sprint(len(s.L), cap(s.L), s.Root)
		written := schema.Text(s)
		schema.Parse(written)
		schema.Syms(s)
		for _, w := range words {
			schema.Has(s, w)
		}
		if got := fmt.Sprint(len(s.L), cap(s.L), s.Root); got != before || schema.Text(s) != written {
			t.Errorf("P2: %s is %s now", before, got)
		}
	}
}
