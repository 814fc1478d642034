package schema_test

import (
	"math"
	"math/rand"
	"slices"
	"strings"
	"testing"

	"canopy/api"
	"canopy/schema"
	"canopy/word"
)

// fits tells whether s has the word that a text writes.
func fits(t *testing.T, s api.Schema, written string) bool {
	t.Helper()
	w, _, err := word.Parse(schema.Syms(s), written)
	if err != api.OK {
		t.Fatalf("Parse of %q: %v", written, err)
	}
	return schema.Has(s, w)
}

// P802: words of each kind of model. T stands for text, A and B for elements that hold what they may, each of them at the least.
func TestHas(t *testing.T) {
	for model, c := range map[string]struct{ yes, no string }{
		"empty":              {".", "T A B TT"},
		"text":               {"T", ". A B TT AT"},
		"b":                  {"B", ". A T BB BT"},
		"any":                {". T A B TT BB AA TBTBA", ""},
		"b?":                 {". B", "A T BB"},
		"b*":                 {". B BB BBBBB", "A T AB BT BBA"},
		"b+":                 {"B BB BBBBB", ". A T AB BT BBA"},
		"text*":              {". T TTTT", "B TB A"},
		"empty*":             {".", "B T A BB"},
		"empty+":             {".", "B T"},
		"empty?":             {".", "B T"},
		"any*":               {". T A BTA", ""},
		"any+":               {". T A BTA", ""},
		"any?":               {". T A BTA", ""},
		"any, text":          {"T TT BT ABTT", ". B TB A BBTA"},
		"text, any":          {"T TT TB TABT", ". B BT A"},
		"any, b, any":        {"B BB TB BT TBT ABA", ". T A TAT"},
		"b, text":            {"BT", ". B T TB BTB BBT"},
		"b, b":               {"BB", ". B BBB BT"},
		"b, empty, text":     {"BT", "B T . TB"},
		"b | text":           {"B T", ". A BT TB BB"},
		"b | empty | text":   {". B T", "A BT BB"},
		"b, text | text, b":  {"BT TB", ". B T BTTB BB TT"},
		"(b | text), b":      {"BB TB", "B T BT . BBB"},
		"b, (b | text)":      {"BB BT", "B T TB . BBB"},
		"(b | text)*":        {". B T BT TTBBT", "A BTA"},
		"(b, text)*":         {". BT BTBT", "B T TB BTB BTTB"},
		"(b, text)+":         {"BT BTBT", ". B T BTB"},
		"(b, text)?":         {". BT", "B T BTBT"},
		"(b*)*":              {". B BBB", "T A"},
		"(b*)+":              {". B BBB", "T A"},
		"(b?)+":              {". B BBB", "T BT"},
		"(b+)?":              {". B BBB", "T BT"},
		"(b+)*":              {". B BBB", "T BT"},
		"(b+)+":              {"B BBB", ". T BT"},
		"(b*, text?)*":       {". T TT BTB TBBT", "A TA"},
		"(b*, text)*":        {". T BT BBTT", "B TB BTB"},
		"b*, b":              {"B BB BBBB", ". T BT"},
		"b?, b?, b?":         {". B BB BBB", "BBBB T"},
		"b+, text+":          {"BT BBTT", "B T . TB BTB"},
		"(b | b), text?":     {"B BT", ". T BB"},
		"(b, b)*":            {". BB BBBB", "B BBB"},
		"(b, b)*, (b, b, b)": {"BBB BBBBB", ". B BB BBBB"},
		"b*, (text, b*)*":    {". B T BTBBT TT", "A BA"},
		"a":                  {"A", ". B T AA"},
		"a?":                 {". A", "B T AA"},
		"a, b | text":        {"T AB", ". A B BA ABT"},
		"(a | b)*":           {". A B ABBA", "T ATB"},
	} {
		s := parsed(t, "root a; element a = "+model+" | text, text, text, text, text, text; element b = empty;")
		for _, written := range strings.Fields(c.yes) {
			if w := plainWord(written); !fits(t, s, w) {
				t.Errorf("P802: %s has not %s", model, w)
			}
		}
		for _, written := range strings.Fields(c.no) {
			if w := plainWord(written); fits(t, s, w) {
				t.Errorf("P802: %s has %s", model, w)
			}
		}
	}
}

// plainWord is the word of an a that holds what the letters tell; an a in it holds six texts.
func plainWord(letters string) string {
	return strings.NewReplacer(".", "", "T", " text", "A", " <a>"+strings.Repeat(" text", 6)+" </a>", "B", " <b> </b>").Replace("<a>"+letters) + " </a>"
}

// P802: words that are no whole element of the root, and such as hold what may not be further in.
func TestHasWords(t *testing.T) {
	s := parsed(t, "root a; element b = any; element a = b*, c?; element c = text | a;")
	for written, want := range map[string]bool{
		"":                           false,
		"text":                       false,
		"<a>":                        false,
		"</a>":                       false,
		"<a> </a>":                   true,
		"<a> </b>":                   false,
		"<b> </b>":                   false,
		"</a> <a>":                   false,
		"<a> </a> text":              false,
		"text <a> </a>":              false,
		"<a> </a> <a> </a>":          false,
		"<a> <a> </a>":               false,
		"<a> </a> </a>":              false,
		"<a> <a> </a> </a>":          false,
		"<a> text </a>":              false,
		"<a> <b> </b> </a>":          true,
		"<a> <b> </a> </b>":          false,
		"<a> <b> </c> </a>":          false,
		"<a> </b> <b> </a>":          false,
		"<a> <b> </b> <b> </b> </a>": true,
		"<a> <b> text <b> </b> <a> </a> </b> </a>":      true,
		"<a> <b> <c> text </c> </b> </a>":               true,
		"<a> <b> <c> </c> </b> </a>":                    false,
		"<a> <b> <b> <c> text text </c> </b> </b> </a>": false,
		"<a> <c> text </c> </a>":                        true,
		"<a> <c> <a> </a> </c> </a>":                    true,
		"<a> <c> <a> <c> text </c> </a> </c> </a>":      true,
		"<a> <c> <a> <c> </c> </a> </c> </a>":           false,
		"<a> <c> text </c> <b> </b> </a>":               false,
		"<a> <c> <b> </b> </c> </a>":                    false,
		"<a> <b> </b> <c> <a> </a> text </c> </a>":      false,
		"<a> <b> <b> </a> </b> </a>":                    false,
		"<a> <b> <a> </b> </a> </a>":                    false,
	} {
		if fits(t, s, written) != want {
			t.Errorf("P802: %s: %v", written, !want)
		}
	}
	for _, w := range [][]int{{-1}, {2, 3, 7}, {2, -1, 3}, {2, 7, 3}, {7}, {2, 3, math.MaxInt}, {math.MinInt, 2, 3}, {2, 0, 7, 1, 3}, {2, 0, -7, 1, 3}} {
		if schema.Has(s, w) {
			t.Errorf("P802: %v", w)
		}
	}
	if !schema.Has(s, []int{2, 0, 6, 1, 3}) {
		t.Error("P802: a text in b")
	}
}

// wordOf is a word of m, what repeats gone around up to twice; false: none was found, as it would be too deep, or long.
func wordOf(r *rand.Rand, s api.Schema, m api.Model, deep int) ([]int, bool) {
	parts := m.L
	switch m.Kind {
	case api.MText:
		return []int{2 * len(s.L)}, true
	case api.MName:
		i := plainPlace(s, m.Name)
		if deep == 0 {
			return nil, false
		}
		w, ok := wordOf(r, s, s.L[i].M, deep-1)
		return slices.Concat([]int{2 * i}, w, []int{2*i + 1}), ok
	case api.MAny:
		for range r.Intn(4) {
			parts = append(parts, []api.Model{text(), name(s.L[r.Intn(len(s.L))].Name)}[r.Intn(2)])
		}
	case api.MOr:
		return wordOf(r, s, m.L[r.Intn(len(m.L))], deep)
	case api.MStar, api.MPlus, api.MOpt:
		least, most := []int{0, 1, 0}[m.Kind-api.MStar], []int{2, 2, 1}[m.Kind-api.MStar]
		parts = slices.Repeat(m.L, least+r.Intn(most-least+1))
	}
	var w []int
	for _, part := range parts {
		v, ok := wordOf(r, s, part, deep)
		if !ok {
			return nil, false
		}
		w = append(w, v...)
	}
	return w, len(w) < 200
}

// changed is w with one symbol set, left out or put in, or two exchanged.
func changed(r *rand.Rand, w []int, syms int) []int {
	at, sym := r.Intn(len(w)+1), r.Intn(syms)
	w = slices.Clone(w)
	switch k := r.Intn(4); {
	case k == 0:
		return slices.Insert(w, at, sym)
	case at == len(w):
	case k == 1:
		return slices.Delete(w, at, at+1)
	case k == 2:
		w[at] = sym
	default:
		w[at], w[len(w)/2] = w[len(w)/2], w[at]
	}
	return w
}

// P802: words that a schema has, such that are changed, and any, held against patterns.
func TestAny(t *testing.T) {
	yes, deep, no, near := 0, 0, 0, 0
	some(21, 5000, func(r *rand.Rand, s api.Schema) {
		want, syms := plainHas(s), 2*len(s.L)+1
		for range 12 {
			w := make([]int, r.Intn(5))
			for i := range w {
				w[i] = r.Intn(syms)
			}
			v, ok := wordOf(r, s, name(s.Root), 1+r.Intn(8))
			if ok {
				if !schema.Has(s, v) {
					t.Fatalf("P802: %s has not %v", schema.Text(s), v)
				}
				w = changed(r, v, syms)
			}
			has := want(w)
			if got := schema.Has(s, w); got != has || got != schema.Has(s, w) {
				t.Fatalf("P802: %s, %v: %v", schema.Text(s), w, got)
			}
			switch {
			case ok && len(v) > 10:
				deep++
			case has:
				yes++
			case ok:
				near++
			default:
				no++
			}
		}
	})
	if yes < 1000 || deep < 1000 || no < 4000 || near < 4000 {
		t.Error(yes, deep, no, near)
	}
}

// P802: all words of up to six symbols.
func TestShortWords(t *testing.T) {
	for _, written := range []string{
		"root a; element a = any; element b = any;",
		"root a; element a = a?, b; element b = text*;",
		"root b; element a = b | empty; element b = a*, text?;",
		"root a; element a = (a | text)+ | empty; element b = b;",
		"root a; element a = (b?, text?)*; element b = (a | empty), empty;",
		"root b; element a = text, any; element b = any, text | a+;",
	} {
		s := parsed(t, written)
		want, row := plainHas(s), [][]int{nil}
		for n := range 7 {
			var longer [][]int
			for _, w := range row {
				if got := schema.Has(s, w); got != want(w) {
					t.Fatalf("P802: %s, %v: %v", written, w, got)
				}
				for k := range 5 {
					if n < 6 {
						longer = append(longer, append(slices.Clone(w), k))
					}
				}
			}
			row = longer
		}
	}
}

// P802, P1: words that are long, or deep, of models that may be read in very many ways.
func TestLongWords(t *testing.T) {
	const n = 200000
	for _, c := range []struct {
		model, ahead, again, behind string
		times                       int
		want                        bool
	}{
		{"text*", "<a>", " text", " </a>", n, true},
		{"text*, b", "<a>", " text", " </a>", n, false},
		{"any", "<a>", " <b> </b>", " </a>", n, true},
		{"a?", "", " <a>", "", n, false},
		{"(text?)+", "<a>", " text", " </a>", n, true},
		{"((((text*)*)*)*)*", "<a>", " text", " </a>", n, true},
		{"((text | text)*, (text | text)*)*, b", "<a>", " text", " <b> </b> </a>", n, true},
		{many(300, "text?", ","), "<a>", " text", " </a>", 300, true},
		{many(300, "text?", ","), "<a>", " text", " </a>", 301, false},
		{many(300, "text", ","), "<a>", " text", " </a>", 300, true},
		{many(300, "text", ","), "<a>", " text", " </a>", 299, false},
		{"(" + many(150, "text?", ",") + ")*, b", "<a>", " text", " </a>", 1000, false},
		{"(" + many(100, "text|empty", "|") + ")+", "<a>", " text", " </a>", 1000, true},
		{parens(20, "text") + "*", "<a>", " text", " </a>", n, true},
	} {
		s := parsed(t, "root a; element a = "+c.model+"; element b = empty;")
		l := schema.Syms(s)
		var w []int
		for i, part := range []string{c.ahead, c.again, c.behind} {
			v, _, err := word.Parse(l, part)
			if err != api.OK {
				t.Fatal(err)
			}
			w = append(w, slices.Repeat(v, []int{1, c.times, 1}[i])...)
		}
		if got := schema.Has(s, w); got != c.want {
			t.Errorf("P802: %s: %v", c.model[:min(40, len(c.model))], got)
		}
	}
	s := parsed(t, "root a; element a = a? | b; element b = a, text;")
	w := slices.Concat(slices.Repeat([]int{0}, n), slices.Repeat([]int{1}, n))
	if !schema.Has(s, w) || schema.Has(s, w[1:]) || schema.Has(s, w[:2*n-1]) {
		t.Error("P802: deep")
	}
	w = slices.Concat(slices.Repeat([]int{0, 2}, n), []int{0, 1}, slices.Repeat([]int{4, 3, 1}, n))
	if !schema.Has(s, w) || schema.Has(s, slices.Delete(slices.Clone(w), 2*n+2, 2*n+3)) {
		t.Error("P802: deep")
	}
}

// P802: as many elements as there may be, each of them the root once.
func TestEightElements(t *testing.T) {
	var l []api.Model
	for i := range api.MaxRows {
		l = append(l, or(seq(text(), opt(name("abcdefgh"[(i+1)%8:][:1]))), star(name("abcdefgh"[i:][:1]))))
	}
	for root := range api.MaxRows {
		s := of("abcdefgh"[root:][:1], l...)
		var w []int
		for i := range 20 {
			w = append(w, 2*((root+i)%8), 16)
		}
		for i := range 20 {
			w = append(w, 2*((root+19-i)%8)+1)
		}
		if !schema.Has(s, w) {
			t.Errorf("P802: root %d", root)
		}
		for i := range w {
			for k := range 17 {
				v := slices.Clone(w)
				v[i] = k
				if k != w[i] && schema.Has(s, v) {
					t.Errorf("P802: root %d, %d at %d", root, k, i)
				}
			}
		}
	}
}

// P2: what is handed in stays, its spare room too, and is not kept.
func TestHandedIn(t *testing.T) {
	some(22, 500, func(r *rand.Rand, s api.Schema) {
		f, g := roomy(s), roomy(s)
		w, want := wordOf(r, s, name(s.Root), 4)
		v := room(w, -7)
		if !want {
			v = room([]int{2 * len(s.L)}, -7)
			w = slices.Clone(v)
		}
		if schema.Has(f, v) != want || !sameRoom(f, g) || !slices.Equal(v[:cap(v)], room(w, -7)[:cap(v)]) {
			t.Fatalf("P2: %v, %v are %v, %v now", g, w, f, v)
		}
		spoil(f)
		over(v, -7)
		if schema.Has(s, w) != want {
			t.Fatalf("P2: %v, %v, once what was handed in is written over", s, w)
		}
	})
}

// P802: a schema that is made by hand may be greater than one that is read.
func TestGreat(t *testing.T) {
	s := of("a", or(slices.Repeat([]api.Model{seq(text(), b())}, 3000)...), void())
	if !schema.Has(s, []int{0, 4, 2, 3, 1}) || schema.Has(s, []int{0, 4, 4, 1}) {
		t.Error("P802: of 3000 parts")
	}
}
