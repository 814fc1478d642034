package word_test

import (
	"math/rand"
	"regexp"
	"slices"
	"strings"
	"testing"

	"canopy/api"
	"canopy/word"
)

// letters are symbols of each kind; a name stands in more than one kind, and one is as long as may be.
func letters() []api.Sym {
	return []api.Sym{
		{Name: "a", Kind: api.Opens},
		{Name: "a", Kind: api.Closes},
		{Name: "a", Kind: api.Plain},
		{Name: "abcdefgh", Kind: api.Opens},
		{Name: "zz", Kind: api.Closes},
		{Name: "abcdefgh", Kind: api.Plain},
	}
}

// rows are n symbols that differ.
func rows(n int) []api.Sym {
	var l []api.Sym
	for i := range n {
		l = append(l, api.Sym{Name: string(rune('a' + i/3)), Kind: 1 + i%3})
	}
	return l
}

func one(name string, kind int) []api.Sym { return []api.Sym{{Name: name, Kind: kind}} }

// P101
func TestCheck(t *testing.T) {
	a, b := api.Sym{Name: "a", Kind: api.Opens}, api.Sym{Name: "b", Kind: api.Opens}
	nameless, kindless := api.Sym{Name: "", Kind: api.Opens}, api.Sym{Name: "c", Kind: 4}
	for _, x := range []struct {
		what string
		l    []api.Sym
		want api.Errno
	}{
		{"all kinds", letters(), api.OK},
		{"nil", nil, api.TooLong},
		{"empty", []api.Sym{}, api.TooLong},
		{"1", rows(1), api.OK},
		{"20", rows(20), api.OK},
		{"21", rows(21), api.TooLong},
		{"21 bad ones", make([]api.Sym, 21), api.TooLong},
		{"no name", one("", api.Opens), api.BadName},
		{"8 letters", one("abcdxyzz", api.Closes), api.OK},
		{"9 letters", one("abcdefghi", api.Closes), api.BadName},
		{"a capital", one("aZ", api.Plain), api.BadName},
		{"ahead of a", one("a`", api.Plain), api.BadName},
		{"behind z", one("{a", api.Plain), api.BadName},
		{"a digit", one("a1", api.Plain), api.BadName},
		{"a blank", one("a b", api.Plain), api.BadName},
		{"not ASCII", one("ä", api.Plain), api.BadName},
		{"no UTF-8", one("\xff", api.Plain), api.BadName},
		{"long", one(strings.Repeat("a", 1<<16), api.Plain), api.BadName},
		{"kind 0", one("a", 0), api.BadKind},
		{"kind 4", one("a", 4), api.BadKind},
		{"kind -1", one("a", -1), api.BadKind},
		{"name ahead of kind", one("", 0), api.BadName},
		{"twice", []api.Sym{a, b, a}, api.Twice},
		{"name in two kinds", []api.Sym{a, {Name: "a", Kind: api.Closes}}, api.OK},
		{"kind with two names", []api.Sym{a, b}, api.OK},
		{"twice first", []api.Sym{a, a, nameless, kindless}, api.Twice},
		{"name first", []api.Sym{a, nameless, kindless, a}, api.BadName},
		{"kind first", []api.Sym{a, kindless, nameless, a}, api.BadKind},
		{"kind ahead of twice", []api.Sym{kindless, kindless}, api.BadKind},
	} {
		if got := word.Check(x.l); got != x.want {
			t.Errorf("Check of %s: %v, not %v", x.what, got, x.want)
		}
	}
}

// P102
func TestText(t *testing.T) {
	for _, x := range []struct {
		w    []int
		want string
	}{
		{nil, ""},
		{[]int{}, ""},
		{[]int{0}, "<a>"},
		{[]int{1}, "</a>"},
		{[]int{2}, "a"},
		{[]int{3, 5, 4, 5, 5}, "<abcdefgh> abcdefgh </zz> abcdefgh abcdefgh"},
	} {
		if got := word.Text(letters(), x.w); got != x.want {
			t.Errorf("Text of %v: %q, not %q", x.w, got, x.want)
		}
	}
}

// P102
func TestParse(t *testing.T) {
	for _, x := range []struct {
		s  string
		w  []int
		at int
		e  api.Errno
	}{
		{"", nil, 0, api.OK},
		{"  ", nil, 0, api.OK},
		{"<a> </a> a <abcdefgh> </zz> abcdefgh", []int{0, 1, 2, 3, 4, 5}, 0, api.OK},
		{"  a   <a>    ", []int{2, 0}, 0, api.OK},
		{"a a", []int{2, 2}, 0, api.OK},
		{"zz", nil, 0, api.NoName},
		{"<zz>", nil, 0, api.NoName},
		{"</abcdefgh>", nil, 0, api.NoName},
		{"a  b", nil, 3, api.NoName},
		{"abcdefg", nil, 0, api.NoName},
		{"abcdefghi", nil, 0, api.BadText},
		{"<abcdefghi>", nil, 0, api.BadText},
		{"</abcdefghi>", nil, 0, api.BadText},
		{"a </>", nil, 2, api.BadText},
		{" <>", nil, 1, api.BadText},
		{"<", nil, 0, api.BadText},
		{"</", nil, 0, api.BadText},
		{">", nil, 0, api.BadText},
		{"/", nil, 0, api.BadText},
		{"/a", nil, 0, api.BadText},
		{"a/", nil, 0, api.BadText},
		{"<a", nil, 0, api.BadText},
		{"<a >", nil, 0, api.BadText},
		{"< a>", nil, 0, api.BadText},
		{"</a", nil, 0, api.BadText},
		{"a>", nil, 0, api.BadText},
		{"<a/>", nil, 0, api.BadText},
		{"<//a>", nil, 0, api.BadText},
		{"<<a>", nil, 0, api.BadText},
		{"<a>>", nil, 0, api.BadText},
		{"<a></a>", nil, 0, api.BadText},
		{"<a>a", nil, 0, api.BadText},
		{"a<a>", nil, 0, api.BadText},
		{"A", nil, 0, api.BadText},
		{"a a\ta", nil, 2, api.BadText},
		{"a\n", nil, 0, api.BadText},
		{"a \x00", nil, 2, api.BadText},
		{"a \xff", nil, 2, api.BadText},
		{"a ä", nil, 2, api.BadText},
		{"a\u00a0a", nil, 0, api.BadText},
		{"a b A", nil, 2, api.NoName},
		{"a A b", nil, 2, api.BadText},
		{strings.Repeat("a ", 1000), slices.Repeat([]int{2}, 1000), 0, api.OK},
		{strings.Repeat("a ", 999) + " ?", nil, 1999, api.BadText},
		{strings.Repeat("a ", 1000) + " ", nil, 0, api.TooLong},
		{"?" + strings.Repeat(" ", 2000), nil, 0, api.TooLong},
		{strings.Repeat("a", 2000), nil, 0, api.BadText},
	} {
		w, at, e := word.Parse(letters(), x.s)
		if !slices.Equal(w, x.w) || at != x.at || e != x.e {
			t.Errorf("Parse of %.40q: %v, %d, %v, not %v, %d, %v", x.s, w, at, e, x.w, x.at, x.e)
		}
	}
}

var (
	piece  = regexp.MustCompile(`[^ ]+`)
	symbol = regexp.MustCompile(`^(?:<[a-z]{1,8}>|</[a-z]{1,8}>|[a-z]{1,8})$`)
)

// plainParse is Parse by other means: the pieces between blanks, held against the texts of the symbols.
func plainParse(l []api.Sym, s string) ([]int, int, api.Errno) {
	var w []int
	for _, p := range piece.FindAllStringIndex(s, -1) {
		text := s[p[0]:p[1]]
		if !symbol.MatchString(text) {
			return nil, p[0], api.BadText
		}
		i := 0
		for i < len(l) && word.Text(l, []int{i}) != text {
			i++
		}
		if i == len(l) {
			return nil, p[0], api.NoName
		}
		w = append(w, i)
	}
	return w, 0, api.OK
}

// P102, P3
func TestParseAnyText(t *testing.T) {
	r := rand.New(rand.NewSource(1))
	parts := []string{" ", " ", " ", "a", "a", "zz", "abcdefgh", "<", "</", ">", "/", "<a>", "</a>", "A", "\t"}
	l := letters()
	for range 20000 {
		var s string
		for range r.Intn(8) {
			s += parts[r.Intn(len(parts))]
		}
		w, at, e := word.Parse(l, s)
		if v, place, f := plainParse(l, s); !slices.Equal(w, v) || at != place || e != f {
			t.Fatalf("Parse of %q: %v, %d, %v, not %v, %d, %v", s, w, at, e, v, place, f)
		}
		if v, place, f := word.Parse(l, s); !slices.Equal(w, v) || at != place || e != f {
			t.Fatalf("Parse of %q the second time: %v, %d, %v, not %v, %d, %v", s, v, place, f, w, at, e)
		}
	}
}

// P103
func TestMatchDeepWhole(t *testing.T) {
	for _, x := range []struct {
		s     string
		match []int
		deep  int
		whole bool
	}{
		{"", nil, 0, true},
		{"a abcdefgh", []int{-1, -1}, 0, true},
		{"<a>", []int{-1}, 1, false},
		{"</a>", []int{-1}, 0, false},
		{"<a> </a>", []int{1, 0}, 1, true},
		{"<a> a </zz>", []int{2, -1, 0}, 1, true},
		{"</a> <a>", []int{-1, -1}, 1, false},
		{"<a> <a> </a>", []int{-1, 2, 1}, 2, false},
		{"<a> </a> </a>", []int{1, 0, -1}, 1, false},
		{"</a> </a> <a> </a>", []int{-1, -1, 3, 2}, 1, false},
		{"<a> <abcdefgh> </zz> </a>", []int{3, 2, 1, 0}, 2, true},
		{"<a> </a> <a> <a> </a> </a> <a> </a>", []int{1, 0, 5, 4, 3, 2, 7, 6}, 2, true},
		{"<a> <a> </a> <a> <a> <a>", []int{-1, 2, 1, -1, -1, -1}, 4, false},
	} {
		l := letters()
		w, _, e := word.Parse(l, x.s)
		if e != api.OK {
			t.Fatalf("Parse of %q: %v", x.s, e)
		}
		if got := word.Match(l, w); !slices.Equal(got, x.match) {
			t.Errorf("Match of %q: %v, not %v", x.s, got, x.match)
		}
		if got := word.Deep(l, w); got != x.deep {
			t.Errorf("Deep of %q: %d, not %d", x.s, got, x.deep)
		}
		if got := word.Whole(l, w); got != x.whole {
			t.Errorf("Whole of %q: %v, not %v", x.s, got, x.whole)
		}
	}
}

// crossOut is Match by other means: neighbours that belong together are crossed out till there are none.
func crossOut(l []api.Sym, w []int) []int {
	m := slices.Repeat([]int{-1}, len(w))
	var left []int
	for i, s := range w {
		if l[s].Kind != api.Plain {
			left = append(left, i)
		}
	}
	for k := 0; k+1 < len(left); {
		i, j := left[k], left[k+1]
		if l[w[i]].Kind == api.Opens && l[w[j]].Kind == api.Closes {
			m[i], m[j] = j, i
			left = slices.Delete(left, k, k+2)
			k = 0
			continue
		}
		k++
	}
	return m
}

// mostOpen is Deep by other means: of each front of w those that open and have no partner in it.
func mostOpen(l []api.Sym, w []int) int {
	most := 0
	for n := range len(w) + 1 {
		open := 0
		for i, partner := range crossOut(l, w[:n]) {
			if l[w[i]].Kind == api.Opens && partner < 0 {
				open++
			}
		}
		most = max(most, open)
	}
	return most
}

// P103, P104
func TestAnyWord(t *testing.T) {
	r := rand.New(rand.NewSource(2))
	l := letters()
	for range 3000 {
		w := make([]int, r.Intn(25))
		for i := range w {
			w[i] = r.Intn(len(l))
		}
		s := word.Text(l, w)
		if v, at, e := word.Parse(l, s); !slices.Equal(v, w) || at != 0 || e != api.OK {
			t.Fatalf("Parse of %q: %v, %d, %v, not %v", s, v, at, e, w)
		}
		m := crossOut(l, w)
		if got := word.Match(l, w); !slices.Equal(got, m) {
			t.Fatalf("Match of %q: %v, not %v", s, got, m)
		}
		if got := word.Deep(l, w); got != mostOpen(l, w) {
			t.Fatalf("Deep of %q: %d, not %d", s, got, mostOpen(l, w))
		}
		whole := true
		for i, partner := range m {
			whole = whole && (partner >= 0 || l[w[i]].Kind == api.Plain)
		}
		if got := word.Whole(l, w); got != whole {
			t.Fatalf("Whole of %q: %v, not %v", s, got, whole)
		}
	}
}

// P104: each symbol that may be, alone and beside its like.
func TestThereAndBack(t *testing.T) {
	for _, l := range [][]api.Sym{rows(1), rows(20), letters()} {
		w := []int{}
		for i := range l {
			w = append(w, i, i)
		}
		for n := range len(w) + 1 {
			if v, at, e := word.Parse(l, word.Text(l, w[:n])); !slices.Equal(v, w[:n]) || at != 0 || e != api.OK {
				t.Errorf("Parse of Text of %v: %v, %d, %v", w[:n], v, at, e)
			}
		}
	}
}

// Words that are long are read in one go.
func TestLong(t *testing.T) {
	const n = 1 << 20
	l := letters()
	w := append(slices.Repeat([]int{0}, n), slices.Repeat([]int{1}, n)...)
	m := word.Match(l, w)
	for i, partner := range m {
		if partner != 2*n-1-i {
			t.Fatalf("Match at %d: %d", i, partner)
		}
	}
	if word.Deep(l, w) != n || !word.Whole(l, w) || word.Whole(l, w[:2*n-1]) || word.Whole(l, w[1:]) {
		t.Errorf("Deep or Whole of a long word: %d, %v", word.Deep(l, w), word.Whole(l, w))
	}
}

// room is l with spare room behind it, filled with v.
func room[T any](l []T, v T) []T {
	out := slices.Grow(slices.Clone(l), 8)
	for i := len(out); i < cap(out); i++ {
		out[:cap(out)][i] = v
	}
	return out
}

// P2
func TestHandedInStays(t *testing.T) {
	l, w := room(letters(), api.Sym{Name: "x", Kind: 9}), room([]int{0, 2, 0, 4, 1, 1}, 77)
	wasL, wasW := slices.Clone(l[:cap(l)]), slices.Clone(w[:cap(w)])
	word.Check(l)
	word.Text(l, w)
	m := word.Match(l, w)
	word.Deep(l, w)
	word.Whole(l, w)
	v, _, _ := word.Parse(l, "<a> a </zz>")
	for _, answer := range [][]int{m, v} {
		answer = answer[:cap(answer)]
		for i := range answer {
			answer[i] = -5
		}
	}
	if !slices.Equal(l[:cap(l)], wasL) || !slices.Equal(w[:cap(w)], wasW) {
		t.Errorf("what was handed in is changed: %v, %v", l[:cap(l)], w[:cap(w)])
	}
	if again := word.Match(l, w); !slices.Equal(again, []int{4, -1, 3, 2, 0, -1}) {
		t.Errorf("Match, its last answer written over: %v", again)
	}
	if again, _, _ := word.Parse(l, "<a> a </zz>"); !slices.Equal(again, []int{0, 2, 4}) {
		t.Errorf("Parse, its last answer written over: %v", again)
	}
}

// P1, P8: what may not be does no harm.
func TestWhatMayNotBe(t *testing.T) {
	wrong := [][]api.Sym{nil, letters(), {{Name: "", Kind: 0}, {Name: "\xff", Kind: -9}, {Name: "a", Kind: 3}, {Name: "a", Kind: 3}}, make([]api.Sym, 50)}
	w := []int{0, -1, 1, 1 << 62, -1 << 63, 5, 3, 49, 6, 0}
	for _, l := range wrong {
		was := slices.Clone(w)
		word.Check(l)
		word.Text(l, w)
		word.Match(l, w)
		word.Deep(l, w)
		word.Whole(l, w)
		for _, s := range []string{"", "a", "<a> b </c>", "\xff", strings.Repeat("<", 3000)} {
			word.Parse(l, s)
		}
		if !slices.Equal(w, was) {
			t.Errorf("the word is changed: %v", w)
		}
	}
}
