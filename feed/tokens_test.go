package feed_test

import (
	"fmt"
	"math/rand"
	"slices"
	"strings"
	"testing"

	"canopy/api"
	"canopy/feed"
	"canopy/word"
)

// tokens fails unless Tokens tells of s what patterns do, and what a feed without a bound does.
func tokens(t *testing.T, l []api.Sym, s string) {
	t.Helper()
	w, at, e := feed.Tokens(l, s)
	if got, want := fmt.Sprint(w, " ", at, " ", e), plainTokens(l, s); got != want {
		t.Fatalf("P1402: %q: %s, not %s", s, got, want)
	}
	if x := fed(t, l, api.Auto{}, len(s), s); x.place != at || x.err != e {
		t.Fatalf("P1402: %q: %d, %v, a feed: %v", s, at, e, x)
	}
}

// P1402
func TestTokensOf(t *testing.T) {
	const no = api.BadToken
	for _, c := range []struct {
		s  string
		w  []int
		at int
		e  api.Errno
	}{
		{"", nil, 0, api.OK},
		{" \n\t ", nil, 0, api.OK},
		{"x", []int{x}, 0, api.OK},
		{"x a", []int{x, plainA}, 0, api.OK},
		{"<a></a>a<b>abcdefgh</c><abcdefgh>x", []int{openA, shutA, plainA, openB, long, shutC, openLong, x}, 0, api.OK},
		{"\n<a>\t</a> a\n", []int{openA, shutA, plainA}, 0, api.OK},
		{"</c></a></c>", []int{shutC, shutA, shutC}, 0, api.OK},
		{"x <q>", nil, 2, no},
		{"x q", nil, 2, no},
		{"x <a", nil, 2, no},
		{"x <", nil, 2, no},
		{"x abcdefghi", nil, 2, no},
		{"x x?", nil, 3, no},
		{"x\r", nil, 1, no},
		{"x y", nil, 2, no},
		{"\x80x", nil, 0, no},
	} {
		w, at, e := feed.Tokens(letters(), c.s)
		if !slices.Equal(w, c.w) || at != c.at || e != c.e {
			t.Errorf("P1402: %q: %v, %d, %v", c.s, w, at, e)
		}
		tokens(t, letters(), c.s)
	}
}

// P1402: nothing is too deep, and nothing is too long.
func TestTokensLong(t *testing.T) {
	const n = 100000
	s := strings.Repeat("<a>", n)
	if w, at, e := feed.Tokens(letters(), s); !slices.Equal(w, slices.Repeat([]int{openA}, n)) || at != 0 || e != api.OK {
		t.Errorf("P1402: %d deep: %d, %d, %v", n, len(w), at, e)
	}
	if w, at, e := feed.Tokens(letters(), s+"<c>"); w != nil || at != 3*n || e != api.BadToken {
		t.Errorf("P1402: %d deep, and an error: %d, %d, %v", n, len(w), at, e)
	}
}

// P1402, P1403: what word.Text writes is read, any words, written anyhow, changed anyhow.
func TestTokensAny(t *testing.T) {
	r := rand.New(rand.NewSource(6))
	fine := 0
	for range 20000 {
		w := anyWord(r, r.Intn(12))
		for _, s := range []string{word.Text(letters(), w), written(r, w)} {
			got, at, e := feed.Tokens(letters(), s)
			if !slices.Equal(got, w) || at != 0 || e != api.OK {
				t.Fatalf("P1402: %q: %v, %d, %v", s, got, at, e)
			}
			s = spoilt(r, s, 3)
			tokens(t, letters(), s)
			if _, _, e := feed.Tokens(letters(), s); e == api.OK {
				fine++
			}
		}
	}
	if fine < 5000 || fine > 35000 {
		t.Errorf("too few of some kind: %d", fine)
	}
}

// P1402: of each kind and name those that l has alone, however many there are.
func TestTokensOfMany(t *testing.T) {
	var l []api.Sym
	for i := range api.MaxSyms {
		l = append(l, api.Sym{Name: strings.Repeat("ab", 4)[i%3 : 1+i%3+i/6], Kind: 1 + i%3})
	}
	for i := range l {
		own := l[i : i+1]
		for j := range l {
			tokens(t, own, word.Text(l, []int{j}))
			if s := word.Text(l, []int{j, i}); word.Check(l[min(i, j):max(i, j)]) == api.OK {
				tokens(t, l[min(i, j):max(i, j)], s)
			}
		}
	}
}

// P2: an answer is new memory, its spare room too, and l is not changed.
func TestTokensAnswer(t *testing.T) {
	s := "<a>x</a> <b>x</c> a <abcdefgh>"
	l := room(letters(), api.Sym{Name: "q", Kind: 7})
	a, _, _ := feed.Tokens(l, s)
	b, _, _ := feed.Tokens(l, s)
	was := slices.Clone(b)
	spoil(a, -1)
	if c, _, _ := feed.Tokens(l, s); !slices.Equal(b, was) || !slices.Equal(c, was) {
		t.Errorf("P2: %v, %v, not %v", b, c, was)
	}
	if !slices.Equal(l, letters()) || l[:cap(l)][len(l)] != (api.Sym{Name: "q", Kind: 7}) {
		t.Error("P2: what was handed in is changed")
	}
}
