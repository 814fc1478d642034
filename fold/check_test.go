package fold_test

import (
	"fmt"
	"math"
	"math/rand"
	"testing"

	"canopy/api"
	"canopy/fold"
)

// sample is a machine of three modules, 0 2, 1 3, 4.
func sample() api.Mod {
	m := blank([]int{0, 1, 0, 1, 2}, 2, 2)
	m.Final[2] = true
	m.In[0][1], m.In[1][0] = 2, 3
	m.Low[2][1] = 2
	m.Ret[4][1] = []int{2, 3, 0, 1, 4}
	return m
}

// P1301: what may be, to its edges.
func TestMay(t *testing.T) {
	isMod(t, sample())
	for _, n := range []int{1, 2, 59, 60} {
		isMod(t, alone(n))
	}
	for _, n := range []int{0, 1, 19, 20} {
		isMod(t, blank([]int{0, 1}, n, 3))
		isMod(t, blank([]int{0, 1}, 3, n))
		isMod(t, blank([]int{0}, n, n))
	}
	var of []int
	for k := range 21 {
		of = append(of, 20-k)
		isMod(t, blank(append(filled(3, 0), of[:k]...)[:3], 1, 1))
	}
	isMod(t, blank(of, 20, 20))
	isMod(t, blank(append(filled(39, 7), of...), 20, 20))
	isMod(t, blank(append(filled(39, 0), of...), 20, 20))
	// nothing is an empty list, whichever it is written as
	m := sample()
	m.Low[1], m.Ret[0] = []int{}, [][]int{}
	isMod(t, m)
	m = blank([]int{0}, 0, 0)
	m.In, m.Low, m.Ret = [][]int{{}}, [][]int{{}}, [][][]int{{}}
	isMod(t, m)
}

// faults spoil sample, each by one thing that may not be.
func faults() []func(m *api.Mod) {
	return []func(m *api.Mod){
		func(m *api.Mod) { *m = api.Mod{} },
		func(m *api.Mod) { m.Plains++ },
		func(m *api.Mod) { m.Plains-- },
		func(m *api.Mod) { m.Closings++ },
		func(m *api.Mod) { m.Closings-- },
		func(m *api.Mod) { m.Of = nil },
		func(m *api.Mod) { m.Of = m.Of[:4] },
		func(m *api.Mod) { m.Of = append(m.Of, 0) },
		func(m *api.Mod) { m.Of[4] = 1 },
		func(m *api.Mod) { m.Of[3] = 0 },
		func(m *api.Mod) { m.Entry = nil },
		func(m *api.Mod) { m.Entry = m.Entry[:2] },
		func(m *api.Mod) { m.Entry = append(m.Entry, 0) },
		func(m *api.Mod) { m.Entry[0] = 1 },
		func(m *api.Mod) { m.Entry[1] = 2 },
		func(m *api.Mod) { m.Entry[2] = 3 },
		func(m *api.Mod) { m.Final = m.Final[:4] },
		func(m *api.Mod) { m.Final = append(m.Final, false) },
		func(m *api.Mod) { m.In = m.In[:4] },
		func(m *api.Mod) { m.In = append(m.In, m.In[0]) },
		func(m *api.Mod) { m.Low = m.Low[:4] },
		func(m *api.Mod) { m.Low = append(m.Low, m.Low[0]) },
		func(m *api.Mod) { m.Ret = m.Ret[:4] },
		func(m *api.Mod) { m.Ret = append(m.Ret, m.Ret[0]) },
		func(m *api.Mod) { m.In[4] = nil },
		func(m *api.Mod) { m.In[4] = m.In[4][:1] },
		func(m *api.Mod) { m.In[4] = append(m.In[4], 4) },
		func(m *api.Mod) { m.In[0][1] = 1 },
		func(m *api.Mod) { m.In[4][0] = 0 },
		func(m *api.Mod) { m.Low[2] = nil },
		func(m *api.Mod) { m.Low[2] = m.Low[2][:1] },
		func(m *api.Mod) { m.Low[2] = append(m.Low[2], 0) },
		func(m *api.Mod) { m.Low[0][1] = 1 },
		func(m *api.Mod) { m.Low[4] = []int{0, 0} },
		func(m *api.Mod) { m.Low[4] = []int{4, 4} },
		func(m *api.Mod) { m.Low[4] = []int{0} },
		func(m *api.Mod) { m.Ret[0] = [][]int{nil, nil} },
		func(m *api.Mod) { m.Ret[2] = m.Ret[4] },
		func(m *api.Mod) { m.Ret[0] = [][]int{nil} },
		func(m *api.Mod) { m.Ret[4] = nil },
		func(m *api.Mod) { m.Ret[4] = m.Ret[4][:1] },
		func(m *api.Mod) { m.Ret[4] = append(m.Ret[4], m.Ret[4][0]) },
		func(m *api.Mod) { m.Ret[4][1] = nil },
		func(m *api.Mod) { m.Ret[4][1] = m.Ret[4][1][:4] },
		func(m *api.Mod) { m.Ret[4][1] = append(m.Ret[4][1], 0) },
		func(m *api.Mod) { m.Ret[1][0][0] = 1 },
		func(m *api.Mod) { m.Ret[1][0][1] = 0 },
		func(m *api.Mod) { m.Ret[1][0][3] = 4 },
		func(m *api.Mod) { m.Ret[4][1][4] = 1 },
		func(m *api.Mod) { m.Ret[4][1][2] = 4 },
	}
}

// P1301: what may not be, each alone.
func TestMayNot(t *testing.T) {
	for i, spoil := range faults() {
		m := sample()
		spoil(&m)
		refused(t, fmt.Sprint(i), m)
	}
}

// P1301, P9: numbers that are out of bounds, wherever one stands.
func TestOutOfBounds(t *testing.T) {
	for _, v := range []int{math.MinInt, -1 << 32, -256, -1, 5, 6, 256, 1 << 32, math.MaxInt} {
		for i, l := range lists(sample()) {
			for at := range l {
				m := sample()
				lists(m)[i][at] = v
				refused(t, fmt.Sprint(i, at, v), m)
			}
		}
	}
	for _, v := range []int{3, 4, 5, 20, 21} {
		m := sample()
		m.Of[0] = v
		refused(t, fmt.Sprint("module", v), m)
	}
	for _, n := range []int{math.MinInt, -1 << 32, -1, 21, 22, 256, 1 << 32, math.MaxInt} {
		for _, of := range [][]int{{0}, {0, 1}} {
			m := blank(of, 0, 0)
			m.Plains = n
			refused(t, fmt.Sprint("plains", n), m)
			m = blank(of, 0, 0)
			m.Closings = n
			refused(t, fmt.Sprint("closings", n), m)
		}
		if n > 0 && n < 1000 {
			refused(t, fmt.Sprint("plains", n), blank([]int{0, 1}, n, 0))
			refused(t, fmt.Sprint("closings", n), blank([]int{0, 1}, 0, n))
			refused(t, fmt.Sprint("closings", n), blank([]int{0}, 0, n))
		}
	}
	for _, n := range []int{61, 62, 120, 128, 256, 300, 100000} {
		refused(t, fmt.Sprint("states", n), alone(n))
	}
	for _, n := range []int{22, 23, 60} {
		var of []int
		for k := range n {
			of = append(of, k)
		}
		refused(t, fmt.Sprint("modules", n), blank(of, 0, 0))
	}
}

// change changes something of m, which may be one then, or none.
func change(r *rand.Rand, m *api.Mod) {
	l := lists(*m)
	row, any := l[r.Intn(len(l))], []int{-1, 0, 1, 2, 3, len(m.Of) - 1, len(m.Of), r.Intn(70)}[r.Intn(8)]
	p, by := r.Intn(len(m.Of)), r.Intn(3)-1
	switch r.Intn(12) {
	case 0:
		m.Plains = any
	case 1:
		m.Closings = any
	case 2:
		m.Of = resize(m.Of, by)
	case 3:
		m.Entry = resize(m.Entry, by)
	case 4:
		m.Final = resize(m.Final, by)
	case 5:
		m.In[p] = resize(m.In[p], by)
	case 6:
		m.Low[p] = resize(m.Low[p], by)
	case 7:
		m.Ret[p] = resize(m.Ret[p], by)
	case 8:
		if j := len(m.Ret[p]); j > 0 {
			m.Ret[p][j-1] = resize(m.Ret[p][j-1], by)
		}
	case 9:
		m.In, m.Low, m.Ret = resize(m.In, by), resize(m.Low, r.Intn(2)*by), resize(m.Ret, r.Intn(2)*by)
	default:
		if len(row) > 0 {
			row[r.Intn(len(row))] = any
		}
	}
}

// resize is l, shorter or longer by one.
func resize[T any](l []T, by int) []T {
	var none T
	if by > 0 {
		return append(l, none)
	}
	return l[:max(0, len(l)+by)]
}

// P1301, P1, P8: machines of which something is changed, held against the document's words.
func TestChanged(t *testing.T) {
	yes, no := 0, 0
	r := rand.New(rand.NewSource(1))
	for range 60000 {
		m := anyMod(r, 1+r.Intn(3), 1+r.Intn(3), r.Intn(3), r.Intn(3))
		for range 1 + r.Intn(3)/2 {
			if len(m.Of) == 0 || len(m.In) < len(m.Of) || len(m.Low) < len(m.Of) || len(m.Ret) < len(m.Of) {
				break
			}
			change(r, &m)
		}
		if !plainCheck(m) {
			no++
			refused(t, fmt.Sprint(m), m)
			continue
		}
		yes++
		isMod(t, m)
		if _, e := fold.Small(m); e != api.OK {
			t.Fatalf("P1302: Small of %v: %v", m, e)
		}
	}
	if yes < 10000 || no < 10000 {
		t.Error(yes, no)
	}
}
