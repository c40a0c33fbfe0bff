package term_test

import (
	"slices"
	"testing"

	"emend/api"
	"emend/term"
)

// grown is a part with its kids, as the numbers of kids say.
type grown struct {
	kind   uint8
	word   string
	number int
	kids   []*grown
}

// grow puts the tree together that begins at a list's part i, and tells where
// it ends; nothing, if it is not whole there.
func grow(l []api.Part, i int) (*grown, int) {
	if i >= len(l) || l[i].Kids < 0 {
		return nil, 0
	}
	g := &grown{kind: l[i].Kind, word: l[i].Word, number: i}
	end := i + 1
	for k := 0; k < l[i].Kids; k++ {
		kid, to := grow(l, end)
		if kid == nil {
			return nil, 0
		}
		g.kids = append(g.kids, kid)
		end = to
	}
	return g, end
}

// forest puts the trees together that stand in a row in a list; false, if it
// is no such list.
func forest(l []api.Part) ([]*grown, bool) {
	var row []*grown
	for i := 0; i < len(l); {
		g, to := grow(l, i)
		if g == nil {
			return nil, false
		}
		row = append(row, g)
		i = to
	}
	return row, true
}

// list is a tree as a list.
func (g *grown) list() []api.Part {
	l := []api.Part{{Kind: g.kind, Kids: len(g.kids), Word: g.word}}
	for _, kid := range g.kids {
		l = append(l, kid.list()...)
	}
	return l
}

// lists hands all lists of up to n parts to do, with numbers of kids from low
// up to high. Each part's kind and word tell it from the others.
func lists(n, low, high int, do func(l []api.Part)) {
	var put func(l []api.Part)
	put = func(l []api.Part) {
		do(l)
		if len(l) == n {
			return
		}
		for kids := low; kids <= high; kids++ {
			put(append(slices.Clip(l), api.Part{Kind: uint8(10 + len(l)), Kids: kids, Word: string("abcdefgh"[len(l)])}))
		}
	}
	put(nil)
}

// sum is the chapter's example: a+b.
func sum() []api.Part {
	return []api.Part{{Kind: api.KBinary, Kids: 2, Word: "+"}, {Kind: api.KName, Word: "a"}, {Kind: api.KName, Word: "b"}}
}

func TestExamples(t *testing.T) {
	const text = `(37 "+" (26 "a") (26 "b"))`
	if s, err := term.Show(sum()); s != text || err != api.OK {
		t.Errorf("P11.3: %s %d", s, err)
	}
	if l, err := term.Read(text); !slices.Equal(l, sum()) || err != api.OK {
		t.Errorf("P11.3: %v %d", l, err)
	}
	if err := term.Check(sum()); err != api.OK {
		t.Errorf("P11.1: %d", err)
	}
	l := sum()
	l[0].Word = "="
	if err := term.Check(l); err != api.ErrTree {
		t.Errorf("P11.1: %d", err)
	}
	l, err := term.Swap(sum(), 1, 1, []api.Part{{Kind: api.KLit, Word: "1"}})
	if s, _ := term.Show(l); s != `(37 "+" (27 "1") (26 "b"))` || err != api.OK {
		t.Errorf("P11.4: %s %d", s, err)
	}
	l, err = term.Swap([]api.Part{{Kind: api.KStmts, Kids: 1}, {Kind: api.KEmpty}}, 1, 1, nil)
	if !slices.Equal(l, []api.Part{{Kind: api.KStmts}}) || err != api.OK {
		t.Errorf("P11.4: %v %d", l, err)
	}
	if l, err := term.Read("(13)"); !slices.Equal(l, []api.Part{{Kind: api.KStmts}}) || err != api.OK {
		t.Errorf("P11.3: %v %d", l, err)
	}
	for _, s := range []string{"(13 )", "(013)", "(300)"} {
		if l, err := term.Read(s); len(l) != 0 || err != api.ErrForm {
			t.Errorf("P11.3: Read(%q) = %v %d", s, l, err)
		}
	}
	if l, err := term.Read(`(200 "x")`); !slices.Equal(l, []api.Part{{Kind: 200, Word: "x"}}) || err != api.OK {
		t.Errorf("P11.3: %v %d", l, err)
	}
}

// checkNone holds all calls to what they answer of a part that there is not.
func checkNone(t *testing.T, l []api.Part, i int) {
	t.Helper()
	if end, up, kids := term.End(l, i), term.Up(l, i), term.Kids(l, i); end != -1 || up != -1 || len(kids) != 0 {
		t.Fatalf("P11.2: %v, %d: End = %d, Up = %d, Kids = %v", l, i, end, up, kids)
	}
}

// checkParts holds what is told of a tree's parts in a list against the words.
func checkParts(t *testing.T, l []api.Part, g *grown, up int) {
	t.Helper()
	_, end := grow(l, g.number)
	if got := term.End(l, g.number); got != end {
		t.Fatalf("P11.2: End(%v, %d) = %d, not %d", l, g.number, got, end)
	}
	if got := term.Up(l, g.number); got != up {
		t.Fatalf("P11.2: Up(%v, %d) = %d, not %d", l, g.number, got, up)
	}
	var kids []int
	for _, kid := range g.kids {
		kids = append(kids, kid.number)
		checkParts(t, l, kid, g.number)
	}
	if got := term.Kids(l, g.number); !slices.Equal(got, kids) {
		t.Fatalf("P11.2: Kids(%v, %d) = %v, not %v", l, g.number, got, kids)
	}
}

func TestAllSmallLists(t *testing.T) {
	count := 0
	each := func(l []api.Part) {
		g, end := grow(l, 0)
		well := g != nil && end == len(l)
		if got := term.Well(l); got != well {
			t.Fatalf("P11.1: Well(%v) = %v", l, got)
		}
		checkNone(t, l, -1)
		checkNone(t, l, len(l))
		if well {
			count++
			checkParts(t, l, g, -1)
			return
		}
		if got := term.Check(l); got != api.ErrTree {
			t.Fatalf("P11.1: Check(%v) = %d", l, got)
		}
		for i := range l {
			checkNone(t, l, i)
		}
	}
	lists(5, -1, 4, each)
	if count != 1+1+2+5+14 {
		t.Errorf("%d lists are well", count)
	}
	lists(7, 0, 3, each)
}

func TestNumbersOfKidsFarOutside(t *testing.T) {
	for _, kids := range [][]int{
		{1<<63 - 1}, {-1 << 63}, {1 << 62, 0, 0}, {-1}, {-1, 0}, {3, -1, 0}, {2, 0, -1, 0},
		{1<<63 - 1, 1<<63 - 1, 1, 1}, {1 << 62, 1 << 62, 1 << 62, 1 << 62}, {1 << 62, 1 << 62, 1 << 62, 1 << 62, 0},
		{1 << 62, 1 << 62, 1 << 62}, {1<<63 - 1, 2}, {1<<62 + 1, 1 << 62}, {1<<63 - 1, 1, 2},
		{2, 1<<63 - 1, -1 << 63, 0}, {1 << 32, 0}, {1<<32 + 1, 0}, {-1 << 32, 0},
	} {
		var l []api.Part
		for _, n := range kids {
			l = append(l, api.Part{Kind: api.KStmts, Kids: n})
		}
		if term.Well(l) || term.Check(l) != api.ErrTree {
			t.Errorf("P11.1: %v is well", kids)
		}
		for i := -1; i <= len(l); i++ {
			checkNone(t, l, i)
		}
		if s, err := term.Show(l); s != "" || err != api.ErrTree {
			t.Errorf("P11.3: %v: %q %d", kids, s, err)
		}
		if m, err := term.Swap(l, 0, 1, []api.Part{{}}); len(m) != 0 || err != api.ErrTree {
			t.Errorf("P11.4: %v: %v %d", kids, m, err)
		}
		if m, err := term.Swap(sum(), 1, 1, l); len(m) != 0 || err != api.ErrTree {
			t.Errorf("P11.4: by %v: %v %d", kids, m, err)
		}
	}
	for _, i := range []int{-1 << 63, -1 << 32, -2, 3, 1 << 31, 1 << 32, 1<<63 - 1} {
		checkNone(t, sum(), i)
	}
}

func TestSame(t *testing.T) {
	strange := []api.Part{{Kind: 255, Kids: -1, Word: "\xff"}, {Kids: 1 << 62}}
	for _, l := range [][]api.Part{nil, {}, sum(), strange, {{}}} {
		if !term.Same(l, slices.Clone(l)) || !term.Same(l, append([]api.Part{}, l...)) {
			t.Errorf("P11.1: %v isn't the same as itself", l)
		}
		more := append(slices.Clone(l), api.Part{})
		if term.Same(l, more) || term.Same(more, l) {
			t.Errorf("P11.1: %v is the same as with a part more", l)
		}
		for i := range l {
			for field := range 3 {
				other := slices.Clone(l)
				switch field {
				case 0:
					other[i].Kind++
				case 1:
					other[i].Kids++
				case 2:
					other[i].Word += "\x00"
				}
				if term.Same(l, other) || term.Same(other, l) {
					t.Errorf("P11.1: %v is the same as %v", l, other)
				}
			}
		}
	}
	if !term.Same(nil, []api.Part{}) || term.Same(sum(), sum()[:2]) {
		t.Error("P11.1: Same")
	}
	lists(3, 0, 2, func(a []api.Part) {
		lists(3, 0, 2, func(b []api.Part) {
			same := len(a) == len(b)
			for i := range min(len(a), len(b)) {
				same = same && a[i] == b[i]
			}
			if term.Same(a, b) != same {
				t.Fatalf("P11.1: Same(%v, %v) = %v", a, b, !same)
			}
		})
	})
}

func TestGreatLists(t *testing.T) {
	const n = 65536
	deep, wide := make([]api.Part, n), make([]api.Part, n)
	for i := range n - 1 {
		deep[i] = api.Part{Kind: api.KParen, Kids: 1}
		wide[i+1].Kind = api.KEmpty
	}
	deep[n-1] = api.Part{Kind: api.KName, Word: "a"}
	wide[0] = api.Part{Kind: api.KStmts, Kids: n - 1}
	for _, l := range [][]api.Part{deep, wide} {
		if !term.Well(l) || term.Check(l) != api.OK || term.Well(l[:n-1]) || term.End(l, 0) != n {
			t.Error("P11.1: a great list is a term")
		}
		s, err := term.Show(l)
		m, again := term.Read(s)
		if err != api.OK || again != api.OK || !term.Same(l, m) {
			t.Errorf("P11.5: %d %d", err, again)
		}
	}
	if term.Up(deep, n-1) != n-2 || term.Up(wide, n-1) != 0 || len(term.Kids(wide, 0)) != n-1 || term.End(wide, 1) != 2 || term.End(deep, 1) != n {
		t.Error("P11.2: a great list")
	}
	l, err := term.Swap(wide, 1, n-1, nil)
	if !term.Same(l, []api.Part{{Kind: api.KStmts}}) || err != api.OK {
		t.Errorf("P11.4: %d parts, %d", len(l), err)
	}
	l, err = term.Swap(deep, n-1, 1, deep)
	if len(l) != 2*n-1 || !term.Well(l) || err != api.OK {
		t.Errorf("P11.4: %d parts, %d", len(l), err)
	}
}

func TestAnswersShareNothing(t *testing.T) {
	room := append(sum(), api.Part{Kind: 99, Kids: 3, Word: "z"})
	byRoom := []api.Part{{Kind: 1, Word: "x"}, {Kind: 2, Word: "y"}, {Kind: 98, Kids: -1}}
	wantRoom, wantBy := slices.Clone(room), slices.Clone(byRoom)
	l, by := room[:3], byRoom[:2]
	if !term.Well(l) || term.Check(l) != api.OK {
		t.Error("R3: the room behind a list is none of it")
	}
	kids := term.Kids(l, 0)
	first, _ := term.Swap(l, 1, 1, by)
	second, _ := term.Swap(l, 1, 1, by)
	want := slices.Clone(second)
	kids[0] = 77
	for i := range first {
		first[i] = api.Part{Kind: 77, Kids: 77, Word: "77"}
	}
	_ = append(first, api.Part{Kind: 78})
	if !slices.Equal(second, want) || !slices.Equal(term.Kids(l, 0), []int{1, 2}) {
		t.Errorf("R3: %v %v", second, term.Kids(l, 0))
	}
	whole, _ := term.Swap(l, 0, 1, by[:1])
	whole[0].Word = "changed"
	same, _ := term.Swap(l, 1, 0, nil)
	same[2].Word = "changed"
	if !slices.Equal(room, wantRoom) || !slices.Equal(byRoom, wantBy) {
		t.Errorf("R3: %v %v", room, byRoom)
	}
	a, _ := term.Read("(13 (49))")
	b, _ := term.Read("(13 (49))")
	a[0].Kids, a[1].Kind = 7, 7
	if !slices.Equal(b, []api.Part{{Kind: api.KStmts, Kids: 1}, {Kind: api.KEmpty}}) {
		t.Errorf("R3: %v", b)
	}
}
