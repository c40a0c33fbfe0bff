package term_test

import (
	"slices"
	"testing"

	"emend/api"
	"emend/term"
)

// swapped is what the chapter's words say of Swap of lists of which neither is
// long: the trees are put together, changed as trees, and told as a list.
func swapped(l []api.Part, i, n int, by []api.Part) ([]api.Part, api.Errno) {
	root, end := grow(l, 0)
	row, ok := forest(by)
	if root == nil || end != len(l) || !ok {
		return nil, api.ErrTree
	}
	if i < 0 || i >= len(l) || n < 0 {
		return nil, api.ErrArg
	}
	if i == 0 {
		if n != 1 || len(row) != 1 {
			return nil, api.ErrArg
		}
		return row[0].list(), api.OK
	}
	up, k := above(root, i)
	if k+n > len(up.kids) {
		return nil, api.ErrArg
	}
	up.kids = slices.Concat(up.kids[:k], row, up.kids[k+n:])
	return root.list(), api.OK
}

// above is the part of which a part is a kid, and which of its kids it is.
func above(g *grown, number int) (*grown, int) {
	for k, kid := range g.kids {
		if kid.number == number {
			return g, k
		}
		if up, k := above(kid, number); up != nil {
			return up, k
		}
	}
	return nil, 0
}

// checkSwap holds Swap's answer against the words, and swaps back what it put
// in.
func checkSwap(t *testing.T, l []api.Part, i, n int, by []api.Part) {
	t.Helper()
	want, wantErr := swapped(l, i, n, by)
	got, err := term.Swap(l, i, n, by)
	if err != wantErr || !slices.Equal(got, want) {
		t.Fatalf("P11.4: Swap(%v, %d, %d, %v) = %v %d, not %v %d", l, i, n, by, got, err, want, wantErr)
	}
	if err != api.OK || len(by) == 0 {
		return
	}
	row, _ := forest(by)
	end := i
	for range n {
		_, end = grow(l, end)
	}
	if back, err := term.Swap(got, i, len(row), l[i:end]); err != api.OK || !slices.Equal(back, l) {
		t.Fatalf("P11.5: Swap(%v, %d, %d, %v) = %v %d, not %v", got, i, len(row), l[i:end], back, err, l)
	}
}

func TestAllSmallSwaps(t *testing.T) {
	bys := [][]api.Part{
		nil,
		{{Kind: 70, Word: "x"}},
		{{Kind: 70, Kids: 1, Word: "x"}, {Kind: 71, Word: "y"}},
		{{Kind: 70, Word: "x"}, {Kind: 71, Word: "y"}},
		{{Kind: 70, Kids: 2, Word: "x"}, {Kind: 71, Word: "y"}, {Kind: 72, Word: "z"}},
		{{Kind: 70, Kids: 1, Word: "x"}, {Kind: 71, Word: "y"}, {Kind: 72, Word: "z"}},
		{{Kind: 70, Word: "x"}, {Kind: 71, Word: "y"}, {Kind: 72, Word: "z"}},
		{{Kind: 70, Kids: 1, Word: "x"}},
		{{Kind: 70, Kids: -1, Word: "x"}},
		{{Kind: 70, Word: "x"}, {Kind: 71, Kids: 1, Word: "y"}},
	}
	lists(5, 0, 4, func(l []api.Part) {
		if len(l) == 5 && !term.Well(l) {
			return
		}
		for i := -1; i <= len(l)+1; i++ {
			for n := -1; n <= 5; n++ {
				for _, by := range bys {
					checkSwap(t, l, i, n, by)
				}
			}
		}
	})
}

func TestSwapOfAllSmallRows(t *testing.T) {
	l, err := term.Read(`(13 (58 (13 (49))) (49 "x") (54 (26 "f")))`)
	if err != api.OK {
		t.Fatal(err)
	}
	lists(5, -1, 4, func(by []api.Part) {
		for i := range l {
			for n := range 4 {
				checkSwap(t, l, i, n, by)
			}
		}
	})
}

func TestSwapNumbersFarOutside(t *testing.T) {
	one := []api.Part{{Kind: api.KLit, Word: "1"}}
	for _, far := range []int{-1 << 63, -1<<63 + 1, -1 << 32, -2, -1, 1 << 31, 1 << 32, 1 << 62, 1<<63 - 1} {
		for _, x := range [][2]int{{far, 0}, {far, 1}, {far, far}, {0, far}, {1, far}, {2, far}} {
			if l, err := term.Swap(sum(), x[0], x[1], one); len(l) != 0 || err != api.ErrArg {
				t.Errorf("P11.4: Swap(%v, %d, %d) = %v %d", sum(), x[0], x[1], l, err)
			}
			if l, err := term.Swap(sum()[:2], x[0], x[1], one); len(l) != 0 || err != api.ErrTree {
				t.Errorf("R5: Swap(%v, %d, %d) = %v %d", sum()[:2], x[0], x[1], l, err)
			}
			if l, err := term.Swap(sum(), x[0], x[1], sum()[:2]); len(l) != 0 || err != api.ErrTree {
				t.Errorf("R5: by %v: Swap(%d, %d) = %v %d", sum()[:2], x[0], x[1], l, err)
			}
		}
	}
	// Kids stand one behind the other within one part, and no further.
	l, _ := term.Read("(13 (58 (13 (49) (49))) (49))")
	for _, x := range []struct {
		i, n int
		want api.Errno
	}{{3, 2, api.OK}, {3, 3, api.ErrArg}, {4, 1, api.OK}, {4, 2, api.ErrArg}, {1, 2, api.OK}, {1, 3, api.ErrArg}, {2, 2, api.ErrArg}, {5, 0, api.OK}, {6, 0, api.ErrArg}, {0, 0, api.ErrArg}, {0, 1, api.OK}, {0, 2, api.ErrArg}} {
		if _, err := term.Swap(l, x.i, x.n, one); err != x.want {
			t.Errorf("P11.4: Swap at %d, of %d: %d", x.i, x.n, err)
		}
	}
	if _, err := term.Swap(nil, 0, 1, one); err != api.ErrTree {
		t.Errorf("P11.4: of no list: %d", err)
	}
	if _, err := term.Swap(sum(), 0, 1, nil); err != api.ErrArg {
		t.Errorf("P11.4: no tree in the place of all: %d", err)
	}
}
