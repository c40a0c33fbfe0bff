package tree_test

import (
	"slices"
	"testing"

	"emend/api"
	"emend/tree"
)

// grown is a node of a tree with its kids, as the numbers of kids say.
type grown struct {
	api.Node
	number int
	kids   []*grown
}

// grow puts the tree together that begins at a list's node i, and tells where
// it ends; nothing, if it is not whole there.
func grow(l []api.Node, i int) (*grown, int) {
	if i >= len(l) || l[i].Kids < 0 {
		return nil, 0
	}
	g := &grown{Node: l[i], number: i}
	end := i + 1
	for k := 0; k < l[i].Kids; k++ {
		kid, to := grow(l, end)
		if kid == nil {
			return nil, 0
		}
		g.kids = append(g.kids, kid)
		end = to
	}
	return g, end
}

// tokens are a node's.
func (g *grown) tokens() []int {
	var l []int
	for i := g.From; i < g.To; i++ {
		l = append(l, i)
	}
	return l
}

// own are a node's tokens that are no kid's.
func (g *grown) own() []int {
	return slices.DeleteFunc(g.tokens(), func(i int) bool {
		return slices.ContainsFunc(g.kids, func(kid *grown) bool { return slices.Contains(kid.tokens(), i) })
	})
}

// each hands all nodes to do, each with the one of which it is a kid, and how
// many nodes it stands within.
func (g *grown) each(up *grown, deep int, do func(g, up *grown, deep int)) {
	do(g, up, deep)
	for _, kid := range g.kids {
		kid.each(g, deep+1, do)
	}
}

// isTree tells whether a list is a tree of n tokens, by the chapter's words
// one by one.
func isTree(l []api.Node, n int) (*grown, bool) {
	root, end := grow(l, 0)
	if root == nil || end != len(l) {
		return nil, false
	}
	ok := true
	root.each(nil, 0, func(g, _ *grown, _ int) {
		if g.Kind > 68 || g.From < 0 || g.From > g.To || g.To > n {
			ok = false
			return
		}
		for k, kid := range g.kids {
			if kid.From < g.From || kid.From > g.To || kid.To < g.From || kid.To > g.To {
				ok = false
			}
			if k > 0 && kid.From < g.kids[k-1].To {
				ok = false
			}
		}
		if ok && g.Word != -1 && !slices.Contains(g.own(), g.Word) {
			ok = false
		}
	})
	return root, ok
}

// check holds Check's answer against the words.
func check(t *testing.T, l []api.Node, n int) {
	t.Helper()
	want := api.OK
	if n < 0 || n > 131072 {
		want = api.ErrArg
	} else if _, ok := isTree(l, n); !ok {
		want = api.ErrTree
	}
	if got := tree.Check(l, n); got != want {
		t.Fatalf("P10.1: Check(%v, %d) = %d, not %d", l, n, got, want)
	}
}

// checkNone holds all calls to what they answer where there is nothing to
// tell.
func checkNone(t *testing.T, l []api.Node, i int) {
	t.Helper()
	if end, up := tree.End(l, i), tree.Up(l, i); end != -1 || up != -1 {
		t.Fatalf("P10.2: End(%v, %d) = %d, Up = %d", l, i, end, up)
	}
	if kids, own := tree.Kids(l, i), tree.Own(l, i); len(kids) != 0 || len(own) != 0 {
		t.Fatalf("P10.2: Kids(%v, %d) = %v, Own = %v", l, i, kids, own)
	}
}

// checkAll holds what all calls tell of a list against the words.
func checkAll(t *testing.T, l []api.Node) {
	t.Helper()
	root, ok := isTree(l, 131072)
	checkNone(t, l, -1)
	checkNone(t, l, len(l))
	if !ok {
		for i := range l {
			checkNone(t, l, i)
		}
		for token := -1; token <= 4; token++ {
			if over := tree.Over(l, token); over != -1 {
				t.Fatalf("P10.2: Over(%v, %d) = %d", l, token, over)
			}
		}
		if depth := tree.Depth(l); depth != 0 {
			t.Fatalf("P10.2: Depth(%v) = %d", l, depth)
		}
		return
	}
	depth := 0
	over := map[int]int{}
	owners := map[int][]int{}
	root.each(nil, 1, func(g, up *grown, deep int) {
		depth = max(depth, deep)
		checkNode(t, l, g, up)
		for _, token := range g.tokens() {
			over[token] = g.number
		}
		for _, token := range tree.Own(l, g.number) {
			owners[token] = append(owners[token], g.number)
		}
	})
	if got := tree.Depth(l); got != depth {
		t.Fatalf("P10.2: Depth(%v) = %d, not %d", l, got, depth)
	}
	for token := root.From - 2; token <= root.To+1; token++ {
		want, ok := over[token]
		if !ok {
			want = -1
		}
		if got := tree.Over(l, token); got != want {
			t.Fatalf("P10.2: Over(%v, %d) = %d, not %d", l, token, got, want)
		}
		if ok && !slices.Equal(owners[token], []int{want}) || !ok && len(owners[token]) != 0 {
			t.Fatalf("P10.3: %v: token %d is the own one of %v, and Over tells %d", l, token, owners[token], want)
		}
	}
}

// checkNode holds what is told of a list's node against the words.
func checkNode(t *testing.T, l []api.Node, g, up *grown) {
	t.Helper()
	_, end := grow(l, g.number)
	if got := tree.End(l, g.number); got != end {
		t.Fatalf("P10.2: End(%v, %d) = %d, not %d", l, g.number, got, end)
	}
	var kids []int
	for _, kid := range g.kids {
		kids = append(kids, kid.number)
	}
	got := tree.Kids(l, g.number)
	if !slices.Equal(got, kids) {
		t.Fatalf("P10.2: Kids(%v, %d) = %v, not %v", l, g.number, got, kids)
	}
	next := g.number + 1
	for _, kid := range got {
		if kid != next {
			t.Fatalf("P10.3: Kids(%v, %d) = %v", l, g.number, got)
		}
		next = tree.End(l, kid)
	}
	if next != end {
		t.Fatalf("P10.3: Kids(%v, %d) = %v, up to %d", l, g.number, got, next)
	}
	want := -1
	if up != nil {
		want = up.number
	}
	if got := tree.Up(l, g.number); got != want {
		t.Fatalf("P10.2: Up(%v, %d) = %d, not %d", l, g.number, got, want)
	}
	if got := tree.Own(l, g.number); !slices.Equal(got, g.own()) {
		t.Fatalf("P10.2: Own(%v, %d) = %v, not %v", l, g.number, got, g.own())
	}
}

// sum is the chapter's example: a+b.
func sum() []api.Node {
	return []api.Node{
		{Kind: api.KBinary, Kids: 2, Word: 1, From: 0, To: 3},
		{Kind: api.KName, Word: 0, From: 0, To: 1},
		{Kind: api.KName, Word: 2, From: 2, To: 3},
	}
}

func TestExamples(t *testing.T) {
	l := sum()
	for n, want := range []api.Errno{api.ErrTree, api.ErrTree, api.ErrTree, api.OK, api.OK} {
		if got := tree.Check(l, n); got != want {
			t.Errorf("P10.1: of %d tokens: %d", n, got)
		}
	}
	if got := tree.Check(l[:2], 3); got != api.ErrTree {
		t.Errorf("P10.1: without its last node: %d", got)
	}
	for i, want := range []struct {
		end, up   int
		kids, own []int
	}{{3, -1, []int{1, 2}, []int{1}}, {2, 0, nil, []int{0}}, {3, 0, nil, []int{2}}} {
		if tree.End(l, i) != want.end || tree.Up(l, i) != want.up || !slices.Equal(tree.Kids(l, i), want.kids) || !slices.Equal(tree.Own(l, i), want.own) {
			t.Errorf("P10.2: node %d: %d %d %v %v", i, tree.End(l, i), tree.Up(l, i), tree.Kids(l, i), tree.Own(l, i))
		}
	}
	for token, want := range []int{1, 0, 2, -1} {
		if got := tree.Over(l, token); got != want {
			t.Errorf("P10.2: Over(%d) = %d", token, got)
		}
	}
	if tree.Over(l, -1) != -1 || tree.Depth(l) != 2 {
		t.Errorf("P10.2: %d %d", tree.Over(l, -1), tree.Depth(l))
	}
	checkAll(t, l)
}

func TestNumbersOfTokens(t *testing.T) {
	const most = 131072
	whole := func(n int) []api.Node { return []api.Node{{Word: -1, To: n}} }
	for _, x := range []struct {
		l    []api.Node
		n    int
		want api.Errno
	}{
		{whole(0), 0, api.OK},
		{whole(0), -1, api.ErrArg},
		{whole(1), 0, api.ErrTree},
		{whole(most), most, api.OK},
		{whole(most), most - 1, api.ErrTree},
		{whole(most), most + 1, api.ErrArg},
		{whole(most + 1), most, api.ErrTree},
		{whole(most + 1), most + 1, api.ErrArg},
		{nil, 0, api.ErrTree},
		{nil, -1, api.ErrArg},
		{nil, most + 1, api.ErrArg},
		{[]api.Node{}, most, api.ErrTree},
		{sum(), 1 << 62, api.ErrArg},
		{sum(), -1 << 63, api.ErrArg},
	} {
		if got := tree.Check(x.l, x.n); got != x.want {
			t.Errorf("P10.1: Check(%v, %d) = %d, not %d", x.l, x.n, got, x.want)
		}
	}
	if tree.End(whole(most), 0) != 1 || len(tree.Own(whole(most), 0)) != most || tree.Over(whole(most), most-1) != 0 {
		t.Error("P10.2: a tree of MaxTokens tokens is one")
	}
	if tree.End(whole(most+1), 0) != -1 || len(tree.Own(whole(most+1), 0)) != 0 || tree.Over(whole(most+1), 0) != -1 || tree.Depth(whole(most+1)) != 0 {
		t.Error("P10.2: a tree of more tokens is none")
	}
}

func TestAllKinds(t *testing.T) {
	for kind := range 256 {
		l := sum()
		for i := range l {
			l[i].Kind = uint8(kind)
			check(t, l, 3)
		}
		checkAll(t, l)
		want := api.OK
		if kind > 68 {
			want = api.ErrTree
		}
		if got := tree.Check(l, 3); got != want {
			t.Errorf("P10.1: of kind %d: %d", kind, got)
		}
	}
}

func TestAllSingleNodes(t *testing.T) {
	for from := -2; from <= 3; from++ {
		for to := -2; to <= 4; to++ {
			for word := -3; word <= 4; word++ {
				for kids := -1; kids <= 1; kids++ {
					l := []api.Node{{Kind: 68, Kids: kids, Word: word, From: from, To: to}}
					for n := -1; n <= 4; n++ {
						check(t, l, n)
					}
					checkAll(t, l)
				}
			}
		}
	}
}

// ranges hands all lists of n pairs of numbers from low up to high to do.
func ranges(n, low, high int, do func(l [][2]int)) {
	l := make([][2]int, n)
	var put func(k int)
	put = func(k int) {
		if k == n {
			do(l)
			return
		}
		for from := low; from <= high; from++ {
			for to := low; to <= high; to++ {
				l[k] = [2]int{from, to}
				put(k + 1)
			}
		}
	}
	put(0)
}

func TestAllPairsOfNodes(t *testing.T) {
	ranges(2, -1, 3, func(r [][2]int) {
		for word := -1; word <= 3; word++ {
			for kids := 0; kids <= 2; kids++ {
				l := []api.Node{{Kids: kids, Word: word, From: r[0][0], To: r[0][1]}, {Word: -1, From: r[1][0], To: r[1][1]}}
				check(t, l, 3)
				check(t, l, 2)
				checkAll(t, l)
			}
		}
	})
}

func TestAllTreesOfThree(t *testing.T) {
	ranges(3, 0, 3, func(r [][2]int) {
		for _, kids := range [][3]int{{2, 0, 0}, {1, 1, 0}, {1, 0, 0}, {2, 1, 0}, {0, 2, 0}} {
			for word := -1; word <= 3; word++ {
				for kidsWord := -1; kidsWord <= 2; kidsWord++ {
					l := []api.Node{
						{Kids: kids[0], Word: word, From: r[0][0], To: r[0][1]},
						{Kids: kids[1], Word: kidsWord, From: r[1][0], To: r[1][1]},
						{Kids: kids[2], Word: -1, From: r[2][0], To: r[2][1]},
					}
					check(t, l, 3)
					if r[0] == [2]int{0, 3} {
						checkAll(t, l)
					}
				}
			}
		}
	})
}

// trees hands all trees of up to n nodes, the tokens of each lying from one up
// to another one, to do; each node's word is the first of its own tokens.
func trees(n, from, to int, do func(l []api.Node)) {
	var row func(ahead []api.Node, n, from, to int, then func(l []api.Node, kids int))
	row = func(ahead []api.Node, n, from, to int, then func(l []api.Node, kids int)) {
		then(ahead, 0)
		if n == 0 {
			return
		}
		for f := from; f <= to; f++ {
			for e := f; e <= to; e++ {
				at := len(ahead)
				one := append(slices.Clone(ahead), api.Node{Word: -1, From: f, To: e})
				row(one, n-1, f, e, func(l []api.Node, kids int) {
					l = slices.Clone(l)
					l[at].Kids = kids
					g, _ := grow(l, at)
					if own := g.own(); len(own) > 0 {
						l[at].Word = own[0]
					}
					row(l, n-(len(l)-at), e, to, func(l []api.Node, kids int) { then(l, kids+1) })
				})
			}
		}
	}
	row(nil, n, from, to, func(l []api.Node, kids int) {
		if kids == 1 {
			do(l)
		}
	})
}

func TestAllSmallTrees(t *testing.T) {
	count := 0
	each := func(l []api.Node) {
		count++
		if got := tree.Check(l, 3); got != api.OK {
			t.Fatalf("P10.1: Check(%v, 3) = %d", l, got)
		}
		checkAll(t, l)
	}
	trees(5, 0, 3, each)
	trees(7, 0, 1, each)
	// Of n nodes there are 1, 1, 2, 5, 14, 42, 132 shapes; of each, From and To
	// in the order in which they stand are 2n numbers that don't fall.
	if count != 5042+2747 {
		t.Errorf("%d trees", count)
	}
}

func TestOneNumberOff(t *testing.T) {
	trees(4, 1, 2, func(l []api.Node) {
		for i := range l {
			for _, by := range []int{-2, -1, 1, 2} {
				for field := range 4 {
					off := slices.Clone(l)
					switch field {
					case 0:
						off[i].Kids += by
					case 1:
						off[i].Word += by
					case 2:
						off[i].From += by
					case 3:
						off[i].To += by
					}
					check(t, off, 3)
					checkAll(t, off)
				}
			}
		}
	})
}

func TestNumbersFarOutside(t *testing.T) {
	far := []int{-1 << 63, -1<<63 + 1, -1 << 32, -2, 1 << 31, 1 << 32, 1<<63 - 2, 1<<63 - 1}
	for _, x := range far {
		checkNone(t, sum(), x)
		if over := tree.Over(sum(), x); over != -1 {
			t.Errorf("P10.2: Over(%d) = %d", x, over)
		}
		for i := range 3 {
			for field := range 4 {
				l := sum()
				*[]*int{&l[i].Kids, &l[i].Word, &l[i].From, &l[i].To}[field] = x
				if got := tree.Check(l, 3); got != api.ErrTree {
					t.Errorf("P10.1: Check(%v, 3) = %d", l, got)
				}
				for k := range l {
					checkNone(t, l, k)
				}
				if tree.Over(l, 0) != -1 || tree.Depth(l) != 0 {
					t.Errorf("P10.2: %v: %d %d", l, tree.Over(l, 0), tree.Depth(l))
				}
			}
		}
	}
	// Numbers of kids whose sum, taken round, would be that of a tree.
	for _, kids := range [][]int{{1 << 62, 1 << 62, 1 << 62, 1 << 62}, {1<<63 - 1, 1<<63 - 1, 1, 1}, {-1, 0, 0}, {3, -1, 0}, {0, 0}, {2, -1, 1, 0}} {
		var l []api.Node
		for _, n := range kids {
			l = append(l, api.Node{Kids: n, Word: -1})
		}
		if got := tree.Check(l, 3); got != api.ErrTree || tree.End(l, 0) != -1 {
			t.Errorf("P10.1: %v: %d", kids, got)
		}
	}
}

func TestGreatTrees(t *testing.T) {
	const n = 65536
	deep, wide := make([]api.Node, n), make([]api.Node, n)
	for i := range n {
		deep[i] = api.Node{Kids: 1, Word: i, From: i, To: n}
		wide[i] = api.Node{Word: i, From: i, To: i + 1}
	}
	deep[n-1].Kids = 0
	wide[0] = api.Node{Kids: n - 1, Word: 0, To: n}
	if tree.Check(deep, n) != api.OK || tree.Depth(deep) != n || tree.Up(deep, n-1) != n-2 || tree.End(deep, 1) != n || tree.Over(deep, n-1) != n-1 || !slices.Equal(tree.Own(deep, n-2), []int{n - 2}) {
		t.Error("P10.2: a deep tree")
	}
	if tree.Check(wide, n) != api.OK || tree.Depth(wide) != 2 || tree.Up(wide, n-1) != 0 || tree.End(wide, 1) != 2 || tree.Over(wide, n-1) != n-1 || len(tree.Kids(wide, 0)) != n-1 || !slices.Equal(tree.Own(wide, 0), []int{0}) {
		t.Error("P10.2: a wide tree")
	}
}

func TestAnswersShareNothing(t *testing.T) {
	room := append(sum(), api.Node{Kind: 99, Kids: 7, Word: -5, From: 9, To: -9})
	want := slices.Clone(room)
	l := room[:3]
	kids, own := tree.Kids(l, 0), tree.Own(l, 0)
	kids[0], own[0] = 77, 77
	_ = append(kids, 78)
	if !slices.Equal(tree.Kids(l, 0), []int{1, 2}) || !slices.Equal(tree.Own(l, 0), []int{1}) {
		t.Errorf("R3: %v %v", tree.Kids(l, 0), tree.Own(l, 0))
	}
	checkAll(t, l)
	check(t, l, 3)
	if !slices.Equal(room, want) {
		t.Errorf("R3: %v", room)
	}
	checkAll(t, room)
	checkAll(t, l) // R2: nothing is kept of a list that was none
}
