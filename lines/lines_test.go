package lines

import (
	"math"
	"slices"
	"strings"
	"testing"

	"emend/api"
)

// begun are the lines' beginnings by the chapter's words.
func begun(s string) []int {
	l := []int{0}
	for i, b := range []byte(s) {
		if b == 10 {
			l = append(l, i+1)
		}
	}
	return l
}

// checkText holds all calls on one text against the words.
func checkText(t *testing.T, s string) {
	t.Helper()
	texts := strings.Split(s, "\n")
	if got := Starts(s); !slices.Equal(got, begun(s)) {
		t.Fatalf("P4.1: Starts(%q) = %v", s, got)
	}
	if got := Count(s); got != len(texts) {
		t.Fatalf("P4.1: Count(%q) = %d", s, got)
	}
	var told []string
	for n := -1; n <= len(texts)+2; n++ {
		got, err := Line(s, n)
		if n < 1 || n > len(texts) {
			if got != "" || err != api.ErrArg {
				t.Fatalf("P4.1: Line(%q, %d) = %q %v", s, n, got, err)
			}
			continue
		}
		if got != texts[n-1] || err != api.OK {
			t.Fatalf("P4.1: Line(%q, %d) = %q %v", s, n, got, err)
		}
		told = append(told, got)
	}
	if strings.Join(told, "\n") != s {
		t.Fatalf("P4.3: %q: %q", s, told)
	}
	checkPlaces(t, s)
	checkPositions(t, s, texts)
}

// checkPlaces goes through the places and counts lines and columns.
func checkPlaces(t *testing.T, s string) {
	t.Helper()
	want := api.Pos{Line: 1, Col: 1}
	for off := 0; off <= len(s); off++ {
		got, err := At(s, off)
		if got != want || err != api.OK {
			t.Fatalf("P4.2, P4.3: At(%q, %d) = %v %v", s, off, got, err)
		}
		if back, err := Off(s, got); back != off || err != api.OK {
			t.Fatalf("P4.3: Off(%q, %v) = %d %v", s, got, back, err)
		}
		want.Col++
		if off < len(s) && s[off] == 10 {
			want = api.Pos{Line: want.Line + 1, Col: 1}
		}
	}
	for _, off := range []int{math.MinInt, -2, -1, len(s) + 1, len(s) + 2, math.MaxInt} {
		if got, err := At(s, off); got != (api.Pos{}) || err != api.ErrArg {
			t.Fatalf("P4.2: At(%q, %d) = %v %v", s, off, got, err)
		}
	}
}

// checkPositions asks for all lines and columns, and for some that are none.
func checkPositions(t *testing.T, s string, texts []string) {
	t.Helper()
	far := []int{math.MinInt, math.MaxInt}
	for line := -1; line <= len(texts)+2; line++ {
		for _, far := range far {
			checkNone(t, s, api.Pos{Line: far, Col: line})
			checkNone(t, s, api.Pos{Line: line, Col: far})
		}
		for col := -1; col <= len(s)+3; col++ {
			p := api.Pos{Line: line, Col: col}
			if line < 1 || line > len(texts) || col < 1 || col > len(texts[line-1])+1 {
				checkNone(t, s, p)
				continue
			}
			off, err := Off(s, p)
			if off != begun(s)[line-1]+col-1 || err != api.OK {
				t.Fatalf("P4.2: Off(%q, %v) = %d %v", s, p, off, err)
			}
			if back, err := At(s, off); back != p || err != api.OK {
				t.Fatalf("P4.3: At(%q, %d) = %v %v", s, off, back, err)
			}
		}
	}
}

func checkNone(t *testing.T, s string, p api.Pos) {
	t.Helper()
	if off, err := Off(s, p); off != 0 || err != api.ErrArg {
		t.Fatalf("P4.2: Off(%q, %v) = %d %v", s, p, off, err)
	}
}

func TestAllShortTexts(t *testing.T) {
	all := []string{""}
	for range 5 {
		var longer []string
		for _, s := range all {
			checkText(t, s)
			longer = append(longer, s+"a", s+"\n", s+"\r", s+"\xff")
		}
		all = longer
	}
}

func TestLongTexts(t *testing.T) {
	checkText(t, strings.Repeat("ab\n", 60))
	checkText(t, strings.Repeat("\n", 100))
	checkText(t, "\u00e9\n\u20ac\x00\n\x85\v\f\u2028x")
	long := strings.Repeat("line\n", api.MaxText)
	if n := Count(long); n != api.MaxText+1 {
		t.Error("P4.1:", n)
	}
	if p, err := At(long, len(long)); p != (api.Pos{Line: api.MaxText + 1, Col: 1}) || err != api.OK {
		t.Error("P4.2:", p, err)
	}
	if s, err := Line(long, api.MaxText); s != "line" || err != api.OK {
		t.Error("P4.1:", s, err)
	}
}

func TestExamples(t *testing.T) {
	const s = "a\nbc\n"
	if l := Starts(s); !slices.Equal(l, []int{0, 2, 5}) || Count(s) != 3 || !slices.Equal(Starts(""), []int{0}) {
		t.Error("P4.1:", l, Count(s), Starts(""))
	}
	for n, want := range []string{"a", "bc", ""} {
		if got, err := Line(s, n+1); got != want || err != api.OK {
			t.Error("P4.1:", n+1, got, err)
		}
	}
	for off, want := range map[int]api.Pos{1: {Line: 1, Col: 2}, 2: {Line: 2, Col: 1}, 5: {Line: 3, Col: 1}} {
		if got, err := At(s, off); got != want || err != api.OK {
			t.Error("P4.2:", off, got, err)
		}
	}
	if _, err := At(s, 6); err != api.ErrArg {
		t.Error("P4.2:", err)
	}
	if off, err := Off(s, api.Pos{Line: 2, Col: 3}); off != 4 || err != api.OK {
		t.Error("P4.2:", off, err)
	}
	checkNone(t, s, api.Pos{Line: 2, Col: 4})
}

func TestAnswersAreNewMemory(t *testing.T) {
	a, b := Starts("a\nb"), Starts("a\nb")
	a[0], a[1] = 7, 7
	if !slices.Equal(b, []int{0, 2}) || !slices.Equal(Starts("a\nb"), b) {
		t.Error("R3:", b)
	}
}
