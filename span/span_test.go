package span

import (
	"math"
	"slices"
	"strings"
	"testing"

	"emend/api"
)

// mayStand is the chapter's word for edits that may stand, edit by edit.
func mayStand(n int, l []api.Edit) bool {
	for i, e := range l {
		if !(0 <= e.From && e.From <= e.To && e.To <= n) || i > 0 && e.From < l[i-1].To {
			return false
		}
	}
	return true
}

// edited puts each edit's Text in the place of its bytes, from the last one on.
func edited(s string, l []api.Edit) string {
	for i := len(l) - 1; i >= 0; i-- {
		s = s[:l[i].From] + l[i].Text + s[l[i].To:]
	}
	return s
}

// left is the chapter's word for a place that is left.
func left(n int, l []api.Edit, at int) bool {
	if at == n {
		return true
	}
	for _, e := range l {
		if e.From <= at && at < e.To {
			return false
		}
	}
	return true
}

// comesTo is where a place that is left comes to.
func comesTo(l []api.Edit, at int) int {
	to := at
	for _, e := range l {
		if e.To <= at {
			to += len(e.Text)
		}
	}
	for _, e := range l {
		if e.To <= at {
			to -= e.To - e.From
		}
	}
	return to
}

// undone says by the edited text alone where each edit's Text stands.
func undone(s string, l []api.Edit) []api.Edit {
	var back []api.Edit
	for i, e := range l {
		ahead := edited(s[:e.From], l[:i])
		back = append(back, api.Edit{From: len(ahead), To: len(ahead) + len(e.Text), Text: s[e.From:e.To]})
	}
	return back
}

// lessened is what Trim makes of one edit.
func lessened(s string, e api.Edit) api.Edit {
	took := s[e.From:e.To]
	for took != "" && e.Text != "" && took[0] == e.Text[0] {
		took, e.Text, e.From = took[1:], e.Text[1:], e.From+1
	}
	for took != "" && e.Text != "" && strings.HasSuffix(e.Text, took[len(took)-1:]) {
		took, e.Text, e.To = took[:len(took)-1], e.Text[:len(e.Text)-1], e.To-1
	}
	return e
}

func trimmedList(s string, l []api.Edit) []api.Edit {
	var less []api.Edit
	for _, e := range l {
		if e = lessened(s, e); e.From != e.To || e.Text != "" {
			less = append(less, e)
		}
	}
	return less
}

// guarded is the list with room behind its end, in which stand edits that may
// not be read.
func guarded(l []api.Edit) ([]api.Edit, func() bool) {
	room := append(slices.Clone(l), api.Edit{From: 0, To: 1, Text: "room"}, api.Edit{From: -7, To: 3, Text: "room"})
	was := slices.Clone(room)
	return room[:len(l)], func() bool { return slices.Equal(room, was) }
}

// checkList holds all calls on one text and one list against the words.
func checkList(t *testing.T, s string, l []api.Edit) {
	t.Helper()
	l, kept := guarded(l)
	want := api.OK
	if !mayStand(len(s), l) {
		want = api.ErrCross
	}
	text, err1 := Apply(s, l)
	back, err2 := Undo(s, l)
	less, err3 := Trim(s, l)
	if err := Check(len(s), l); err != want || err1 != want || err2 != want || err3 != want {
		t.Fatalf("P3.1, P3.3, P3.4: %q %v: %v %v %v %v", s, l, err, err1, err2, err3)
	}
	if want != api.OK {
		checkRefused(t, s, l, text, back, less)
		return
	}
	if text != edited(s, l) {
		t.Fatalf("P3.1: Apply(%q, %v) = %q", s, l, text)
	}
	checkMoves(t, s, text, l)
	if !slices.Equal(back, undone(s, l)) {
		t.Fatalf("P3.3: Undo(%q, %v) = %v", s, l, back)
	}
	if was, err := Apply(text, back); was != s || err != api.OK {
		t.Fatalf("P3.5: %q %v undone: %q %v", s, l, was, err)
	}
	if !slices.Equal(less, trimmedList(s, l)) {
		t.Fatalf("P3.4: Trim(%q, %v) = %v", s, l, less)
	}
	if again, err := Apply(s, less); again != text || err != api.OK {
		t.Fatalf("P3.5: %q %v trimmed: %q %v", s, l, again, err)
	}
	if !kept() {
		t.Fatalf("R3: %q %v changed", s, l)
	}
}

func checkRefused(t *testing.T, s string, l []api.Edit, text string, back, less []api.Edit) {
	t.Helper()
	if text != "" || len(back) != 0 || len(less) != 0 {
		t.Fatalf("R4: %q %v: %q %v %v", s, l, text, back, less)
	}
	for at := -1; at <= len(s)+1; at++ {
		if to, ok := Move(len(s), l, at); to != 0 || ok {
			t.Fatalf("P3.2: Move(%d, %v, %d) = %d %v", len(s), l, at, to, ok)
		}
	}
}

func checkMoves(t *testing.T, s, text string, l []api.Edit) {
	t.Helper()
	for at := -2; at <= len(s)+2; at++ {
		to, ok := Move(len(s), l, at)
		if at < 0 || at > len(s) || !left(len(s), l, at) {
			if to != 0 || ok {
				t.Fatalf("P3.2: Move(%d, %v, %d) = %d %v", len(s), l, at, to, ok)
			}
			continue
		}
		if to != comesTo(l, at) || !ok {
			t.Fatalf("P3.2: Move(%d, %v, %d) = %d %v", len(s), l, at, to, ok)
		}
		if at == len(s) && to != len(text) || at < len(s) && text[to] != s[at] {
			t.Fatalf("P3.5: %q %v: %d comes to %d of %q", s, l, at, to, text)
		}
	}
}

// edits are all edits with these places, from a bit ahead of the text to a bit
// behind it.
func edits(n int, texts ...string) []api.Edit {
	var l []api.Edit
	for from := -1; from <= n+1; from++ {
		for to := -1; to <= n+1; to++ {
			for _, text := range texts {
				l = append(l, api.Edit{From: from, To: to, Text: text})
			}
		}
	}
	return l
}

func TestAllShortLists(t *testing.T) {
	for _, s := range []string{"", "a", "b", "aa", "aba", "abab"} {
		checkList(t, s, nil)
		all := edits(len(s), "", "a", "ab", "bab", "aaa", "x")
		for _, a := range all {
			checkList(t, s, []api.Edit{a})
			if len(s) > 3 {
				continue
			}
			for _, b := range all {
				checkList(t, s, []api.Edit{a, b})
			}
		}
	}
}

func TestListsOfThreeThatMayStand(t *testing.T) {
	const s = "aab"
	var all []api.Edit
	for _, e := range edits(len(s), "", "b", "aa") {
		if mayStand(len(s), []api.Edit{e}) {
			all = append(all, e)
		}
	}
	for _, a := range all {
		for _, b := range all {
			for _, c := range all {
				checkList(t, s, []api.Edit{a, b, c})
			}
		}
	}
}

func TestAllLeastEdits(t *testing.T) {
	var all []string
	for _, a := range []string{"", "a", "b"} {
		for _, b := range []string{"", "a", "b"} {
			for _, c := range []string{"", "a", "b", "ab", "ba"} {
				all = append(all, a+b+c)
			}
		}
	}
	for _, a := range all {
		for _, b := range all {
			want := api.Edit{}
			if a != b {
				want = lessened(a, api.Edit{To: len(a), Text: b})
			}
			e := Diff(a, b)
			if e != want {
				t.Fatalf("P3.4: Diff(%q, %q) = %v", a, b, e)
			}
			if made, err := Apply(a, []api.Edit{e}); made != b || err != api.OK {
				t.Fatalf("P3.5: Diff(%q, %q) makes %q %v", a, b, made, err)
			}
		}
	}
}

func TestExamples(t *testing.T) {
	l := []api.Edit{{From: 1, To: 3, Text: "X"}, {From: 3, To: 3, Text: "Y"}}
	if s, err := Apply("abcd", l); s != "aXYd" || err != api.OK {
		t.Error("P3.1:", s, err)
	}
	if at, ok := Move(4, l, 3); at != 3 || !ok {
		t.Error("P3.2:", at, ok)
	}
	if at, ok := Move(4, l, 2); at != 0 || ok {
		t.Error("P3.2:", at, ok)
	}
	if back, err := Undo("abcd", l); !slices.Equal(back, []api.Edit{{From: 1, To: 2, Text: "bc"}, {From: 2, To: 3}}) || err != api.OK {
		t.Error("P3.3:", back, err)
	}
	if err := Check(4, []api.Edit{{From: 2, To: 3}, {From: 1, To: 1}}); err != api.ErrCross {
		t.Error("P3.1:", err)
	}
	if less, err := Trim("abcd", []api.Edit{{From: 0, To: 4, Text: "abXd"}}); !slices.Equal(less, []api.Edit{{From: 2, To: 3, Text: "X"}}) || err != api.OK {
		t.Error("P3.4:", less, err)
	}
	if e := Diff("aaa", "aa"); e != (api.Edit{From: 2, To: 3}) {
		t.Error("P3.4:", e)
	}
}

func TestLengths(t *testing.T) {
	bad := []api.Edit{{From: 2, To: 1}}
	for _, n := range []int{math.MinInt, -1, api.MaxText + 1, math.MaxInt} {
		if err := Check(n, bad); err != api.ErrArg {
			t.Error("P3.1, R5:", n, err)
		}
		if at, ok := Move(n, nil, 0); at != 0 || ok {
			t.Error("P3.2:", n, at, ok)
		}
	}
	for _, n := range []int{0, 1, api.MaxText} {
		if err := Check(n, nil); err != api.OK {
			t.Error("P3.1:", n, err)
		}
		if at, ok := Move(n, nil, n); at != n || !ok {
			t.Error("P3.2:", n, at, ok)
		}
	}
	full := strings.Repeat("a", api.MaxText)
	if s, err := Apply(full, nil); s != full || err != api.OK {
		t.Error("P3.1:", len(s), err)
	}
	for _, l := range [][]api.Edit{nil, bad} {
		text, err1 := Apply(full+"a", l)
		back, err2 := Undo(full+"a", l)
		less, err3 := Trim(full+"a", l)
		if err1 != api.ErrLong || err2 != api.ErrLong || err3 != api.ErrLong || text != "" || back != nil || less != nil {
			t.Error("P3.1, P3.3, P3.4:", err1, err2, err3, len(text), back, less)
		}
	}
}

func TestLengthOfTheEditedText(t *testing.T) {
	full := strings.Repeat("a", api.MaxText)
	long := []api.Edit{{From: 0, To: 0, Text: "a"}}
	text, err1 := Apply(full, long)
	back, err2 := Undo(full, long)
	if err1 != api.ErrLong || err2 != api.ErrLong || text != "" || back != nil {
		t.Error("P3.1, P3.3:", err1, err2, len(text), back)
	}
	if less, err := Trim(full, long); !slices.Equal(less, long) || err != api.OK {
		t.Error("P3.4:", less, err)
	}
	if at, ok := Move(len(full), long, len(full)); at != len(full)+1 || !ok {
		t.Error("P3.2:", at, ok)
	}
	crossed := append(slices.Clone(long), api.Edit{From: 3, To: 2})
	if _, err := Apply(full, crossed); err != api.ErrCross {
		t.Error("R5:", err)
	}
	made := []api.Edit{{From: 0, To: 1, Text: full}, {From: 1, To: api.MaxText}}
	if s, err := Apply(full, made); s != full || err != api.OK {
		t.Error("P3.1:", len(s), err)
	}
	if _, err := Undo(full, made); err != api.OK {
		t.Error("P3.3:", err)
	}
}

func TestDiffOfAnyLength(t *testing.T) {
	long := strings.Repeat("ab", api.MaxText)
	if e := Diff(long, long); e != (api.Edit{}) {
		t.Error("P3.4:", e.From, e.To, len(e.Text))
	}
	if e := Diff(long+"x"+long, long+"yz"+long); e != (api.Edit{From: len(long), To: len(long) + 1, Text: "yz"}) {
		t.Error("P3.4:", e.From, e.To, len(e.Text))
	}
}

func TestFarNumbers(t *testing.T) {
	far := []int{math.MinInt, -1, 0, 3, 4, math.MaxInt}
	for _, from := range far {
		for _, to := range far {
			checkList(t, "abc", []api.Edit{{From: from, To: to, Text: "x"}})
			checkList(t, "abc", []api.Edit{{From: 1, To: 2}, {From: from, To: to, Text: "x"}})
		}
	}
	for _, at := range []int{math.MinInt, math.MaxInt} {
		if to, ok := Move(3, nil, at); to != 0 || ok {
			t.Error("P3.2:", at, to, ok)
		}
	}
}

func TestAnswersAreNewMemory(t *testing.T) {
	l := []api.Edit{{From: 0, To: 1, Text: "x"}, {From: 1, To: 1, Text: "y"}}
	was := slices.Clone(l)
	back, _ := Undo("ab", l)
	less, _ := Trim("ab", l)
	for _, answer := range [][]api.Edit{back, less} {
		for i := range answer {
			answer[i] = api.Edit{From: 9, To: 9, Text: "z"}
		}
		_ = append(answer, api.Edit{From: 8})
	}
	if !slices.Equal(l, was) {
		t.Error("R3:", l)
	}
	if again, _ := Trim("ab", l); !slices.Equal(again, was) {
		t.Error("R2:", again)
	}
}
