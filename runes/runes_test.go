package runes

import (
	"math"
	"slices"
	"strings"
	"testing"
)

// numbers has every number that may be a character, and such as never are.
func numbers() []rune {
	l := []rune{math.MinInt32, math.MinInt32 + 1, -0x10000, -0x80, -2, -1}
	for r := rune(0); r <= 0x110100; r++ {
		l = append(l, r)
	}
	return append(l, 0x1FFFFF, 0x200000, 0x7FFFFFF, math.MaxInt32-1, math.MaxInt32)
}

// tableForm is a character's form by the chapter's table, bit by bit; nil for
// what is no character.
func tableForm(r rune) []byte {
	tail := func(shift uint) byte { return 0x80 | byte(r>>shift)&0x3F }
	switch {
	case r < 0 || r > 0x10FFFF || 0xD800 <= r && r <= 0xDFFF:
		return nil
	case r <= 0x7F:
		return []byte{byte(r)}
	case r <= 0x7FF:
		return []byte{0xC0 | byte(r>>6), tail(0)}
	case r <= 0xFFFF:
		return []byte{0xE0 | byte(r>>12), tail(6), tail(0)}
	}
	return []byte{0xF0 | byte(r>>18), tail(12), tail(6), tail(0)}
}

// tableRead is what the table says of the bytes of s from at on.
func tableRead(s string, at int) (rune, int) {
	if at < 0 || at >= len(s) {
		return 0, 0
	}
	s = s[at:]
	n, r := 0, rune(0)
	switch b := s[0]; {
	case b>>7 == 0:
		n, r = 1, rune(b)
	case b>>5 == 6:
		n, r = 2, rune(b&0x1F)
	case b>>4 == 14:
		n, r = 3, rune(b&0xF)
	case b>>3 == 30:
		n, r = 4, rune(b&7)
	}
	if n == 0 || n > len(s) {
		return 0, 0
	}
	for i := 1; i < n; i++ {
		r = r<<6 | rune(s[i]&0x3F)
	}
	if s[:n] != string(tableForm(r)) {
		return 0, 0
	}
	return r, n
}

// tableAll reads form behind form: the characters, and the first bad place.
func tableAll(s string) ([]rune, int) {
	var l []rune
	for at := 0; at < len(s); {
		r, n := tableRead(s, at)
		if n == 0 {
			return nil, at
		}
		l = append(l, r)
		at += n
	}
	return l, -1
}

// checkText holds all calls on one text against the table.
func checkText(t *testing.T, s string) {
	t.Helper()
	for at := -2; at <= len(s)+2; at++ {
		r, n := Read(s, at)
		if wr, wn := tableRead(s, at); r != wr || n != wn {
			t.Fatalf("P1.1: Read(%q, %d) = %x, %d; want %x, %d", s, at, r, n, wr, wn)
		}
	}
	want, bad := tableAll(s)
	if got := Bad(s); got != bad {
		t.Fatalf("P1.2: Bad(%q) = %d, want %d", s, got, bad)
	}
	l, ok := All(s)
	if ok != (bad < 0) || !slices.Equal(l, want) {
		t.Fatalf("P1.2: All(%q) = %x, %v; want %x, %v", s, l, ok, want, bad < 0)
	}
	if ok {
		if back, ok := Join(l); back != s || !ok {
			t.Fatalf("P1.3: Join(All(%q)) = %q, %v", s, back, ok)
		}
	}
}

// places calls f with every list of n of the given things.
func places[T any](of []T, n int, f func([]T)) {
	l := make([]T, n)
	var fill func(i int)
	fill = func(i int) {
		if i == n {
			f(l)
			return
		}
		for _, x := range of {
			l[i] = x
			fill(i + 1)
		}
	}
	fill(0)
}

func TestFormOfEveryNumber(t *testing.T) {
	for _, r := range numbers() {
		if got, want := Form(r), string(tableForm(r)); got != want {
			t.Fatalf("P1.1: Form(%x) = %q, want %q", r, got, want)
		}
	}
}

func TestReadOfEveryForm(t *testing.T) {
	for _, r := range numbers() {
		form := string(tableForm(r))
		if form == "" {
			continue
		}
		for _, s := range []string{form, form + "\xff", form + form} {
			if got, n := Read(s, 0); got != r || n != len(form) {
				t.Fatalf("P1.1: Read(%q, 0) = %x, %d; want %x, %d", s, got, n, r, len(form))
			}
		}
		for at := 1; at < len(form); at++ {
			if got, n := Read(form, at); got != 0 || n != 0 {
				t.Fatalf("P1.1: Read(%q, %d), within a form: %x, %d", form, at, got, n)
			}
			if got, n := Read(form[:at], 0); got != 0 || n != 0 {
				t.Fatalf("P1.1: Read(%q, 0), a form cut short: %x, %d", form[:at], got, n)
			}
		}
	}
}

func TestReadOutsideOfTheText(t *testing.T) {
	for _, s := range []string{"", "a", "é€", "\xff"} {
		for _, at := range []int{math.MinInt, math.MinInt32, -1, len(s), len(s) + 1, math.MaxInt32, math.MaxInt} {
			if r, n := Read(s, at); r != 0 || n != 0 {
				t.Errorf("P1.1: Read(%q, %d) = %x, %d", s, at, r, n)
			}
		}
	}
}

// The character FFFD is one like any other: it is not to be taken for bytes
// that are none, nor these for it; nor is the character 0 for none.
func TestCharactersThatLookLikeNone(t *testing.T) {
	for _, s := range []string{"\xef\xbf\xbd", "a\xef\xbf\xbdb", "\xef\xbf\xbd\xff", "\xff\xef\xbf\xbd", "\xef\xbf", "\x00", "a\x00b", "\x00\xff"} {
		checkText(t, s)
	}
	if r, n := Read("\x00", 0); r != 0 || n != 1 {
		t.Errorf("P1.1: Read of the character 0: %x, %d", r, n)
	}
	if r, n := Read("\xef\xbf\xbd", 0); r != 0xFFFD || n != 3 {
		t.Errorf("P1.1: Read of the character FFFD: %x, %d", r, n)
	}
}

func TestShortTexts(t *testing.T) {
	checkText(t, "")
	var all []byte
	for b := range 256 {
		all = append(all, byte(b))
		checkText(t, string([]byte{byte(b)}))
	}
	places(all, 2, func(l []byte) { checkText(t, string(l)) })
	edges := []byte("\x00A\x7f\x80\x8f\x90\x9f\xa0\xbd\xbf\xc0\xc1\xc2\xdf\xe0\xe1\xec\xed\xee\xef\xf0\xf1\xf3\xf4\xf5\xf7\xf8\xff")
	places(edges, 3, func(l []byte) { checkText(t, string(l)) })
	leads := []byte("\x80\x8f\x90\xbf\xe0\xed\xf0\xf1\xf3\xf4\xf5")
	places(leads, 4, func(l []byte) { checkText(t, string(l)) })
	places(leads[:8], 5, func(l []byte) { checkText(t, string(l)) })
}

func TestChapterExamples(t *testing.T) {
	if r, n := Read("a\xc3\xa9", 1); r != 0xE9 || n != 2 {
		t.Errorf("P1.1: Read: %x, %d", r, n)
	}
	if Form(0x20AC) != "\xe2\x82\xac" {
		t.Errorf("P1.1: Form: %q", Form(0x20AC))
	}
	for s, want := range map[string]int{"a\xff": 1, "\xc0\x80": 0, "\xed\xa0\x80": 0, "": -1, "\xc3\xa9\xe2\x82\xac": -1} {
		if got := Bad(s); got != want {
			t.Errorf("P1.2: Bad(%q) = %d, want %d", s, got, want)
		}
	}
	if l, ok := All("\xc3\xa9\xe2\x82\xac"); !ok || !slices.Equal(l, []rune{0xE9, 0x20AC}) {
		t.Errorf("P1.2: All: %x, %v", l, ok)
	}
}

func TestLongTexts(t *testing.T) {
	unit := "a\xc3\xa9\xe2\x82\xac\xf4\x8f\xbf\xbf\xef\xbf\xbd\x00"
	for _, times := range []int{1, 20, 300, 6000} {
		s := strings.Repeat(unit, times)
		l, ok := All(s)
		if !ok || len(l) != 6*times || Bad(s) != -1 {
			t.Fatalf("P1.2: %d times: %d characters, %v, Bad %d", times, len(l), ok, Bad(s))
		}
		if back, ok := Join(l); !ok || back != s {
			t.Fatalf("P1.3: Join of All of a text of %d bytes", len(s))
		}
		for _, end := range []string{"\xff", "\xe2\x82", "\xed\xa0\x80", "\xef\xbf"} {
			if got := Bad(s + end + unit); got != len(s) {
				t.Errorf("P1.2: Bad tells %d, want %d", got, len(s))
			}
			if l, ok := All(s + end); ok || len(l) != 0 {
				t.Errorf("P1.2: All of a bad text: %d characters, %v", len(l), ok)
			}
		}
	}
}

func TestJoin(t *testing.T) {
	if s, ok := Join(nil); s != "" || !ok {
		t.Errorf("P1.2: Join of none: %q, %v", s, ok)
	}
	if s, ok := Join([]rune{}); s != "" || !ok {
		t.Errorf("P1.2, R6: Join of an empty list: %q, %v", s, ok)
	}
	if l, ok := All(""); len(l) != 0 || !ok {
		t.Errorf("P1.2: All of the empty text: %x, %v", l, ok)
	}
	for _, none := range []rune{math.MinInt32, -1, 0xD800, 0xDBFF, 0xDC00, 0xDFFF, 0x110000, math.MaxInt32} {
		for _, l := range [][]rune{{none}, {none, 'a'}, {'a', none}, {'a', none, 'b'}, {none, none}} {
			if s, ok := Join(l); s != "" || ok {
				t.Errorf("P1.2: Join(%x) = %q, %v", l, s, ok)
			}
		}
	}
	for _, r := range numbers() {
		want := string(tableForm(r))
		s, ok := Join([]rune{r})
		if s != want || ok != (want != "") {
			t.Fatalf("P1.2: Join of %x: %q, %v", r, s, ok)
		}
	}
}

func TestWhatFollows(t *testing.T) {
	edges := []rune{0, 1, 'A', 0x7F, 0x80, 0x7FF, 0x800, 0xD7FF, 0xE000, 0xFFFD, 0xFFFF, 0x10000, 0x10FFFF}
	places(edges, 3, func(l []rune) {
		s, ok := Join(l)
		if !ok {
			t.Fatalf("P1.2: Join(%x) is refused", l)
		}
		back, ok := All(s)
		if !ok || !slices.Equal(back, l) {
			t.Fatalf("P1.3: All of Join(%x) = %x, %v", l, back, ok)
		}
		twice, ok := All(s + Form(l[0]))
		if !ok || !slices.Equal(twice, append(slices.Clone(l), l[0])) {
			t.Fatalf("P1.3: All of a text and another one: %x, %v", twice, ok)
		}
	})
}

// What is handed in stays as it is, with the room behind its end; what is
// handed out is new memory each time.
func TestMemory(t *testing.T) {
	room := []rune{'a', 0xE9, 0xD800, 'x', 'y'}
	if s, ok := Join(room[:2]); s != "a\xc3\xa9" || !ok {
		t.Errorf("R3: Join read beyond the list: %q, %v", s, ok)
	}
	Join(room[:3])
	if !slices.Equal(room, []rune{'a', 0xE9, 0xD800, 'x', 'y'}) {
		t.Errorf("R3: Join changed the list: %x", room)
	}
	first, _ := All("ab")
	second, _ := All("ab")
	first[0] = 'z'
	_ = append(first, 'q')
	if third, _ := All("ab"); !slices.Equal(second, []rune("ab")) || !slices.Equal(third, []rune("ab")) {
		t.Errorf("R3: answers of All share memory: %x, %x", second, third)
	}
}
