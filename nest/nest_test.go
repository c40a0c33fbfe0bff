package nest_test

import (
	"slices"
	"strings"
	"testing"

	"emend/api"
	"emend/nest"
	"emend/semi"
)

// texts hands all texts of up to n letters of an alphabet to do.
func texts(alphabet []string, n int, do func(s string)) {
	var grow func(s string, left int)
	grow = func(s string, left int) {
		do(s)
		if left == 0 {
			return
		}
		for _, x := range alphabet {
			grow(s+x, left-1)
		}
	}
	grow("", n)
}

// answer is what Of and Depth tell of a text.
type answer struct {
	tokens   []api.Token
	partners []int
	depth    int
	fault    api.Fault
}

// told is what the chapter's words tell of a text: at each bracket, what is
// open is worked out anew from the partners so far.
func told(s string) answer {
	tokens, fault := semi.Of(s)
	if fault.Err != api.OK {
		return answer{fault: fault}
	}
	partners := make([]int, len(tokens))
	for i := range partners {
		partners[i] = -1
	}
	text := func(i int) string { return s[tokens[i].From:tokens[i].To] }
	bracket := func(i int, of string) bool {
		return tokens[i].From < tokens[i].To && strings.Contains(of, text(i))
	}
	depth := 0
	openAhead := func(i int) []int {
		var open []int
		for j := range i {
			if bracket(j, "([{") && partners[j] < 0 {
				open = append(open, j)
			}
		}
		return open
	}
	for i, x := range tokens {
		switch open := openAhead(i); {
		case bracket(i, "([{"):
			if len(open) == 100 {
				return answer{fault: api.Fault{Err: api.ErrDeep, At: x.From}}
			}
			depth = max(depth, len(open)+1)
		case bracket(i, ")]}"):
			if len(open) == 0 {
				return answer{fault: api.Fault{Err: api.ErrNest, At: x.From}}
			}
			last := open[len(open)-1]
			if !slices.Contains([]string{"()", "[]", "{}"}, text(last)+text(i)) {
				return answer{fault: api.Fault{Err: api.ErrNest, At: x.From}}
			}
			partners[i], partners[last] = last, i
		}
	}
	if open := openAhead(len(tokens)); len(open) > 0 {
		return answer{fault: api.Fault{Err: api.ErrNest, At: tokens[open[len(open)-1]].From}}
	}
	return answer{tokens, partners, depth, api.Fault{}}
}

// check holds Of and Depth against what is wanted of a text.
func check(t *testing.T, s string, want answer) {
	t.Helper()
	tokens, partners, fault := nest.Of(s)
	if fault != want.fault || !slices.Equal(tokens, want.tokens) || !slices.Equal(partners, want.partners) {
		t.Fatalf("P9.1: Of(%.200q) = %v %v %v, not %v", s, tokens, partners, fault, want)
	}
	depth, fault := nest.Depth(s)
	if fault != want.fault || depth != want.depth {
		t.Fatalf("P9.2: Depth(%.200q) = %d %v, not %d %v", s, depth, fault, want.depth, want.fault)
	}
}

func TestOfExamples(t *testing.T) {
	const no = -1
	for _, x := range []struct {
		s        string
		partners []int
		depth    int
	}{
		{"", nil, 0},
		{" // (\n", nil, 0},
		{"a", []int{no, no}, 0},
		{"a+b;", []int{no, no, no, no}, 0},
		{"f(a[1])", []int{no, 6, no, 5, no, 3, 1, no}, 2},
		{"()", []int{1, 0, no}, 1},
		{"[]", []int{1, 0, no}, 1},
		{"{}", []int{1, 0, no}, 1},
		{"([{}])", []int{5, 4, 3, 2, 1, 0, no}, 3},
		{"(){}[]", []int{1, 0, 3, 2, 5, 4, no}, 1},
		{"(()())", []int{5, 2, 1, 4, 3, 0, no}, 2},
		{"a(b){c[1]}", []int{no, 3, no, 1, 9, no, 8, no, 6, 4, no}, 2},
		{"(\na\n)", []int{3, no, no, 0, no}, 1},
		{"{\n}\n{\n}", []int{1, 0, no, 4, 3, no}, 1},
		{"'(' \"[\" `{` ')' // ]\n(/* } */)", []int{no, no, no, no, no, 6, 5, no}, 1},
	} {
		tokens, fault := semi.Of(x.s)
		check(t, x.s, answer{tokens, x.partners, x.depth, fault})
		check(t, x.s, told(x.s))
	}
}

func TestOfFaults(t *testing.T) {
	open := func(n int) string { return strings.Repeat("(", n) }
	shut := func(n int) string { return strings.Repeat(")", n) }
	for s, want := range map[string]api.Fault{
		"(]":                             {Err: api.ErrNest, At: 1},
		"(}":                             {Err: api.ErrNest, At: 1},
		"[)":                             {Err: api.ErrNest, At: 1},
		"[}":                             {Err: api.ErrNest, At: 1},
		"{)":                             {Err: api.ErrNest, At: 1},
		"{]":                             {Err: api.ErrNest, At: 1},
		"x)":                             {Err: api.ErrNest, At: 1},
		"]":                              {Err: api.ErrNest, At: 0},
		"}":                              {Err: api.ErrNest, At: 0},
		"{(":                             {Err: api.ErrNest, At: 1},
		"{(}":                            {Err: api.ErrNest, At: 2},
		"([)]":                           {Err: api.ErrNest, At: 2},
		"(a":                             {Err: api.ErrNest, At: 0},
		"( [] {} ":                       {Err: api.ErrNest, At: 0},
		"(a [b] {c":                      {Err: api.ErrNest, At: 7},
		"()) (":                          {Err: api.ErrNest, At: 2},
		"\u00e9 )":                       {Err: api.ErrNest, At: 3},
		"\n\n(":                          {Err: api.ErrNest, At: 2},
		") #":                            {Err: api.ErrToken, At: 2},
		"( '":                            {Err: api.ErrToken, At: 2},
		"(] /*":                          {Err: api.ErrToken, At: 3},
		") # \xff":                       {Err: api.ErrChar, At: 4},
		"(\x00)":                         {Err: api.ErrChar, At: 1},
		strings.Repeat(")", 65537):       {Err: api.ErrLong},
		open(65536):                      {Err: api.ErrDeep, At: 100},
		open(65537):                      {Err: api.ErrLong},
		open(101):                        {Err: api.ErrDeep, At: 100},
		open(101) + shut(101):            {Err: api.ErrDeep, At: 100},
		open(100):                        {Err: api.ErrNest, At: 99},
		open(99):                         {Err: api.ErrNest, At: 98},
		open(100) + "]":                  {Err: api.ErrNest, At: 100},
		open(100) + " a[":                {Err: api.ErrDeep, At: 102},
		open(100) + shut(101):            {Err: api.ErrNest, At: 200},
		open(100) + ") {{":               {Err: api.ErrDeep, At: 103},
		open(101) + " #":                 {Err: api.ErrToken, At: 102},
		"a) " + open(101):                {Err: api.ErrNest, At: 1},
		strings.Repeat("([{", 33) + "([": {Err: api.ErrDeep, At: 100},
		strings.Repeat("()", 200) + "{":  {Err: api.ErrNest, At: 400},
	} {
		check(t, s, answer{fault: want})
		if len(s) < 1000 {
			check(t, s, told(s))
		}
	}
}

func TestDeepTexts(t *testing.T) {
	for n := range 103 {
		for _, x := range [][2]string{{"(", ")"}, {"[", "]"}, {"{", "}"}, {"f(\na, ", ",\n)"}} {
			s := strings.Repeat(x[0], n) + strings.Repeat(x[1], n)
			check(t, s, told(s))
			check(t, s+s, told(s+s))
			if depth, fault := nest.Depth(s + ";" + s); n <= 100 && (depth != n || fault != (api.Fault{})) {
				t.Errorf("P9.2: Depth of %d deep: %d %v", n, depth, fault)
			}
		}
	}
	wide := strings.Repeat("()", 32768)
	if _, partners, fault := nest.Of(wide); len(partners) != 65537 || partners[65534] != 65535 || partners[65535] != 65534 || partners[65536] != -1 || fault != (api.Fault{}) {
		t.Errorf("P9.1: %d partners, %v", len(partners), fault)
	}
	if depth, fault := nest.Depth(wide); depth != 1 || fault != (api.Fault{}) {
		t.Errorf("P9.2: %d %v", depth, fault)
	}
}

func TestAllShortTexts(t *testing.T) {
	for _, x := range []struct {
		alphabet []string
		n        int
	}{
		{strings.Split("()[]{}", ""), 6},
		{strings.Split("()[]a\n", ""), 6},
		{strings.Split("(){};+ ", ""), 5},
		{[]string{"(", "]", "'('", `"["`, "`{`", "// )\n", "/* ( */", ")", "#"}, 4},
	} {
		texts(x.alphabet, x.n, func(s string) {
			check(t, s, told(s))
			checkFollows(t, s)
		})
	}
	open, shut := strings.Repeat("(", 98), strings.Repeat(")", 98)
	texts(strings.Split("()[]{", ""), 4, func(s string) {
		check(t, open+s+shut, told(open+s+shut))
	})
}

// checkFollows asks what the chapter says to follow for a text that is read.
func checkFollows(t *testing.T, s string) {
	t.Helper()
	tokens, partners, fault := nest.Of(s)
	if fault != (api.Fault{}) {
		return
	}
	if len(partners) != len(tokens) {
		t.Fatalf("P9.1: %q: %d tokens, %d partners", s, len(tokens), len(partners))
	}
	for i, p := range partners {
		bracket := tokens[i].From < tokens[i].To && strings.Contains("()[]{}", s[tokens[i].From:tokens[i].To])
		if bracket != (p >= 0) || p >= 0 && partners[p] != i {
			t.Fatalf("P9.3: %q: %v", s, partners)
		}
		for j := i + 1; j < p; j++ {
			if partners[j] >= 0 && (partners[j] <= i || partners[j] >= p) {
				t.Fatalf("P9.3: %q: %v", s, partners)
			}
		}
	}
	within := "(" + s + "\n)"
	_, others, fault := nest.Of(within)
	if fault != (api.Fault{}) || len(others) != len(partners)+3 || others[0] != len(partners)+1 || others[len(partners)+1] != 0 {
		t.Fatalf("P9.3: %q: %v %v", within, others, fault)
	}
	for i, p := range partners {
		if p >= 0 && others[i+1] != p+1 || p < 0 && others[i+1] >= 0 {
			t.Fatalf("P9.3: %q: %v; %q: %v", s, partners, within, others)
		}
	}
	depth, _ := nest.Depth(s)
	if more, fault := nest.Depth(within); more != depth+1 || fault != (api.Fault{}) {
		t.Fatalf("P9.3: Depth(%q) = %d, Depth(%q) = %d %v", s, depth, within, more, fault)
	}
}

func TestWhatFollows(t *testing.T) {
	checkFollows(t, "package p\n\nfunc f(x []int) (r map[string]struct{ a int }) {\n\tfor i := range x[1:] {\n\t\tg(h(i), [2]int{1, 2}) // )\n\t}\n\treturn\n}")
	checkFollows(t, strings.Repeat("f(a[", 49)+"// b")
	checkFollows(t, strings.Repeat("f(a[", 49)+"1"+strings.Repeat("])", 49)+" // (")
}

func TestAnswersShareNothing(t *testing.T) {
	const s = "f(a[1])\ng{}"
	tokens, partners, _ := nest.Of(s)
	wantTokens, wantPartners := slices.Clone(tokens), slices.Clone(partners)
	secondTokens, secondPartners, _ := nest.Of(s)
	for i := range tokens {
		tokens[i], partners[i] = api.Token{Kind: 99, From: -1, To: -1}, -9
	}
	if !slices.Equal(secondTokens, wantTokens) || !slices.Equal(secondPartners, wantPartners) {
		t.Errorf("R3: %v %v", secondTokens, secondPartners)
	}
	check(t, s, answer{wantTokens, wantPartners, 2, api.Fault{}})
	check(t, "(", answer{fault: api.Fault{Err: api.ErrNest}})
	check(t, s, answer{wantTokens, wantPartners, 2, api.Fault{}}) // R2: nothing is kept of what was open
}
