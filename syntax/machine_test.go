package syntax_test

import (
	"slices"
	"strings"

	"emend/api"
)

// item is one thing of a rule that is read: a token with a text (its mark), what
// is read by a name (first: the sorts of tokens with which that begins, if it
// may lack), or [ { ( with its ways.
type item struct {
	text, mark          string
	word, maybe, inside bool
	first               []string
	ways                []way
}

// way is what is read in one way of a rule, and what tells that it is taken:
// the sorts of tokens with which it begins, or tokens, or a question.
type way struct {
	first, marks []string
	ask          string
	items        []item
}

// ruleOf is a rule: what it reads, and what node it makes.
type ruleOf struct {
	way
	arrow string
	kind  uint8
}

// rulesOf are the rules of a grammar.
func rulesOf(text string) map[string]ruleOf {
	rules := map[string]ruleOf{}
	for _, line := range strings.Split(strings.TrimSpace(text), "\n") {
		words := strings.Fields(line)
		if len(words) == 0 {
			continue
		}
		r := ruleOf{}
		name, words := words[0], words[2:]
		if n := len(words); n > 1 && strings.HasSuffix(words[n-2], ">") {
			r.arrow, r.kind = words[n-2], kindOf(words[n-1])
			words = words[:n-2]
		}
		r.way, _ = wayOf(words)
		rules[name] = r
	}
	for _, r := range rules {
		keepFirsts(rules, r.items)
	}
	return rules
}

// keepFirsts keeps of what is taken by its first token with which it begins.
func keepFirsts(rules map[string]ruleOf, items []item) {
	for i, it := range items {
		items[i].first, _ = firstOf(rules, items[i:i+1])
		for k, w := range it.ways {
			it.ways[k].first, _ = firstOf(rules, w.items)
			keepFirsts(rules, w.items)
		}
	}
}

// firstOf are the sorts of tokens with which items begin, and whether these
// may be none.
func firstOf(rules map[string]ruleOf, items []item) (l []string, empty bool) {
	for _, it := range items {
		may := it.maybe || it.text == "[" || it.text == "{"
		add := func(more []string, none bool) {
			l, may = append(l, more...), may || none
		}
		switch {
		case it.mark != "":
			add([]string{it.mark}, false)
		case it.ways == nil:
			add(firstOfRule(rules, it.text))
		}
		for _, w := range it.ways {
			add(firstOf(rules, w.items))
		}
		if !may {
			return l, false
		}
	}
	return l, true
}

// firstOfRule is firstOf of what is read by a name; of one that tells nothing
// of it (none, head+, Refused) there are none.
func firstOfRule(rules map[string]ruleOf, name string) ([]string, bool) {
	switch name {
	case "Name", "Lit", "String":
		return []string{name}, false
	case "Expr":
		name = "Unary"
	case "Primary":
		name = "Operand"
	}
	return firstOf(rules, rules[name].items)
}

// kindOf is a kind by its name.
func kindOf(name string) uint8 {
	return uint8(slices.Index(kinds, name))
}

// wayOf is the way that words begin with, up to what ends it, and how many of
// the words that takes.
func wayOf(words []string) (way, int) {
	w, i := way{}, 0
	for ; i < len(words); i++ {
		switch x := words[i]; {
		case slices.Contains([]string{"|", ")", "]", "}"}, x):
			return w, i
		case slices.Contains([]string{"(", "[", "{"}, x):
			it := item{text: x}
			for again := true; again; again = words[i] == "|" {
				inner, n := wayOf(words[i+1:])
				it.ways = append(it.ways, inner)
				i += n + 1
			}
			w.items = append(w.items, it)
		case strings.HasPrefix(x, "@'"):
			w.marks = strings.Split(strings.Trim(x[1:], "'"), "''")
		case strings.HasPrefix(x, "@"):
			w.ask = x[1:]
		default:
			it := item{text: strings.TrimSuffix(strings.TrimPrefix(x, "^"), "?")}
			it.inside, it.maybe = strings.HasPrefix(x, "^"), strings.HasSuffix(x, "?")
			if x[0] == '\'' {
				it.mark, it.word = strings.Trim(strings.TrimSuffix(x, "w"), "'"), x[len(x)-1] == 'w'
			}
			w.items = append(w.items, it)
		}
	}
	return w, i
}

// knot is a node with its kids.
type knot struct {
	kind           uint8
	word, from, to int
	kids           []*knot
}

// list are a knot and all within it as nodes.
func (k *knot) list() []api.Node {
	l := []api.Node{{Kind: k.kind, Kids: len(k.kids), Word: k.word, From: k.from, To: k.to}}
	for _, kid := range k.kids {
		l = append(l, kid.list()...)
	}
	return l
}

// machine reads a text's tokens by the rules.
type machine struct {
	rules    map[string]ruleOf
	text     string
	tokens   []api.Token
	partners []int
	at       int
	head     bool
}

// refused is what a machine panics with: a token that isn't wanted.
type refused int

// mark is the text of the token i; ; of a TSemi; the empty text of a name and
// a literal, and beyond the end.
func (m *machine) mark(i int) string {
	if i >= len(m.tokens) {
		return ""
	}
	switch t := m.tokens[i]; t.Kind {
	case api.TSemi:
		return ";"
	case api.TWord, api.TOp:
		return m.text[t.From:t.To]
	}
	return ""
}

// is tells whether the token i is of a sort: Name, Lit, String, end (there is
// none any more), or one with a text.
func (m *machine) is(i int, sorts ...string) bool {
	kind := uint8(0)
	if i < len(m.tokens) {
		kind = m.tokens[i].Kind
	}
	for _, x := range sorts {
		switch x {
		case "Name":
			if kind == api.TName {
				return true
			}
		case "String":
			if kind == api.TString {
				return true
			}
		case "Lit":
			if kind >= api.TInt && kind <= api.TString {
				return true
			}
		case "end":
			if kind == 0 {
				return true
			}
		default:
			if kind != 0 && m.mark(i) == x {
				return true
			}
		}
	}
	return false
}

// refuse tells that the token that is next isn't wanted.
func (m *machine) refuse() { panic(refused(m.at)) }

// try reads by a rule, and tells whether that goes well, what is read, and
// where the machine would stand; it stands where it stood.
func (m *machine) try(from int, head bool, rule string) (l []*knot, to int, ok bool) {
	at, was := m.at, m.head
	defer func() {
		m.at, m.head = at, was
		if x := recover(); x != nil {
			_ = x.(refused)
			l, to, ok = nil, 0, false
		}
	}()
	m.at, m.head = from, head
	l = m.read(rule, nil)
	return l, m.at, true
}

// frame is a node that is being made.
type frame struct {
	from, word int
	kids       []*knot
}

// read reads by a rule.
func (m *machine) read(name string, left *knot) []*knot {
	switch name {
	case "Expr":
		return []*knot{m.expr()}
	case "Primary":
		return []*knot{m.primary()}
	case "Only":
		return []*knot{m.only()}
	case "Guarded":
		return m.guarded(m.read("Simple", nil)[0])
	case "Name", "Lit", "String":
		if !m.is(m.at, name) {
			m.refuse()
		}
		kind := uint8(api.KLit)
		if name == "Name" {
			kind = api.KName
		}
		m.at++
		return []*knot{{kind: kind, word: m.at - 1, from: m.at - 1, to: m.at}}
	case "Refused":
		m.refuse()
	}
	r := m.rules[name]
	f := &frame{from: m.at, word: -1}
	if r.arrow == "+>" {
		f.from, f.kids = left.from, []*knot{left}
	}
	for _, it := range r.items {
		m.item(it, f)
	}
	if r.arrow == "" {
		return f.kids
	}
	k := &knot{kind: r.kind, word: f.word, from: f.from, to: m.at, kids: f.kids}
	if r.arrow == "=>" {
		k.to = k.from
		if n := len(f.kids); n > 0 {
			k.from, k.to = f.kids[0].from, f.kids[n-1].to
		}
	}
	return []*knot{k}
}

// item reads one thing of a rule.
func (m *machine) item(it item, f *frame) {
	switch {
	case it.text == "(":
		for i, w := range it.ways {
			if i+1 == len(it.ways) || m.taken(w) {
				m.all(w, f)
				return
			}
		}
	case it.text == "[":
		if m.taken(it.ways[0]) {
			m.all(it.ways[0], f)
		}
	case it.text == "{":
		for m.taken(it.ways[0]) {
			m.all(it.ways[0], f)
		}
	case it.text == "none" || it.maybe && !m.is(m.at, it.first...):
		f.kids = append(f.kids, &knot{kind: api.KNone, word: -1, from: m.at, to: m.at})
	case it.text == "head+" || it.text == "head-":
		m.head = it.text == "head+"
	case it.text == "end" || it.text == "after":
		behind := map[string][]string{"end": {")", "}"}, "after": {"}", "end"}}
		if m.is(m.at, ";") {
			m.at++
		} else if !m.is(m.at, behind[it.text]...) {
			m.refuse()
		}
	case it.mark != "":
		if !m.is(m.at, it.mark) {
			m.refuse()
		}
		if it.word {
			f.word = m.at
		}
		m.at++
	default:
		head := m.head
		m.head = m.head && !it.inside
		f.kids = append(f.kids, m.read(it.text, nil)...)
		m.head = head
	}
}

// all reads all of a way.
func (m *machine) all(w way, f *frame) {
	for _, it := range w.items {
		m.item(it, f)
	}
}

// taken tells whether a way is taken.
func (m *machine) taken(w way) bool {
	switch {
	case w.ask != "":
		return m.asked(w.ask)
	case w.marks == nil:
		return m.is(m.at, w.first...)
	}
	for i, x := range w.marks {
		if !m.is(m.at+i, x) {
			return false
		}
	}
	return true
}

// asked answers the questions of the rules.
func (m *machine) asked(question string) bool {
	at := m.at
	behind := func(from int, rule string, head bool, sorts ...string) bool {
		_, to, ok := m.try(from, head, rule)
		return ok && m.is(to, sorts...)
	}
	// inBrackets: a Name, brackets that hold something, and one of sorts.
	inBrackets := func(sorts ...string) bool {
		return m.is(at, "Name") && m.is(at+1, "[") && m.partners[at+1] > at+2 && m.is(m.partners[at+1]+1, sorts...)
	}
	switch question {
	case "specEnds":
		return m.is(at, ";", ")", "end")
	case "stmtEnds":
		return m.is(at, ";", "}", "end")
	case "stmtNext":
		return !m.is(at, "}", "case", "default", "end")
	case "type":
		return m.is(at, "Name", "[", "*", "struct", "map", "chan", "interface", "func", "<-")
	case "typed":
		return m.is(at, "[", "struct", "map", "chan", "interface") || m.is(at, "<-") && m.is(at+1, "chan")
	case "tparams":
		return m.is(at, "[") && m.is(at+1, "Name") && m.is(at+2, "Name", ",", "~", "interface", "func", "map", "chan", "struct")
	case "typeAlone":
		return !m.is(at, "Name") || m.is(at+1, ",", ")", ".") || inBrackets(",", ")")
	case "embedded":
		return m.is(at, "Name") && (m.is(at+1, ";", "}", ".", "String") || inBrackets(";", "}", "String"))
	case "more":
		return m.is(at, ",") && !m.is(at+1, ")", "]", "}")
	case "dotted":
		return m.is(at, "Name") && m.is(at+1, ".")
	case "indexed":
		return m.is(at, "Name") && (m.is(at+1, "[") || m.is(at+1, ".") && m.is(at+2, "Name") && m.is(at+3, "["))
	case "method":
		return m.is(at, "Name") && m.is(at+1, "(")
	case "label":
		return m.is(at, "Name") && m.is(at+1, ":")
	case "dots":
		return m.is(at, "...") && !m.is(at-1, "(")
	case "literal":
		return m.is(at, "func") && behind(at+1, "Signature", false, "{")
	case "slice":
		return m.is(at, "[") && (m.is(at+1, ":") || behind(at+1, "Expr", false, ":"))
	case "keyed":
		return behind(at, "Value", false, ":")
	case "first":
		return behind(at, "Simple", true, ";")
	}
	return m.askedOfExprs(question)
}

// askedOfExprs answers the questions that go by what expressions are next.
func (m *machine) askedOfExprs(question string) bool {
	from, head := m.at, m.head
	if question == "forRange" {
		from, head = m.at+1, true
	}
	l, to, ok := m.try(from, head, "Exprs")
	one := ok && len(l[0].kids) == 1
	switch question {
	case "badExprs":
		return !ok
	case "assign":
		return ok && m.is(to, "=", ":=", "+=", "-=", "*=", "/=", "%=", "&=", "|=", "^=", "<<=", ">>=", "&^=")
	case "several":
		return !one
	case "incDec":
		return one && m.is(to, "++", "--")
	case "send":
		return one && m.is(to, "<-")
	case "forRange":
		return m.is(m.at, "for") && ok && m.is(to, "=", ":=") && m.is(to+1, "range")
	case "typeSwitch":
		return m.is(m.at, "switch") && m.isTypeSwitch(m.at+1)
	}
	panic("no question " + question)
}

// isTypeSwitch tells whether the last Simple of a switch's head asks a type.
func (m *machine) isTypeSwitch(at int) bool {
	if m.is(at, ";") {
		at++
	} else if _, to, ok := m.try(at, true, "Simple"); ok && m.is(to, ";") {
		at = to + 1
	}
	l, _, ok := m.try(at, true, "Simple")
	return ok && m.guarded(l[0]) != nil
}

// guarded are the name, or none, and what a KGuard has, of a Simple that asks
// a type; of another one nothing.
func (m *machine) guarded(x *knot) []*knot {
	switch {
	case x.kind == api.KExprStmt && x.kids[0].kind == api.KGuard:
		return []*knot{{kind: api.KNone, word: -1, from: x.from, to: x.from}, x.kids[0].kids[0]}
	case x.kind == api.KAssign && m.mark(x.word) == ":=":
		l, r := x.kids[0].kids, x.kids[1].kids
		if len(l) == 1 && len(r) == 1 && l[0].kind == api.KName && r[0].kind == api.KGuard {
			return []*knot{l[0], r[0].kids[0]}
		}
	}
	return nil
}

// only reads a Simple that must be an expression.
func (m *machine) only() *knot {
	x := m.read("Simple", nil)[0]
	if x.kind != api.KExprStmt {
		m.refuse()
	}
	return x.kids[0]
}

// expr reads what stands between operators, and puts it together then: at the
// last one of the loosest.
func (m *machine) expr() *knot {
	l := []*knot{m.read("Unary", nil)[0]}
	var ops []int
	for slices.ContainsFunc(levels, func(ops []string) bool { return m.is(m.at, ops...) }) {
		ops = append(ops, m.at)
		m.at++
		l = append(l, m.read("Unary", nil)[0])
	}
	return m.together(l, ops)
}

// together puts what stands between operators together.
func (m *machine) together(l []*knot, ops []int) *knot {
	for _, level := range levels {
		for i := len(ops) - 1; i >= 0; i-- {
			if m.is(ops[i], level...) {
				a, b := m.together(l[:i+1], ops[:i]), m.together(l[i+1:], ops[i+1:])
				return &knot{kind: api.KBinary, word: ops[i], from: a.from, to: b.to, kids: []*knot{a, b}}
			}
		}
	}
	return l[0]
}

// primary reads an operand and its suffixes.
func (m *machine) primary() *knot {
	x := m.read("Operand", nil)[0]
	for m.is(m.at, ".", "(", "[") || m.is(m.at, "{") && m.hasElements(x) {
		head := m.head
		m.head = false
		x = m.suffix(x)
		m.head = head
	}
	return x
}

// suffix reads a suffix of x.
func (m *machine) suffix(x *knot) *knot {
	ways := m.rules["Suffix"].items[0].ways
	for i, w := range ways {
		if i+1 == len(ways) || m.taken(w) {
			return m.read(w.items[0].text, x)[0]
		}
	}
	return nil
}

// hasElements tells whether x may have elements.
func (m *machine) hasElements(x *knot) bool {
	switch kinds[x.kind] {
	case "Array", "Dots", "SliceOf", "MapOf", "Struct":
		return true
	}
	if x.kind == api.KIndex {
		x = x.kids[0]
	}
	return !m.head && (x.kind == api.KName || x.kind == api.KSelector && x.kids[0].kind == api.KName)
}
