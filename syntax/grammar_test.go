package syntax_test

import (
	"math/rand"
	"slices"
	"strings"

	"portolan/api"
)

// documented is the grammar as the document has it. It is read, and texts are held against it, by means that have nothing in common with the reader of the layer: so the first word that may not stand in a text is found once more.
const documented = `
query   = MATCH pattern { "," pattern } [ WHERE expr ] RETURN [ DISTINCT ] item { "," item }
          [ ORDER BY key { "," key } ] [ LIMIT int ]
pattern = node { edge node }
node    = "(" [ name ] [ ":" name ] ")"
edge    = "-" body "-" ">"  |  "<" "-" body "-"
body    = "[" [ name ] [ ":" name ] [ "*" int ".." int  |  "*" SHORTEST int ] "]"
item    = expr [ AS name ]
key     = name [ ASC | DESC ]
expr    = both { OR both }
both    = deny { AND deny }
deny    = NOT deny  |  test
test    = sum [ ( "=" | "<>" | "<" | "<=" | ">" | ">=" ) sum  |  IS [ NOT ] NULL ]
sum     = prod { ( "+" | "-" ) prod }
prod    = minus { ( "*" | "/" | "%" ) minus }
minus   = "-" minus  |  plain
plain   = int | text | TRUE | FALSE | NULL | name [ "." name ] | "(" expr ")"
        | LENGTH "(" expr ")" | COUNT "(" "*" ")" | ( COUNT | SUM | MIN | MAX ) "(" expr ")"
`

// bounded are its places of numbers, as words of their own, which have bounds.
var bounded = strings.NewReplacer(`"*" int ".." int`, `"*" least ".." most`, `SHORTEST int`, `SHORTEST few`, `LIMIT int`, `LIMIT limit`)

// production: what the name on the left may be.
type production struct {
	left  string
	right []string
}

// grammar are productions of names and words; what stood in brackets has names of its own.
type grammar struct {
	all    []production
	byName map[string][]int
	null   map[string]bool // names that nothing may be
	fewest map[string]int  // how many words a name needs
	parts  []string        // of the document, that are not read yet
	more   int
}

func newGrammar() *grammar {
	g := &grammar{byName: make(map[string][]int), null: make(map[string]bool), fewest: make(map[string]int)}
	g.parts = strings.Fields(bounded.Replace(documented))
	for len(g.parts) > 0 {
		left := g.parts[0]
		g.parts = g.parts[2:]
		g.choices(left)
	}
	const unknown = 1000
	for part := range g.byName {
		g.fewest[part] = unknown
	}
	for range g.all {
		for i, p := range g.all {
			g.fewest[p.left] = min(g.fewest[p.left], g.needed(i))
			g.null[p.left] = g.fewest[p.left] == 0
		}
	}
	return g
}

func (g *grammar) add(left string, right ...string) {
	g.byName[left] = append(g.byName[left], len(g.all))
	g.all = append(g.all, production{left, right})
}

// choices reads what stands up to a closing bracket, to the next rule, or to the end, with `|` between.
func (g *grammar) choices(left string) {
	var right []string
	for len(g.parts) > 0 && (len(g.parts) == 1 || g.parts[1] != "=") {
		part := g.parts[0]
		g.parts = g.parts[1:]
		switch part {
		case "|":
			g.add(left, right...)
			right = nil
		case "]", "}", ")":
			g.add(left, right...)
			return
		case "[", "{", "(":
			g.more++
			inner := left + strings.Repeat("'", g.more)
			g.choices(inner)
			if part == "{" {
				g.add(inner + "s")
				g.add(inner+"s", inner+"s", inner)
				inner += "s"
			}
			if part == "[" {
				g.add(inner)
			}
			right = append(right, inner)
		default:
			right = append(right, part)
		}
	}
	g.add(left, right...)
}

// fits tells whether a word of the grammar is the last one of these.
func fits(part string, words [3]api.Token) bool {
	w := words[2]
	between := func(least, most int64) bool { return w.Kind == api.TokInt && least <= w.Int && w.Int <= most }
	switch part {
	case "name":
		return w.Kind == api.TokName
	case "text":
		return w.Kind == api.TokText
	case "int":
		return w.Kind == api.TokInt
	case "least":
		return between(0, maxTrail)
	case "most":
		return between(words[0].Int, maxTrail)
	case "few":
		return between(1, maxTrail)
	case "limit":
		return between(0, maxLimit)
	}
	if part[0] == '"' {
		return w.Kind == api.TokSign && `"`+w.Text+`"` == part
	}
	return w.Kind == api.TokKey && w.Text == part
}

// state: a production, how much of it there is, and behind which word it begins.
type state struct {
	which, dot int
	from       *states
}

// states are those behind a word of a text's beginning (a set of Earley's).
type states struct{ all []state }

// chart is what is known behind the last word of a beginning; nothing in it changes any more.
type chart struct {
	g           *grammar
	start       string
	words       [3]api.Token // the last ones
	first, here *states
}

func (g *grammar) chart(start string) chart {
	first := &states{}
	for _, p := range g.byName[start] {
		first.all = append(first.all, state{p, 0, first})
	}
	g.close(first)
	return chart{g: g, start: start, first: first, here: first}
}

// close adds all states that go with those that are there.
func (g *grammar) close(here *states) {
	known := make(map[state]struct{})
	for _, s := range here.all {
		known[s] = struct{}{}
	}
	add := func(s state) {
		if _, there := known[s]; !there {
			known[s] = struct{}{}
			here.all = append(here.all, s)
		}
	}
	for i := 0; i < len(here.all); i++ {
		s := here.all[i]
		p := g.all[s.which]
		if s.dot == len(p.right) {
			for _, above := range s.from.all {
				if r := g.all[above.which].right; above.dot < len(r) && r[above.dot] == p.left {
					add(state{above.which, above.dot + 1, above.from})
				}
			}
			continue
		}
		for _, below := range g.byName[p.right[s.dot]] {
			add(state{below, 0, here})
		}
		if g.null[p.right[s.dot]] {
			add(state{s.which, s.dot + 1, s.from})
		}
	}
}

// with is the chart of a word more; false: with it there is no beginning any more.
func (c chart) with(w api.Token) (chart, bool) {
	next := c
	next.words = [3]api.Token{c.words[1], c.words[2], w}
	next.here = &states{}
	for _, s := range c.here.all {
		r := c.g.all[s.which].right
		if s.dot < len(r) && c.g.byName[r[s.dot]] == nil && fits(r[s.dot], next.words) {
			next.here.all = append(next.here.all, state{s.which, s.dot + 1, s.from})
		}
	}
	if len(next.here.all) == 0 {
		return c, false
	}
	c.g.close(next.here)
	return next, true
}

// whole tells whether the words are all that there must be.
func (c chart) whole() bool {
	return slices.ContainsFunc(c.here.all, func(s state) bool {
		p := c.g.all[s.which]
		return p.left == c.start && s.from == c.first && s.dot == len(p.right)
	})
}

// drawn are words of what is asked for, drawn by the grammar; how many choices may still be drawn is counted down, so that it ends.
func (g *grammar) drawn(r *rand.Rand, part string, room *int, words []string) []string {
	choices := g.byName[part]
	if choices == nil {
		return append(words, drawnWord(r, part, words))
	}
	which := choices[r.Intn(len(choices))]
	if *room--; *room < 0 {
		which = g.shortest(part)
	}
	for _, p := range g.all[which].right {
		words = g.drawn(r, p, room, words)
	}
	return words
}

// shortest is the choice that needs the fewest words.
func (g *grammar) shortest(part string) int {
	return slices.MinFunc(g.byName[part], func(a, b int) int { return g.needed(a) - g.needed(b) })
}

// needed is how many words a choice needs, as far as that is known of the names in it.
func (g *grammar) needed(which int) int {
	sum := 0
	for _, p := range g.all[which].right {
		if g.byName[p] == nil {
			sum++
		} else {
			sum += g.fewest[p]
		}
	}
	return sum
}

// drawnWord is a word that may stand there.
func drawnWord(r *rand.Rand, part string, words []string) string {
	of := func(l ...string) string { return l[r.Intn(len(l))] }
	switch part {
	case "name":
		return of("a", "b", "été", "x", "n", "A", "counts", "_1")
	case "text":
		return of("''", "'a'", `'it\'s'`, "'MATCH'", "'('", "'*'", `'\\\n'`)
	case "int":
		return of("0", "1", "7", "42", "9223372036854775807", "007", "1099511627777")
	case "least":
		return of("0", "1", "2", "3")
	case "most":
		return of("3", "4", "8", "08")
	case "few":
		return of("1", "2", "8", "01")
	case "limit":
		return of("0", "1", "8", "9", "1099511627776")
	}
	key := strings.Trim(part, `"`)
	return of(key, strings.ToLower(key), key[:1]+strings.ToLower(key[1:]))
}
