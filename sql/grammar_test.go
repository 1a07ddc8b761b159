package sql

import (
	"math/rand/v2"
	"slices"
	"strings"
	"testing"

	"querylab/api"
	"querylab/schema"
)

// grammar is the chapter's table, without left recursion. It knows nothing of trees.
const grammar = `
STATEMENT : CORE OTHERS
OTHERS : | SET CORE OTHERS | SET all CORE OTHERS
SET : union | except | intersect
CORE : select DISTINCT ITEMS from SOURCE JOINS WHERE GROUP HAVING | ( STATEMENT )
DISTINCT : | distinct
ITEMS : ITEM MORE | *
MORE : | , ITEM MORE
ITEM : TERM ALIAS
ALIAS : | as NAME
SOURCE : NAME ALIAS | ( STATEMENT ) as NAME
JOINS : | JOIN JOINS
JOIN : join SOURCE on TERM | cross join SOURCE | KIND join SOURCE on TERM
KIND : inner | left | right | full | semi | anti
WHERE : | where TERM
GROUP : | group by TERMS
HAVING : | having TERM
TERMS : TERM FURTHER
FURTHER : | , TERM FURTHER
TERM : AND ORS
ORS : | or AND ORS
AND : NOT ANDS
ANDS : | and NOT ANDS
NOT : COMPARISON | not NOT
COMPARISON : SUM TEST
TEST : | COMPARE SUM | is null | is not null | is true | in ( TERMS )
COMPARE : = | <> | < | <= | > | >= | same
SUM : PRODUCT ADDS
ADDS : | ADD PRODUCT ADDS
ADD : + | - | ||
PRODUCT : UNARY MULS
MULS : | MUL UNARY MULS
MUL : * | / | mod
UNARY : PRIMARY | - UNARY
PRIMARY : NAME | NUMBER | STRING | true | false | null int | null bool | null text | NAME . NAME | ( TERM ) | CALL
CALL : count ( * ) | length ( TERM ) | coalesce ( TERM , TERM ) | case when TERM then TERM else TERM end | count ( TERM ) | count ( distinct TERM ) | sum ( TERM ) | min ( TERM ) | max ( TERM )
`

// rules has the forms of each part, the shortest one first.
var rules = readRules()

func readRules() map[string][]string {
	rules := map[string][]string{}
	for _, line := range strings.Split(strings.TrimSpace(grammar), "\n") {
		part, forms, _ := strings.Cut(line, " :")
		for _, form := range strings.Split(forms+" ", " | ") {
			rules[part] = append(rules[part], strings.Join(strings.Fields(form), " "))
		}
	}
	return rules
}

// expand adds what may stand in the place of parts that are still to come, with a token first.
func expand(todo string, states map[string]bool) {
	first, rest, _ := strings.Cut(todo, " ")
	forms, ok := rules[first]
	if !ok {
		states[todo] = true
		return
	}
	for _, form := range forms {
		expand(strings.TrimSpace(form+" "+rest), states)
	}
}

func fits(token, place string) bool {
	switch place {
	case "NAME":
		return schema.Name(token)
	case "NUMBER":
		return strings.Trim(token, "0123456789") == "" && (token == "0" || token[0] != '0') && (len(token) <= 12 || token == "1000000000000")
	case "STRING":
		return len(token) > 1 && len(token) <= 26 && token[0] == '\'' && token[len(token)-1] == '\''
	}
	return token == place
}

// viable returns how many of these tokens begin a text of the form, and whether all of them are one.
func viable(form string, tokens []string) (int, bool) {
	states := map[string]bool{}
	expand(form, states)
	for i, token := range tokens {
		next := map[string]bool{}
		for todo := range states {
			if place, rest, _ := strings.Cut(todo, " "); place != "" && fits(token, place) {
				expand(rest, next)
			}
		}
		if len(next) == 0 {
			return i, false
		}
		states = next
	}
	return len(tokens), states[""]
}

// derive returns the tokens of a random text of a form.
func derive(r *rand.Rand, form string, depth int) []string {
	var tokens []string
	for _, part := range strings.Fields(form) {
		forms, ok := rules[part]
		if !ok {
			tokens = append(tokens, sample(r, part))
			continue
		}
		n := r.IntN(len(forms))
		if depth <= 0 || r.IntN(3) > 0 {
			n = 0
		}
		tokens = append(tokens, derive(r, forms[n], depth-1)...)
	}
	return tokens
}

func sample(r *rand.Rand, place string) string {
	pick := func(l ...string) string { return l[r.IntN(len(l))] }
	switch place {
	case "NAME":
		return pick("a", "b", "t", "u_1", "abcdefghijklmnop", "selects")
	case "NUMBER":
		return pick("0", "1", "70", "1000000000000")
	case "STRING":
		return pick("''", "'a'", "'or '", "'*'", "'abcdefghijklmnopqrstuvwx'")
	}
	return place
}

// odd returns a token that may stand anywhere, or what is none.
func odd(r *rand.Rand) string {
	l := strings.Fields("select from where group by having as on union except all distinct join left cross ( ) , . ; * - + || = < same is null not true in int text and or case when then else end count sum length coalesce 5 0 'a' a b values table check 007 1000000000001 abcdefghijklmnopq ! | A 'abcdefghijklmnopqrstuvwxy' \x80 _a")
	return l[r.IntN(len(l))]
}

func disturb(r *rand.Rand, tokens []string) []string {
	l := slices.Clone(tokens)
	for range r.IntN(3) {
		i := r.IntN(len(l))
		switch r.IntN(4) {
		case 0:
			l[i] = odd(r)
		case 1:
			l = slices.Insert(l, i, odd(r))
		case 2:
			k := r.IntN(len(l))
			l[i], l[k] = l[k], l[i]
		default:
			if len(l) > 1 {
				l = slices.Delete(l, i, i+1)
			}
		}
	}
	return l
}

// spaced returns the text of tokens, and where each of them begins; the last place is the end.
func spaced(r *rand.Rand, tokens []string) (string, []int) {
	text, places := "", []int{}
	for _, t := range tokens {
		text += strings.Repeat(" \n", r.IntN(2)) + strings.Repeat("\n", r.IntN(2)) + " "
		places = append(places, len(text))
		text += t
	}
	text += strings.Repeat(" ", r.IntN(3))
	return text, append(places, len(text))
}

func checkPosition(t *testing.T, form, text string, tokens []string, places []int, at int, err api.Errno) {
	n, whole := viable(form, tokens)
	switch {
	case len(text) > api.MaxSource:
		if err != api.ErrLimit || at != 0 {
			t.Errorf("%s of %d bytes: %d at %d", form, len(text), err, at)
		}
	case !whole:
		if err != api.ErrSyntax || at != places[n] {
			t.Errorf("%q: %d at %d, not %d", text, err, at, places[n])
		}
	case err != api.OK && err != api.ErrDepth || at != 0:
		t.Errorf("%q: %d at %d", text, err, at)
	}
}

func TestPositionsAreThoseOfTheGrammar(t *testing.T) {
	r := rand.New(rand.NewPCG(5, 1))
	good, bad := 0, 0
	for n := range 6000 {
		tokens := disturb(r, derive(r, "STATEMENT", 5+n%25))
		text, places := spaced(r, tokens)
		s, at, err := Parse(text)
		checkPosition(t, "STATEMENT", text, tokens, places, at, err)
		if err != api.OK {
			bad++
			if !Same(s, api.Statement{}) {
				t.Errorf("%q: %v with an error", text, s)
			}
			continue
		}
		good++
		if again, _, err := Parse(Text(s)); !Valid(s) || err != api.OK || !Same(again, s) {
			t.Errorf("%q: Text is %q", text, Text(s))
		}
	}
	if good < 1000 || bad < 1000 {
		t.Errorf("%d texts are good, and %d bad", good, bad)
	}
}

func TestPositionsOfTermsAreThoseOfTheGrammar(t *testing.T) {
	r := rand.New(rand.NewPCG(5, 2))
	good, bad := 0, 0
	for n := range 6000 {
		tokens := disturb(r, derive(r, "TERM", 9+n%25))
		text, places := spaced(r, tokens)
		tree, at, err := ParseTerm(text)
		checkPosition(t, "TERM", text, tokens, places, at, err)
		if err != api.OK {
			bad++
			if !SameTerm(tree, api.Term{}) {
				t.Errorf("%q: %v with an error", text, tree)
			}
			continue
		}
		good++
		if again, _, err := ParseTerm(TermText(tree)); !ValidTerm(tree) || err != api.OK || !SameTerm(again, tree) {
			t.Errorf("%q: TermText is %q", text, TermText(tree))
		}
	}
	if good < 1000 || bad < 1000 {
		t.Errorf("%d texts are good, and %d bad", good, bad)
	}
}

func TestEachTokenBehindEachBeginning(t *testing.T) {
	whole := strings.Fields("select distinct t . a + - 2 as b , count ( distinct a ) from ( select * from t as q ) as u left join v on a is not null and b in ( 1 , 2 ) cross join w where not a < case when true then - 1 else 2 end group by coalesce ( a , null int ) || 'x' having max ( a ) is true union all ( select * from t )")
	next := strings.Fields(strings.Join(whole, " ") + " ; . 0 'a' same mod except intersect right full semi anti inner or false bool text length sum min = <> <= > >= / end values A 00")
	slices.Sort(next)
	next = slices.Compact(next)
	for n := range len(whole) + 1 {
		for _, token := range next {
			tokens := slices.Concat(whole[:n], []string{token})
			text, places := "", []int{}
			for _, x := range tokens {
				places = append(places, len(text))
				text += x + " "
			}
			_, at, err := Parse(text)
			checkPosition(t, "STATEMENT", text, tokens, append(places, len(text)), at, err)
		}
	}
}
