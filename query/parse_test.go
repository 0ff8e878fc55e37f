package query

import (
	"strings"
	"testing"

	"espalier/api"
)

func TestParseWhole(t *testing.T) {
	reads(t, wholeText, whole())
	reads(t, "match(a:P)-[e:K]->(b)<-[*]-(:match)-[:in*]->()where(a.age<1)return distinct type(e)as n,count(id(b))as a", whole())
	reads(t, "\n\tmatch ( a : P ) - [ e : K ] -> ( b ) <- [ * ] - ( : match ) - [ : in * ] -> ( )\twhere\na . age < 1 return\n\ndistinct type ( e ) as n , count ( id ( b ) ) as a \t\n", whole())
	reads(t, "match ()return'a'as n", api.Query{Dots: []api.Dot{{}}, Items: []api.Item{{Name: "n", T: constant(str("a"))}}})
}

// Signs bind as the grammar has it, and stand together from the left.
func TestParseBinds(t *testing.T) {
	for loose, tight := range map[string]string{
		"1 or 2 or 3":                 "((1 or 2) or 3)",
		"1 and 2 and 3":               "((1 and 2) and 3)",
		"1 or 2 and 3":                "(1 or (2 and 3))",
		"1 and 2 or 3":                "((1 and 2) or 3)",
		"not 1 and 2":                 "((not 1) and 2)",
		"not 1 = 2":                   "(not (1 = 2))",
		"not not 1 is null":           "(not (not (1 is null)))",
		"1 and not 2 or 3":            "((1 and (not 2)) or 3)",
		"1 + 2 - 3 + 4":               "(((1 + 2) - 3) + 4)",
		"1 - 2 * 3 * 4 - 5":           "((1 - ((2 * 3) * 4)) - 5)",
		"1 + 2 = 3 * 4":               "((1 + 2) = (3 * 4))",
		"1 + 2 is null":               "((1 + 2) is null)",
		"1 in [2] + [3]":              "(1 in ([2] + [3]))",
		"(1)":                         "1",
		"((a)).x":                     "",
		"(1 or 2) and (3)":            "((1 or 2) and 3)",
		"1 - (2 - 3)":                 "(1 - (2 - 3))",
		"1<=2":                        "(1 <= 2)",
		"1< -2":                       "(1 < -2)",
		"1--2":                        "(1 - -2)",
		"- 5-3- 2":                    "((-5 - 3) - 2)",
		"2*-3":                        "(2 * -3)",
		"-\n9223372036854775808":      "-9223372036854775808",
		"null is null and null":       "((null is null) and null)",
		"[1 or 2,[ ],size ( 'a')]":    "[(1 or 2), [], size('a')]",
		"coalesce( ) = coalesce(1,a)": "(coalesce() = coalesce(1, a))",
		"a.in in a.is":                "(a.in in a.is)",
		"a.x+a . y":                   "(a.x + a.y)",
		"(a.x = 1) = (not true)":      "((a.x = 1) = (not true))",
	} {
		q, at, e := Parse(item(loose))
		if tight == "" {
			if e != api.ErrText {
				t.Errorf("%q is read", loose)
			}
			continue
		}
		if e != api.OK || at != 0 {
			t.Errorf("%q: %d, %d", loose, at, e)
			continue
		}
		prints(t, q, item(tight))
	}
}

// misfits are texts, with a | ahead of what is told.
func misfits(t *testing.T, l ...string) {
	t.Helper()
	for _, s := range l {
		ahead, behind, found := strings.Cut(s, "|")
		if !found {
			t.Fatalf("%q has no mark", s)
		}
		fails(t, ahead+behind, len(ahead), api.ErrText)
	}
}

func TestParseMissesWords(t *testing.T) {
	misfits(t, "|", " \n|", "match|", "match |", "match (|", "match (a|", "match (a:|", "match (a:P|", "match (a)|", "match (a)-|",
		"match (a)-[|", "match (a)-[e|", "match (a)-[e:|", "match (a)-[:K*|", "match (a)-[]|", "match (a)<-[]|", "match (a)-[]->|", "match (a)<-[]-|",
		"match (a) where|", "match (a) where a|", "match (a) where not|", "match (a) return|", "match (a) return distinct|",
		"match (a) return a|", "match (a) return a |", "match (a) return a.|", "match (a) return a as|", "match (a) return a as n,|",
		"match (a) return count|", "match (a) return count(|", "match (a) return count(a|", "match (a) return count(a)|", "match (a) return (a|",
		"match (a) return [|", "match (a) return [a,|", "match (a) return size|", "match (a) return size(|", "match (a) return size(a|",
		"match (a) return a is|", "match (a) return a +|", "match (a) return a or|", "match (a) return -|")
}

func TestParseMisfits(t *testing.T) {
	misfits(t, "|MATCH (a) return a as n", "|matches", "|(a)", "match |a", "match |match", "match (|1)", "match (|match)", "match (|'a')",
		"match (|abcdefghijklm) return 1 as n", "match (a |b)", "match (a:|1)", "match (a:|)", "match (a:|abcdefghijklm)", "match (:P|:Q)", "match (a|*)", "match (|[])",
		"match (a) |-> (b)", "match (a)-|- (b)", "match (a)-[|-]->(b)", "match (a)-[*|e]->(b)", "match (a)-[:|*]->(b)", "match (a)-[*|*]->(b)", "match (a)-[e |f]->()",
		"match (a)-[]|-(b)", "match (a)<-[]|->(b)", "match (a)-[] |- > (b)", "match (a)|<[]-(b)", "match (a)-[]->|return", "match (a)|(b)", "match (a)|,(b)",
		"match (a) |in", "match (a) return a as n |where a", "match (a) where a |where a", "match (a) where |return a as n", "match (a) return distinct |distinct a as n", "match (a) return distinct |as n", "match (a) return a. as |n",
		"match (a) return a |n", "match (a) return a as |1", "match (a) return a as |null", "match (a) return a as n|.x", "match (a) return a as n |return", "match (a) return a as n |#", "match (a) return a as n|é", "match (a) return a as n |'b", "match (a) return a as n |'b'", "match (a) return a as n |)",
		"match (a) return a as n, |as m", "match (a) return |, a as n", "match (a) return count |a as n", "match (a) return count(|) as n", "match (a) return count(a|,a) as n",
		"match (a) return count(|count(a)) as n")
}

func TestParseMisfitTerms(t *testing.T) {
	for _, s := range []string{
		"a = 1 |= 1", "1 < 2 |< 3", "1 is |not null", "1 is null |is null", "1 |not null", "a = |not a", "1 + |not 1", "not |and", "|or 1", "1 or |or 1", "1 * |* 1",
		"a - |> 1", "a |-> 1", "a |<-5", "a < |= 1", "a = |= 1", "a |> 1", "a |/ 1", "a |!= 1",
		"a |(1)", "1|.5", "1|.x", "'a'|.x", "id(a)|.x", "a.x|.y", "a.|1", "a.|(x)", "(a|]", "[a|)", "[a |a]", "[|,]", "[a,|]", "(|)", "size |a", "size(a|]", "head(|,)", "head(a,|)",
		"|as", "|is null", "|in [1]", "|match", "|abcdefghijklm", "|007", "|00", "|1a", "|1_", "|9223372036854775808", "|123456789012345678901234567890",
		"|- 0", "|-0", "|-007", "|-1a", "|-9223372036854775809", "|- a", "|-a.x", "|-(1)", "|--1", "|-'a'", "|-null", "|- ->", "1 + |- 0", "1 - |-0", "[1,|-x]",
		"|é", "a|é", "|\"a\"", "|#", "a |\x00", "a |\r", "a |\xff", "a |;", "|$1", "a |%", "|{}", "|\\'a'",
	} {
		misfits(t, item(s))
	}
}

func TestParseTexts(t *testing.T) {
	for _, s := range []string{`''`, `'a'`, `' as n'`, `'\''`, `'\\'`, `'\n'`, `'"'`, "'\t'", "'\r\x00'", "'é€😀'", `'match (a)'`, `'\\\''`} {
		if _, at, e := Parse(item(s)); at != 0 || e != api.OK {
			t.Errorf("%s: %d, %d", s, at, e)
		}
	}
	for _, s := range []string{`'`, `'a`, `'\'`, `'\\\'`, "'a\nb'", `'\t'`, `'\é'`, "'\xff'", "'\xe2\x82'", `'a\`, `'a\x'`} {
		fails(t, item(s), 17, api.ErrText)
		fails(t, "match (a) return [1, "+s+"] as n", 21, api.ErrText)
	}
	fails(t, item("'a' 'b'"), 21, api.ErrText)
	fails(t, item(`'a''`), 20, api.ErrText)
	fails(t, item(`'a'b`), 20, api.ErrText)
}

// The first that is wrong is told, whatever is wrong behind it.
func TestParseTellsTheFirst(t *testing.T) {
	misfits(t, "match (a |return #", "match (a) return |007 #", "match (a) return |- 0 '", "match (a |b '", "match (a) return a as |in #", "match (a) return a |'", "match (a) return |-x #", "match (a) return - |#", "match (a) return - |'x")
	fails(t, item(around("(", "1", ")", 50))+" #", 57, api.ErrMany)
	fails(t, "match (a) return 007 "+strings.Repeat("(", 50), 17, api.ErrText)
	fails(t, "match (b) return a as 1", 22, api.ErrText)
}

func TestParseTooLong(t *testing.T) {
	text := item("1")
	text += strings.Repeat(" ", api.MaxText-len(text))
	reads(t, text, ask(one()))
	fails(t, text+" ", 0, api.ErrMany)
	fails(t, strings.Repeat("#", api.MaxText+1), 0, api.ErrMany)
	fails(t, strings.Repeat("#", api.MaxText), 0, api.ErrText)
	fails(t, strings.Repeat(" ", api.MaxText), api.MaxText, api.ErrText)
	fails(t, strings.Repeat("(", api.MaxText), 0, api.ErrText)
}

func TestParseWithinForty(t *testing.T) {
	reads(t, item(around("(", "1", ")", 39)), ask(one()))
	reads(t, item(around("( ", "1", ")\n", 39)), ask(one()))
	reads(t, item(around("(", "a.x", ")", 38)+" + "+around("(", "a.x", ")", 39)), ask(apply("+", field("a", "x"), field("a", "x"))))
	for _, s := range []string{"1", "a", "a.x", "'a'", "-5", "not", "not 1", "(1)", "[1]", "[]", "size(1)", "null", "1 + 1", "((((1))))"} {
		fails(t, item(around("(", s, ")", 40)), 17+40, api.ErrMany)
		fails(t, item(around("[", s, "]", 40)), 17+40, api.ErrMany)
		fails(t, item(around("not ", s, "", 40)), 17+160, api.ErrMany)
		fails(t, item(around("id(", s, ")", 40)), 17+120, api.ErrMany)
		fails(t, item(around("(not [", around("head(", s, ")", 10), "])", 10)), 17+60+50, api.ErrMany)
		fails(t, item("count("+around("(", s, ")", 39)+")"), 17+45, api.ErrMany)
		fails(t, "match (a) where "+around("(", s, ")", 40)+" return 1 as n", 16+40, api.ErrMany)
	}
	reads(t, item("count("+around("(", "1", ")", 38)+")"), api.Query{Dots: []api.Dot{{Name: "a"}}, Items: []api.Item{{Name: "n", Agg: "count", T: one()}}})
	fails(t, item(around("(", "1", ")", 1000)), 17+40, api.ErrMany)
	fails(t, "match (a) return "+strings.Repeat("not ", 900), 17+160, api.ErrMany)
	fails(t, item("1 + "+around("(", "1", ")", 40)), 21+40, api.ErrMany)
}

// What opens and shuts is no word within itself; what doesn't fit, or isn't there, stands nowhere.
func TestParseAtForty(t *testing.T) {
	fails(t, item(around("[", "", "]", 40)), 0, api.ErrMany) // Check's: too deep a term
	fails(t, item(around("[", "", "]", 41)), 17+40, api.ErrMany)
	fails(t, item(around("(", "[]", ")", 39)+" + "+around("(", "coalesce()", ")", 39)+" + b"), 0, api.ErrWho)
	fails(t, item(around("(", "", ")", 40)), 17+40, api.ErrText)
	fails(t, item(around("(", ",", ")", 40)), 17+40, api.ErrText)
	fails(t, item(around("(", "#", ")", 40)), 17+40, api.ErrText)
	fails(t, item(around("(", "007", ")", 40)), 17+40, api.ErrText)
	fails(t, "match (a) return "+strings.Repeat("(", 40), 17+40, api.ErrText)
	fails(t, "match (a) return "+strings.Repeat("(", 39), 17+39, api.ErrText)
	// Brackets that were shut aren't around what follows.
	fails(t, item("["+strings.TrimSuffix(strings.Repeat("(1),", 60), ",")+"]"), 0, api.ErrMany)
	reads(t, item("["+strings.TrimSuffix(strings.Repeat("((1)),", 30), ",")+"]"), ask(apply("list", many(one(), 30)...)))
}

func TestParseThenChecks(t *testing.T) {
	for s, want := range map[string]api.Errno{
		"match ()-[]->()-[]->()-[]->()-[]->()-[]->() return 1 as n":      api.ErrMany,
		"match () return 1 as a, 1 as b, 1 as c, 1 as d, 1 as e, 1 as f": api.ErrMany,
		"match (a)-[e*]->() return 1 as n":                               api.ErrForm,
		"match (a)-[e]->()-[e]->() return 1 as n":                        api.ErrTwice,
		"match (a)-[b]->(b) return 1 as n":                               api.ErrTwice,
		"match (a) return a as n, a as n":                                api.ErrTwice,
		"match (a:P) return P as n":                                      api.ErrWho,
		"match (a) where b.x return a as n":                              api.ErrWho,
		"match (a) return type(a) as n":                                  api.ErrKind,
		"match (a) return id(1) as n":                                    api.ErrKind,
		"match (a) return id(a.x) as n":                                  api.ErrKind,
		"match (a) return id() as n":                                     api.ErrForm,
		"match (a) return size(a, a) as n":                               api.ErrForm,
		"match (a) return not not not not not not 1 as n":                api.ErrMany,
		"match (a) return 1+1+1+1+1+1+1 as n":                            api.ErrMany,
		"match (a)-[e*]->() return b as n":                               api.ErrForm,
	} {
		fails(t, s, 0, want)
	}
	reads(t, item("not not not not not 1"), ask(nest(one(), 5)))
	fails(t, item("["+strings.Repeat("1,", 30)+"1]"), 0, api.ErrMany)
	reads(t, item("["+strings.Repeat("1,", 29)+"1]"), ask(apply("list", many(one(), 30)...)))
}

func TestExamplesOfTheDocument(t *testing.T) {
	for _, s := range []string{
		"match (a:Person)-[:KNOWS]->(b) where a.age < 30 return b.name as name",
		"match (a)-[*]->(a) return distinct id(a) as a",
		"match (a) return count(id(a)) as n",
	} {
		if _, at, e := Parse(s); at != 0 || e != api.OK {
			t.Errorf("%s: %d, %d", s, at, e)
		}
	}
}
