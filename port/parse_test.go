package port

import (
	"strings"
	"testing"

	"espalier/api"
)

// What isn't written so is told by the number of its line.
func TestParseRefuses(t *testing.T) {
	for at, texts := range map[int][]string{
		0: {
			"", "\n", " ", "x\n", "\n\n", "\nnext 1\n", "node 1\n", "node 1\nnext 2\n", "edge 2 1 1 :T\n",
			"next 1", "next\n", "next \n", "next1\n", "nex 1\n", "nextx 1\n", "Next 1\n", "next\t1\n",
			" next 1\n", "next  1\n", "next 1 \n", "next 1 2\n", "next 1\r\n", "next 1\x00\n", "next 1 p=1\n", "next 1 :a\n",
			"next 01\n", "next 00\n", "next -0\n", "next -01\n", "next +1\n", "next -\n", "next 1_0\n", "next 0x1\n", "next 1.0\n",
			"next '1'\n", "next one\n", "next 9223372036854775808\n", "next -9223372036854775809\n",
		},
		1: {
			"next 1\n\n", "next 1\n ", "next 1\n \n", "next 1\nx", "next 1\nnext 1\n", "next 1\nnode 1", "next 1\n\nnode 1\n", "next 1\nedge 2 1 1 :T",
		},
		2: {
			"next 1\nnode 1\n\n", "next 1\nnode 1\nnode 2", "next 3\nnode 1\nedge 2 1 1 :T", "next 0\nnode 0 p=null\nnode 1 p\n",
			"next 5\nedge 3 1 1 :T\nnode 1\nnode\n", "next 2\nnode 1 :a :\n :b\n",
		},
		3: {
			"next 4\nnode 1\nedge 3 1 1 :T\nnode 2\n", "next 5\nnode 1\nedge 3 1 1 :T\nnext 5\n", "next 5\nnode 1\nedge 3 1 1 :T\n\n",
		},
		4: {
			"next 9\nnode 5\nnode 4\nnode 1 :1\nx\ny\n", "next 5\nnode 1\nedge 3 1 1 :T\nedge 4 1 1 :T\nnode 2\nx\n",
		},
	} {
		for _, text := range texts {
			checkRefused(t, text, at, api.ErrText)
		}
	}
}

func TestParseRefusesNodes(t *testing.T) {
	for _, line := range []string{
		"node", "node ", "node  1", "nodes 1", " node 1", "node 1 ", "Node 1", "node 1\r", "node\t1", "nod 1", "node1",
		"node 01", "node +1", "node -0", "node 9223372036854775808", "node :a", "node p=1", "node 1:a", "node 1p=1", "node 1\t:a", "node 1 1", "node 1 2 3",
		"node 1 a", "node 1  :a", "node 1 :a ", "node 1 :a  :b", "node 1 :a b", "node 1 : a", "node 1 :'a b'",
		"node 1 p=1 :a", "node 1 p=1 ", "node 1 p=1  q=2", "node 1 :a  p=1", "node 1 p=1 q", "node 1 p =1", "node 1 p= 1", "node 1 p=", "node 1 p= q=1", "node 1 =", "node 1 p==1", "node 1 p=q=1",
	} {
		checkRefused(t, "next 2\n"+line+"\n", 1, api.ErrText)
		checkRefused(t, "next 2\nnode 0\n"+line+"\nx\n", 2, api.ErrText)
	}
}

func TestParseRefusesEdges(t *testing.T) {
	for _, line := range []string{
		"edge", "edge 3", "edge 3 1", "edge 3 1 1", "edge 3 1 1 ", "edge 3 1 1 T", "edge 3 1 :T", "edge 3 1 1 1 :T", "edges 3 1 1 :T", " edge 3 1 1 :T", "edge  3 1 1 :T",
		"edge 3 1 1  :T", "edge 3 1 1 :T ", "edge 3 1 1 :T :U", "edge 3 1 1 :T U", "edge 3 1 1 : T", "edge 3 1 1 p=1 :T", "edge 3 1 1 p=1", "edge 3 1 1 :T p=1 q", "edge 3 1 1 :T p=1 ",
		"edge :T 3 1 1", "edge 03 1 1 :T", "edge 3 01 1 :T", "edge 3 1 01 :T", "edge 3 1 1:T", "edge 3 1 1 :'T U'",
	} {
		checkRefused(t, "next 4\nnode 1\n"+line+"\n", 2, api.ErrText)
		checkRefused(t, "next 4\nedge 2 1 1 :T\n"+line+"\nx\n", 2, api.ErrText)
	}
}

// What stands behind an `=` must be what chapter 1's Parse reads, whatever error that tells.
func TestParseRefusesValues(t *testing.T) {
	tooMany := "[" + strings.Repeat("1,", api.MaxList) + "1]"
	for _, v := range []string{
		"", "x", "nul", "Null", "truex", "01", "-0", "+1", "-", "1x", "1.5", "9223372036854775808", "\"a\"", "\xff", "'\xff'",
		"'", "'a", "'a b", `'a\'`, `'a b\'`, `'\`, `\`, `\'`, `'\x'`, `'\ '`, `' \t'`, `'a''b'`, `'a' 'b'`, "'a'b", "a'b c'", "1'2 3'", `'a\' b'c'`, `'a\\' b'`,
		"'a\tb' ", "'a\nb'", "[", "[1", "]", "[1,]", "[1, 2]", "[1 ,2]", "[' ' ,1]", "[' ', 1]", "['a ]", "[1]]", "[' '", "' '1",
		tooMany, "[[[[[[[]]]]]]]", strings.Repeat("[", 41), "'" + letters(api.MaxText-1) + "'", "'" + letters(api.MaxText+5), letters(2 * api.MaxText),
	} {
		checkRefused(t, "next 3\nnode 1\nnode 2 p="+v+"\n", 2, api.ErrText)
		checkRefused(t, "next 3\nnode 1 o=1 p="+v+" q='a b'\nnode 2\n", 1, api.ErrText)
		checkRefused(t, "next 4\nnode 1\nedge 2 1 1 :T p="+v+"\nx\n", 2, api.ErrText)
	}
}

// What is written so, but is no graph, is left to chapter 3's Check.
func TestParseLeavesToCheck(t *testing.T) {
	for want, texts := range map[api.Errno][]string{
		api.ErrRange: {
			"next 0\n", "next -1\n", "next 1\nnode 1\n", "next 2\nnode 1\nedge 2 1 1 :T\n",
			"next 1099511627777\n", "next 9223372036854775807\n", "next -9223372036854775808\n",
		},
		api.ErrForm: {
			"next 2\nnode 0\n", "next 2\nnode -1\n", "next 3\nnode 2\nnode 1\n", "next 3\nnode 1\nnode 1\n",
			"next 2\nnode 1 :\n", "next 2\nnode 1 : :\n", "next 2\nnode 1 ::a\n", "next 2\nnode 1 :a:b\n", "next 2\nnode 1 :a-b\n", "next 2\nnode 1 :1\n", "next 2\nnode 1 :a=1\n", "next 2\nnode 1 :=\n",
			"next 2\nnode 1 :\xff\n", "next 2\nnode 1 :a\t:b\n", "next 2\nnode 1 :a\r\n", "next 2\nnode 1 :é\n", "next 2\nnode 1 :abcdefghijklm\n", "next 2\nnode 1 :b :a\n", "next 2\nnode 1 :a :a\n",
			"next 2\nnode 1 =1\n", "next 2\nnode 1 1=1\n", "next 2\nnode 1 a-b=1\n", "next 2\nnode 1 a\t=1\n", "next 2\nnode 1 \xff=1\n", "next 2\nnode 1 abcdefghijklm=1\n",
			"next 2\nnode 1 p=null\n", "next 2\nnode 1 q=1 p=1\n", "next 2\nnode 1 p=1 p=1\n", "next 2\nnode 1 p=1 :q=1\n",
			"next 3\nnode 1\nedge 1 1 1 :T\n", "next 3\nnode 1\nedge -2 1 1 :T\n", "next 4\nnode 1\nedge 3 1 1 :T\nedge 2 1 1 :T\n",
			"next 4\nnode 1\nedge 3 1 1 :\n", "next 4\nnode 1\nedge 3 1 1 :T:U\n", "next 4\nnode 1\nedge 3 1 1 :T=1\n", "next 4\nnode 1\nedge 3 1 1 :T p=null\n", "next 4\nnode 1\nedge 3 1 1 :T :U=1\n",
			"next 0\nnode 1 :b :a\n", "next 1\n" + strings.Repeat("node 0\n", api.MaxNodes),
		},
		api.ErrMany: {
			"next 2\nnode 1 :a :b :c :d :e\n", "next 2\nnode 1 :a :b :c :d :e=1\n", "next 2\nnode 1 n0=1 n1=1 n2=1 n3=1 n4=1 n5=1 n6=1\n",
			"next 1\n" + strings.Repeat("node 0\n", api.MaxNodes+1), "next 1\n" + strings.Repeat("edge 0 0 0 :\n", api.MaxEdges+1),
		},
		api.ErrWho: {
			"next 4\nnode 1\nedge 3 1 2 :T\n", "next 4\nnode 1\nedge 3 -1 1 :T\n", "next 4\nedge 3 1 1 :T\n", "next 0\nnode 1\nedge 2 1 3 :T\n",
		},
	} {
		for _, text := range texts {
			checkRefused(t, text, 0, want)
		}
	}
}

// A text begins only in a value: what stands ahead of a blank may have any quotes.
func TestQuotesInNames(t *testing.T) {
	for _, line := range []string{
		"node 1 :it's", "node 1 :it's :b", "node 1 :'", "node 1 :' :'", "node 1 :'a p='b c'", "node 1 :\\ p=' '",
		"node 1 it's=1", "node 1 it's=1 p=2", "node 1 '='a b' q='c d'", "node 1 a\\'=' '",
		"edge 1 1 1 :it's", "edge 1 1 1 :it's p=1 q='a b'",
	} {
		checkRefused(t, "next 2\n"+line+"\n", 0, api.ErrForm)
		checkRefused(t, "next 2\n"+line+" x\n", 1, api.ErrText)
	}
	checkRefused(t, "next 2\nnode 1 :a='b c'\n", 1, api.ErrText)
}

func TestTextsThatAreTooLong(t *testing.T) {
	for _, long := range []int{mostBytes + 1, mostBytes + 2, 10 * mostBytes} {
		checkRefused(t, letters(long), 0, api.ErrMany)
		checkRefused(t, "next 2\nnode 1\n"+strings.Repeat("\n", long-len("next 2\nnode 1\n")), 0, api.ErrMany)
	}
	checkRefused(t, printed(t, sized(mostBytes))+"\n", 0, api.ErrMany)
	checkRefused(t, letters(mostBytes), 0, api.ErrText)
	checkRefused(t, printed(t, sized(mostBytes-1))+"\n", 14, api.ErrText)
	checkRefused(t, "next 2\n"+strings.Repeat("\n", mostBytes-len("next 2\n")), 1, api.ErrText)
	many := strings.Repeat("node 1\n", (mostBytes-10)/len("node 1\n"))
	checkRefused(t, "next 2\n"+many, 0, api.ErrMany)
	checkRefused(t, "next 2\n"+many+"x", 1+strings.Count(many, "\n"), api.ErrText)
	checkRefused(t, "next 2\nnode 1"+strings.Repeat(" :a", 13000)+"\n", 0, api.ErrMany)
	checkRefused(t, "next 2\nnode 1"+strings.Repeat(" :a=1", 7000)+" x\n", 1, api.ErrText)
	checkRefused(t, "next 2\nnode 1 p="+strings.Repeat("' '", 13000)+"\n", 1, api.ErrText)
}
