package promises

import (
	"reflect"

	"espalier/sample"
)

// wild is anything of a type: most of it isn't right, some of it nearly is.
func wild(s *sample.Source, t reflect.Type, deep int) reflect.Value {
	v := reflect.New(t).Elem()
	switch t.Kind() {
	case reflect.Int:
		v.SetInt(int64(wildInt(s)))
	case reflect.Bool:
		v.SetBool(s.Below(2) == 0)
	case reflect.String:
		v.SetString(wildText(s))
	case reflect.Struct:
		for i := range t.NumField() {
			v.Field(i).Set(wild(s, t.Field(i).Type, deep))
		}
	case reflect.Slice:
		if deep == 0 {
			break
		}
		for range s.Below(4) {
			v.Set(reflect.Append(v, wild(s, t.Elem(), deep-1)))
		}
	default:
		panic("a type that no call takes: " + t.String())
	}
	return v
}

func wildInt(s *sample.Source) int {
	l := []int{-1 << 63, -1<<63 + 1, -2, -1, 1 << 40, 1<<40 + 1, 1<<63 - 1}
	if s.Below(6) == 0 {
		return l[s.Below(len(l))]
	}
	return s.Below(9)
}

func wildText(s *sample.Source) string {
	l := []string{"", "", "a", "A", "L0", "p1", "T2", "1", "a b", "\xff", "é", "abcdefghijkl", "abcdefghijklm", "+", "and", "null", "[1,null,'it\\'s']", "[[1],", "-0", "match (a) return [a, [1]] as n", "match (a)-[e]->(b) where a.x <", "count", "next 2\nnode 1 :L0 p0='a b'\n", "next 2\nnode 1 :L0 p0='a"}
	return l[s.Below(len(l))]
}
