package txn

import (
	"reflect"
	"testing"

	"espalier/api"
	"espalier/sample"
)

// Short names of what these tests say again and again.
var (
	num, str, list, prop, props = sample.Int, sample.Text, sample.List, sample.Prop, sample.Props
	longText, wrongText         = sample.LongText, sample.WrongText
	names, numbered             = sample.Names, sample.Numbered
	nodes, loops, town          = sample.Nodes, sample.Loops, sample.Town
)

// alike tells whether two things are the same, where lists that have nothing in them may be nil or empty.
func alike(a, b any) bool { return reflect.DeepEqual(bare(a), bare(b)) }

// bare is x with all empty lists as nil.
func bare(x any) any {
	v := reflect.New(reflect.TypeOf(x)).Elem()
	v.Set(reflect.ValueOf(x))
	return strip(v).Interface()
}

func strip(v reflect.Value) reflect.Value {
	out := reflect.New(v.Type()).Elem()
	out.Set(v)
	switch v.Kind() {
	case reflect.Slice:
		out.SetZero()
		for i := range v.Len() {
			out.Set(reflect.Append(out, strip(v.Index(i))))
		}
	case reflect.Struct:
		for i := range v.NumField() {
			out.Field(i).Set(strip(v.Field(i)))
		}
	}
	return out
}

// done is what operations make of g: they must go.
func done(t *testing.T, g api.Graph, l ...api.Op) (api.Graph, []int) {
	t.Helper()
	out, made, at, e := Apply(g, l)
	if at != 0 || e != api.OK {
		t.Fatalf("%v: operation %d: %d", l, at, e)
	}
	return out, made
}

// refused tells that operations don't go, and that nothing is told but where and why.
func refused(t *testing.T, what string, g api.Graph, at int, want api.Errno, l ...api.Op) {
	t.Helper()
	out, made, where, e := Apply(g, l)
	if out.Nodes != nil || out.Edges != nil || out.Next != 0 || made != nil || where != at || e != want {
		t.Errorf("%s: %v, %v, %d, %d, want nothing at %d, %d", what, out, made, where, e, at, want)
	}
}
