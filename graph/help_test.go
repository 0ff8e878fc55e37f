package graph

import "espalier/sample"

// Short names of what these tests say again and again.
var (
	num, str, list, prop, props = sample.Int, sample.Text, sample.List, sample.Prop, sample.Props
	longText, wrongText         = sample.LongText, sample.WrongText
	names, numbered             = sample.Names, sample.Numbered
	nodes, loops, town          = sample.Nodes, sample.Loops, sample.Town
)
