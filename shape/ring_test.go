package shape_test

import (
	"fmt"
	"math/rand"
	"strings"
	"testing"
)

// P14.2: input types that need themselves, by the one mark ! alone.
func TestInputRing(t *testing.T) {
	checkRows(t, "Rings", []row{
		{"input ①A{a:A!}", "InputRing①"},
		{"input A{a:A b:[A!]! c:[A!] d:[A]! e:[[A!]!]! f:[A]}", ""},
		{"input ①A{a:A b:[A!]! c:A!}", "InputRing①"},
		{"input ①A{a:A!={a:1}}", "InputRing①"},
		{"input ①A{b:B!}input ②B{a:A!}", "InputRing①; InputRing②"},
		{"input A{b:B!}input B{a:A}", ""}, {"input A{b:[B!]!}input B{a:A!}", ""}, {"input A{b:B!}input B{a:[A!]!}", ""}, {"input A{b:B}input B{a:A!}", ""},
		{"input A{b:B!}input ①B{b:B!}", "InputRing①"},
		{"input A{b:B!}input ①B{c:C!}input ②C{b:B! d:D!}input D{a:Int!}", "InputRing①; InputRing②"},
		{"input ①A{b:B!}input ②B{c:C!}input ③C{d:D!}input ④D{a:A!}", "InputRing①; InputRing②; InputRing③; InputRing④"},
		{"input ①A{a:A! m:M!}input M{b:B!}input ②B{b:B!}", "InputRing①; InputRing②"},
		{"input ①A{b:B! c:C!}input ②B{a:A!}input ③C{a:A!}", "InputRing①; InputRing②; InputRing③"},
		{"extend input A{a:A!}input ①A{b:Int}", "InputRing①"},
		{"input ①A extend input A{b:Int}extend input A{a:A!}", "InputRing①"},
		{"input ①A{a:A a:A!}", "InputRing①"},
		{"type A{a:A! b(x:A!):A!}interface B{b:B!}", ""},
		{"input A{o:O!}type O{a:A!}", ""}, {"input A{e:E!}enum E{A}", ""}, {"input A{a:X! b:Int! c:a!}", ""},
		{"input A{a:B!}input A{a:A!}input B", ""}, {"input A extend type A{a:A!}", ""}, {"input Int{a:Int!}", ""}, {"extend input A{a:A!}", ""},
		{"directive@A(x:B!)on ENUM input B{a:A!}", ""},
	})
}

// P14.2: directives whose definitions use themselves, by arguments and what stands at them, and by types and what stands in them.
func TestDirRing(t *testing.T) {
	checkRows(t, "Rings", []row{
		{"directive@①d(x:Int@d)on ENUM", "DirRing①"},
		{"directive@d(x:Int)on ENUM", ""},
		{"directive@①d(x:Int y:Int@a@d)on ENUM directive@a on ENUM", "DirRing①"},
		{"directive@①d(x:Int@e)on ENUM directive@②e(x:Int@d)on ENUM", "DirRing①; DirRing②"},
		{"directive@d(x:Int@e)on ENUM directive@①e(x:Int@e)on ENUM", "DirRing①"},
		{"directive@d(x:Int@e)on ENUM directive@e(x:Int@f)on ENUM directive@f on ENUM", ""},
		{"directive@①d(x:S)on ENUM scalar S@d", "DirRing①"},
		{"directive@①d(x:[S!]!)on ENUM scalar S extend scalar S@e@d", "DirRing①"},
		{"directive@①d(x:E)on ENUM enum E@d", "DirRing①"}, {"directive@①d(x:E)on ENUM enum E{A B@d}", "DirRing①"}, {"directive@①d(x:E)on ENUM extend enum E{B@d}enum E", "DirRing①"},
		{"directive@①d(x:N)on ENUM input N@d", "DirRing①"}, {"directive@①d(x:N)on ENUM input N{a:Int b:Int@d}", "DirRing①"}, {"directive@①d(x:N)on ENUM input N{a:M}input M@d", "DirRing①"}, {"directive@①d(x:N)on ENUM input N{a:[[M!]!]!}input M{b:Int@d}", "DirRing①"},
		{"directive@①d(x:O)on ENUM type O@d", "DirRing①"}, {"directive@①d(x:O)on ENUM interface O@d", "DirRing①"}, {"directive@①d(x:O)on ENUM union O@d", "DirRing①"},
		{"directive@d(x:O)on ENUM type O{a:Int@d b(x:Int@d y:N):N}input N@d", ""}, {"directive@d(x:O)on ENUM interface O implements I{a:I}interface I@d", ""}, {"directive@d(x:O)on ENUM union O=P type P@d", ""},
		{"directive@d(x:N)on ENUM input N{a:N b:M}input M{n:N}", ""},
		{"directive@①d(x:N)on ENUM input N{a:N b:M}input M{n:N c:S}scalar S@e directive@②e(x:Int@d)on ENUM", "DirRing①; DirRing②"},
		{"directive@d(x:N)on ENUM input N{a:M}input ①M{m:M!}directive@②e(x:M@e)on ENUM", "InputRing①; DirRing②"},
		{"directive@d(x:Int=1@skip@X)on ENUM scalar S@d type T@d{a:Int@d}schema@d{query:T}", ""},
		{"directive@d(x:d)on ENUM scalar d", ""}, {"directive@①d(x:d)on ENUM scalar d@d", "DirRing①"},
		{"directive@d(x:N=S)on ENUM scalar S@d scalar N", ""},
		{"directive@d on ENUM directive@d(x:Int@d)on ENUM directive@skip(x:Int@skip)on ENUM", ""},
		{"directive@d(x:S)on ENUM scalar S scalar S@d extend enum S@d", ""},
		{"directive@d(x:S)on ENUM extend scalar S@d", ""},
		{"directive@d(x:Int)on ENUM scalar Int@d extend scalar Int@d", ""},
		{"directive@e(x:S)on ENUM directive@①d(x:S)on ENUM scalar S@d", "DirRing①"},
	})
}

// P14.2: all relations among three input types, and many among more, held against the model.
func TestAllRings(t *testing.T) {
	lay := func(n int, has func(i, j int) bool) string {
		var src strings.Builder
		for i := range n {
			fmt.Fprintf(&src, "input N%d{a:Int ", i)
			for j := range n {
				if has(i, j) {
					fmt.Fprintf(&src, "b:N%d! ", j)
				}
			}
			src.WriteString("}")
		}
		return src.String()
	}
	for bits := range 1 << 9 {
		holdAll(t, lay(3, func(i, j int) bool { return bits>>(3*i+j)&1 == 1 }))
	}
	r := rand.New(rand.NewSource(14))
	for range 150 {
		n := 4 + r.Intn(5)
		rate := 2 + r.Intn(2*n)
		holdAll(t, lay(n, func(i, j int) bool { return r.Intn(rate) == 0 }))
	}
}

// P14.2: relations among directives and types of all kinds by chance.
func TestDirRingsMade(t *testing.T) {
	r := rand.New(rand.NewSource(41))
	for range 600 {
		n := 1 + r.Intn(4)
		rate := 2 + r.Intn(3*n)
		at := func() string {
			out := ""
			for i := range n {
				if r.Intn(rate) == 0 {
					out += fmt.Sprintf("@d%d", i)
				}
			}
			return out
		}
		of := func() string { return fmt.Sprintf("%s%d", string("SENO"[r.Intn(4)]), r.Intn(n)) }
		var src strings.Builder
		for i := range n {
			fmt.Fprintf(&src, "directive@d%d(x:Int%s y:[%s])on ENUM scalar S%d%s enum E%d{A B%s}input N%d{a:%s b:Int%s}type O%d%s{a:N%d%s}\n", i, at(), of(), i, at(), i, at(), i, of(), at(), i, at(), i, at())
		}
		holdAll(t, src.String())
	}
}
