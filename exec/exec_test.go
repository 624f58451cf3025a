package exec_test

import (
	"math"
	"testing"

	"pergola/api"
	"pergola/exec"
)

// P26.1, P26.2: the chapter's examples.
func TestExamples(t *testing.T) {
	checkRows(t, chapter, []row{
		{"{c}", "", []string{"/c Query c {} [1,null,3]"}, `{"c":null} | null /c/1 1:2 | /c | 4`},
		{"{d{b} x:d{b a:b}}", "", []string{`/d Query d {"x":3} "@Query"`, `/x Query d {"x":3} "@Query"`, `/x/b Query b {} "s"`},
			`{"d":null,"x":null} | resolver /d/b 1:4, resolver /x/a 1:13 | /d /d/b /x /x/b /x/a | 5`},
		{"{e{b}}", "", []string{`/e Query e {} [["@Query",null],7]`, `/e/0/0/b Query b {} "s"`}, `{"e":null} | null /e/0/1 1:2, result /e/1 1:2 | /e /e/0/0/b | 6`},
		{"{u{...on A{k} ...on Query{a}}}", "", []string{`/u Query u {} "@Query"`, `/u/a Query a {} "x"`}, `{"u":{"a":null}} | result /u/a 1:27 | /u /u/a | 2`},
		{"{u{...on A{k} ...on Query{a}}}", "", []string{`/u Query u {} "@T"`}, `{"u":null} | runtime /u 1:2 | /u | 1`},
		{"{u{...on A{k} ...on Query{a}}}", "", []string{`/u Query u {} "@A"`, `/u/k A k {} null`}, `{"u":null} | null /u/k 1:12 | /u /u/k | 2`},
		{"{a a d{a} d{b}}", "", []string{`/a Query a {} 1`, `/d Query d {"x":3} "@Query"`, `/d/a Query a {} 2`}, `{"a":1,"d":null} | resolver /d/b 1:13 | /a /d /d/a /d/b | 4`},
		{"{a a d{a} d{b}}", "", []string{`/a Query a {} 1`}, `{"a":1,"d":null} | resolver /d 1:6 1:11 | /a /d | 2`},
		{`{__type(name:"A"){name fields{name}} __typename}`, "", nil, `{"__type":{"name":"A","fields":[{"name":"k"}]},"__typename":"Query"} |  |  | 6`},
	})
}

// P26.1: what each kind of type lets out at a field that may be null, and at one that may not.
func TestLeaves(t *testing.T) {
	checkRows(t, zoo, []row{
		{"{f}", "", []string{`/f Query f {} 7`}, `{"f":7.0} |  | /f | 1`},
		{"{f}", "", []string{`/f Query f {} "#nan"`}, `{"f":null} | result /f 1:2 | /f | 1`},
		{"{f}", "", []string{`/f Query f {} "@Query"`}, `{"f":null} | result /f 1:2 | /f | 1`},
		{"{f}", "", []string{`/f Query f {} [1.5]`}, `{"f":null} | result /f 1:2 | /f | 1`},
		{"{id}", "", []string{`/id Query id {} 7.0`}, `{"id":"7"} |  | /id | 1`},
		{"{id}", "", []string{`/id Query id {} null`}, `null | null /id 1:2 | /id | 1`},
		{"{id}", "", []string{`/id Query id {} "?9"`}, `null | null /id 1:2 | /id | 1`},
		{"{id}", "", []string{`/id Query id {} "?-1"`}, `null | null /id 1:2 | /id | 1`},
		{"{id}", "", []string{`/id Query id {} true`}, `null | result /id 1:2 | /id | 1`},
		{"{e}", "", []string{`/e Query e {} "B"`}, `{"e":"B"} |  | /e | 1`},
		{"{e}", "", []string{`/e Query e {} "C"`}, `null | result /e 1:2 | /e | 1`},
		{"{g}", "", []string{`/g Query g {} "?8"`}, `{"g":null} |  | /g | 1`},
		{"{g}", "", []string{`/g Query g {} false`}, `{"g":false} |  | /g | 1`},
		{"{b}", "", []string{`/b Query b {} false`}, `{"b":"false"} |  | /b | 1`},
		{"{s}", "", []string{`/s Query s {} {"x":[1,{"y":null}]}`}, `{"s":{"x":[1,{"y":null}]}} |  | /s | 1`},
		{"{s}", "", []string{`/s Query s {} {"x":["@Query"]}`}, `{"s":null} | result /s 1:2 | /s | 1`},
		{"{s}", "", []string{`/s Query s {} {"x":["?9"]}`}, `{"s":null} | result /s 1:2 | /s | 1`},
		{"{s ss}", "", []string{`/s Query s {} [1,2]`, `/ss Query ss {} [[1,2],null,{},"?-3"]`}, `{"s":[1,2],"ss":[[1,2],null,{},null]} |  | /s /ss | 6`},
	})
}

// P26.1: lists, their items' paths, and how far a null bubbles.
func TestLists(t *testing.T) {
	checkRows(t, zoo, []row{
		{"{ns}", "", []string{`/ns Query ns {} []`}, `{"ns":[]} |  | /ns | 1`},
		{"{ns}", "", []string{`/ns Query ns {} [1,2.0]`}, `{"ns":[1,2]} |  | /ns | 3`},
		{"{ns}", "", []string{`/ns Query ns {} [1,null,"x","?9",[]]`}, `null | null /ns/1 1:2, result /ns/2 1:2, null /ns/3 1:2, result /ns/4 1:2 | /ns | 6`},
		{"{ns}", "", []string{`/ns Query ns {} null`}, `null | null /ns 1:2 | /ns | 1`},
		{"{ns}", "", []string{`/ns Query ns {} 7`}, `null | result /ns 1:2 | /ns | 1`},
		{"{ns}", "", []string{`/ns Query ns {} {}`}, `null | result /ns 1:2 | /ns | 1`},
		{"{ns}", "", []string{`/ns Query ns {} !`}, `null | resolver /ns 1:2 | /ns | 1`},
		{"{es}", "", []string{`/es Query es {} ["A","?9",null,"C",{},"B"]`}, `{"es":["A",null,null,null,null,"B"]} | result /es/3 1:2, result /es/4 1:2 | /es | 7`},
		{"{es}", "", []string{`/es Query es {} "A"`}, `{"es":null} | result /es 1:2 | /es | 1`},
		{"{n(x: 1)}", "", []string{`/n Query n {"x":1} [[1],[],null,[null],7,[2,"x",3]]`}, `{"n":[[1],[],null,null,null,null]} | null /n/3/0 1:2, result /n/4 1:2, result /n/5/1 1:2 | /n | 12`},
		{"{i{... on V{us{... on O{a}}}}}", "", []string{`/i Query i {} "@V"`, `/i/us V us {} [["@O","@V"],[]]`, `/i/us/0/0/a O a {"x":1} 5`}, `{"i":{"us":[[{"a":5},{}],[]]}} |  | /i /i/us /i/us/0/0/a | 7`},
		{"{i{... on V{us{... on O{a}}}}}", "", []string{`/i Query i {} "@V"`, `/i/us V us {} [["@O",null],[],null,"@O"]`, `/i/us/0/0/a O a {"x":1} "x"`},
			`{"i":null} | result /i/us/0/0/a 1:25, null /i/us/0/1 1:13, null /i/us/2 1:13, result /i/us/3 1:13 | /i /i/us /i/us/0/0/a | 9`},
		{"{is{b}}", "", []string{`/is Query is {} ["@O","@Query","@Feed",7,"@V"]`, `/is/0/b O b {} "x"`, `/is/1/b Query b {} !`, `/is/4/b V b {} null`},
			`{"is":null} | resolver /is/1/b 1:5, runtime /is/2 1:2, result /is/3 1:2, null /is/4/b 1:5 | /is /is/0/b /is/1/b /is/4/b | 9`},
	})
}

// P26.1: objects, their types, and the fields that are collected for them.
func TestObjects(t *testing.T) {
	checkRows(t, zoo, []row{
		{"{i{a}}", "", []string{`/i Query i {} "@O:own"`, `/i/a O a {"x":1} 1`}, `{"i":{"a":1}} |  | /i /i/a | 2`},
		{"{i{a}}", "", []string{`/i Query i {} "@O"`, `/i/a V a {"x":1} 1`, `/i/a I a {"x":1} 1`, `/i/a O a {} 1`, `/i O a {"x":1} 1`}, `{"i":{"a":null}} | resolver /i/a 1:4 | /i /i/a | 2`},
		{"{i{a}}", "", []string{`/i Query i {} "@I"`}, `{"i":null} | runtime /i 1:2 | /i | 1`},
		{"{i{a}}", "", []string{`/i Query i {} "@"`}, `{"i":null} | runtime /i 1:2 | /i | 1`},
		{"{i{a}}", "", []string{`/i Query i {} {"a":1}`}, `{"i":null} | result /i 1:2 | /i | 1`},
		{"{i{a}}", "", []string{`/i Query i {} ["@O"]`}, `{"i":null} | result /i 1:2 | /i | 1`},
		{"{i{a}}", "", []string{`/i Query i {} null`}, `{"i":null} |  | /i | 1`},
		{"{q{a}}", "", []string{`/q Query q {} null`}, `null | null /q 1:2 | /q | 1`},
		{"{q{a}}", "", []string{`/q Query q {} "@O"`}, `null | runtime /q 1:2 | /q | 1`},
		{"{q{q{q{b}} a}}", "", []string{`/q Query q {} "@Query"`, `/q/q Query q {} "@Query"`, `/q/q/q Query q {} "@Query"`, `/q/a Query a {"x":1} 3`}, `null | resolver /q/q/q/b 1:8 | /q /q/q /q/q/q /q/q/q/b /q/a | 5`},
		{"{u{... on I{i{b}}} a}", "", []string{`/u Query u {} "@V"`, `/u/i V i {} "@O"`, `/a Query a {"x":1} 3`}, `{"u":{"i":null},"a":3} | resolver /u/i/b 1:15 | /u /u/i /u/i/b /a | 4`},
		{"{u{... on O{k} ... on V{e}} b}", "", []string{`/u Query u {} "@Query"`, `/b Query b {} "x"`}, `{"u":{},"b":"x"} |  | /u /b | 2`},
		{"{u{... on O{k}} u{__typename ... on O{x: __typename}}}", "", []string{`/u Query u {} "@O"`, `/u/k O k {} [null]`}, `{"u":{"k":[null],"__typename":"O","x":"O"}} |  | /u /u/k | 5`},
		{"{is{a ...F}} fragment F on O{b}", "", []string{`/is Query is {} ["@O","@V","@O"]`, `/is/0/a O a {"x":1} 1`, `/is/0/b O b {} "b"`, `/is/1/a V a {"x":1} 2`, `/is/2/b O b {} "c"`},
			`{"is":[{"a":1,"b":"b"},{"a":2},{"a":null,"b":"c"}]} | resolver /is/2/a 1:5 | /is /is/0/a /is/0/b /is/1/a /is/2/a /is/2/b | 9`},
	})
}

// P26.1: a field's definition is the object type's, wherever its text stands: other types, other defaults, and arguments more.
func TestDefinitionsOfObjects(t *testing.T) {
	checkRows(t, `type Query {i: I j: [I!]} interface I {a(x: Int = 1): Int i: I l: [I]} type O implements I {a(x: Int = 2 y: Int = 3): Int! i: O! l: [O!]!}
		type P implements I {a(x: Int): Int i: P l: [I!]}`, []row{
		{"{i{a}}", "", []string{`/i Query i {} "@O"`, `/i/a O a {"x":2,"y":3} 5`}, `{"i":{"a":5}} |  | /i /i/a | 2`},
		{"{i{a}}", "", []string{`/i Query i {} "@O"`, `/i/a O a {"x":2,"y":3} null`}, `{"i":null} | null /i/a 1:4 | /i /i/a | 2`},
		{"{j{a i{l{__typename}}}}", "", []string{`/j Query j {} ["@P","@O"]`, `/j/0/a P a {} null`, `/j/0/i P i {} "@O"`, `/j/1/a O a {"x":2,"y":3} 1`, `/j/1/i O i {} "@O"`, `/j/1/i/l O l {} ["@P"]`},
			`{"j":null} | runtime /j/0/i 1:6, runtime /j/1/i/l/0 1:8 | /j /j/0/a /j/0/i /j/1/a /j/1/i /j/1/i/l | 9`},
		{"{j{l{__typename}}}", "", []string{`/j Query j {} ["@P","@O"]`, `/j/0/l P l {} ["@O",null]`, `/j/1/l O l {} ["@O"]`}, `{"j":[{"l":null},{"l":[{"__typename":"O"}]}]} | null /j/0/l/1 1:4 | /j /j/0/l /j/1/l | 10`},
	})
}

// P26.1: the arguments of a look-up, and those that are refused at run time.
func TestArguments(t *testing.T) {
	checkRows(t, zoo, []row{
		{"{a}", "", []string{`/a Query a {"x":1} 1`}, `{"a":1} |  | /a | 1`},
		{"{a(x: null)}", "", []string{`/a Query a {"x":1} 1`, `/a Query a {"x":null} 2`}, `{"a":2} |  | /a | 1`},
		{"query($v: Int){a(x: $v) k: a(x: $v)}", "", []string{`/a Query a {"x":1} 1`, `/k Query a {"x":1} 2`}, `{"a":1,"k":2} |  | /a /k | 2`},
		{"query($v: Int){a(x: $v)}", `{"v":9}`, []string{`/a Query a {"x":1} 1`, `/a Query a {"x":9} 2`}, `{"a":2} |  | /a | 1`},
		{"query($v: Int = 4){n(x: $v p: {y: $v})}", "", []string{`/n Query n {"x":4,"p":{"y":4,"z":[1]}} []`}, `{"n":[]} |  | /n | 1`},
		{"query($v: Int = 4){n(p: {z: [$v 6] y: $v} x: 3)}", `{"v":5}`, []string{`/n Query n {"x":3,"p":{"y":5,"z":[5,6]}} []`}, `{"n":[]} |  | /n | 1`},
		{"query($v: Int = 4){a n(x: $v) b}", `{"v":null}`, []string{`/a Query a {"x":1} 1`, `/b Query b {} "x"`}, `{"a":1,"n":null,"b":"x"} | argument /n 1:22 | /a /b | 3`},
		{"query($v: Int = 4){n(x: 1 p: {y: $v})}", `{"v":null}`, nil, `{"n":null} | argument /n 1:20 |  | 1`},
		{"query($v: Int = 4){n(x: $v) ... {n(x: $v)}}", `{"v":null}`, nil, `{"n":null} | argument /n 1:20 1:34 |  | 1`},
		{"query($v: String = \"O\"){__type(name: $v){name} b}", `{"v":null}`, []string{`/b Query b {} "x"`}, `{"__type":null,"b":"x"} | argument /__type 1:25 | /b | 2`},
	})
	checkRows(t, "type Query {n(x: Int!): [Query!]! m: [Query]}", []row{
		{"query($v: Int = 4){m{n(x: $v){__typename}}}", `{"v":null}`, []string{`/m Query m {} ["@Query",null,"@Query"]`}, `{"m":[null,null,null]} | argument /m/0/n 1:22, argument /m/2/n 1:22 | /m | 6`},
		{"query($v: Int = 4){n(x: $v){__typename}}", `{"v":null}`, nil, `null | argument /n 1:20 |  | 1`},
		{"query($v: Int = 4){n(x: $v){__typename}}", `{"v":7}`, []string{`/n Query n {"x":7} ["@Query"]`}, `{"n":[{"__typename":"Query"}]} |  | /n | 3`},
	})
}

// P26.1: the look-ups' keys are whole.
func TestCalls(t *testing.T) {
	types := sound(t, zoo)
	doc := valid(t, types, "{k: i{a(x: 2) ...F}} fragment F on I{l: is{...G}} fragment G on V{b}")
	r := exec.Run(types, doc, 0, nil, table(t, `/k Query i {} "@O"`, `/k/l O is {} ["@O","@V"]`), 10)
	alike(t, "the trace", r.Trace, []api.Call{{Path: "/k", Parent: "Query", Field: "i", Args: "{}"}, {Path: "/k/a", Parent: "O", Field: "a", Args: `{"x":2}`}, {Path: "/k/l", Parent: "O", Field: "is", Args: "{}"}, {Path: "/k/l/1/b", Parent: "V", Field: "b", Args: "{}"}})
}

// P26.1, P26.3: gaps and failures; of rows with one key the first counts, and rows that no look-up meets make no difference.
func TestTables(t *testing.T) {
	checkRows(t, zoo, []row{
		{"{a}", "", nil, `{"a":null} | resolver /a 1:2 | /a | 1`},
		{"{b}", "", nil, `null | resolver /b 1:2 | /b | 1`},
		{"{a}", "", []string{`/a Query a {"x":1} !`, `/a Query a {"x":1} 1`}, `{"a":null} | resolver /a 1:2 | /a | 1`},
		{"{a}", "", []string{`/a Query a {"x":1} 1`, `/a Query a {"x":1} !`}, `{"a":1} |  | /a | 1`},
		{"{a}", "", []string{`/a Query a {"x":1} null`, `/a Query a {"x":1} 1`}, `{"a":null} |  | /a | 1`},
		{"{a}", "", []string{`/b Query b {} "x"`, `/a Query a {} 2`, `a Query a {"x":1} 3`, `/a Query a {"x":1} 1`, `/a Query a {"x":1.0} 2`, `/a Change a {"x":1} 2`}, `{"a":1} |  | /a | 1`},
		{"{k: a a}", "", []string{`/a Query a {"x":1} 1`, `/k Query k {"x":1} 2`}, `{"k":null,"a":1} | resolver /k 1:2 | /k /a | 2`},
	})
}

// P26.1: what the type system answers stands in no table and no trace, but is nodes.
func TestIntrospection(t *testing.T) {
	checkRows(t, zoo, []row{
		{"{__typename q{__typename t: __typename}}", "", []string{`/q Query q {} "@Query"`, `/__typename Query __typename {} "x"`, `/q/t Query __typename {} "x"`}, `{"__typename":"Query","q":{"__typename":"Query","t":"Query"}} |  | /q | 4`},
		{"{__schema{queryType{name __typename} mutationType{name}} q{__schema{__typename}}}", "", []string{`/q Query q {} "@Query"`, `/__schema Query __schema {} !`},
			`{"__schema":{"queryType":{"name":"Query","__typename":"__Type"},"mutationType":{"name":"Change"}},"q":{"__schema":{"__typename":"__Schema"}}} |  | /q | 9`},
		{`{__type(name: "E"){name kind enumValues{name isDeprecated} fields{name}} x: __type(name: "X"){name}}`, "", nil,
			`{"__type":{"name":"E","kind":"ENUM","enumValues":[{"name":"A","isDeprecated":false},{"name":"B","isDeprecated":false}],"fields":null},"x":null} |  |  | 12`},
		{`query($v: Boolean = true){__type(name: "__Type"){fields(includeDeprecated: $v){args{defaultValue type{ofType{name}}}}}}`, `{"v":null}`, nil,
			`{"__type":{"fields":[{"args":[]},{"args":[]},{"args":[]},{"args":[]},{"args":[{"defaultValue":"false","type":{"ofType":null}}]},{"args":[]},{"args":[]},{"args":[{"defaultValue":"false","type":{"ofType":null}}]},{"args":[]},{"args":[]}]}} |  |  | 30`},
		// A handle of an introspection type out of the table.
		{"{t{name kind ofType{name kind}}}", "", []string{`/t Query t {} "@__Type:[Int!]"`, `/t/name __Type name {} "x"`}, `{"t":{"name":null,"kind":"LIST","ofType":{"name":null,"kind":"NON_NULL"}}} |  | /t | 6`},
		{"{t{name kind}}", "", []string{`/t Query t {} "@__Type:Nope"`, `/t/name __Type name {} "x"`}, `{"t":null} | resolver /t/name 1:4, resolver /t/kind 1:9 | /t | 3`},
		{"{t{name __typename}}", "", []string{`/t Query t {} "@__Type:Nope"`}, `{"t":{"name":null,"__typename":"__Type"}} | resolver /t/name 1:4 | /t | 3`},
		{"{t{name}}", "", []string{`/t Query t {} "@__Field:Query.a"`}, `{"t":null} | runtime /t 1:2 | /t | 1`},
		{"{ts{name type{name}}}", "", []string{`/ts Query ts {} ["@__Field:O.a","@__Field:O.b","@__Field:O.nope"]`}, `{"ts":null} | resolver /ts/2/name 1:5, resolver /ts/2/type 1:10 | /ts | 12`},
	})
}

// P26.1: mutations and subscriptions, over their own root types; the trace of each goes depth first.
func TestOperations(t *testing.T) {
	checkRows(t, zoo, []row{
		{"mutation{x: a q{b} y: a(x: 2)}", "", []string{`/y Change a {"x":2} 2`, `/q Change q {} "@Query"`, `/q/b Query b {} "b"`}, `{"x":null,"q":{"b":"b"},"y":2} | resolver /x 1:10 | /x /q /q/b /y | 4`},
		{"mutation{b ns a}", "", []string{`/a Change a {"x":1} 1`, `/ns Change ns {} [null]`}, `null | resolver /b 1:10, null /ns/0 1:12 | /b /ns /a | 4`},
		{"mutation{__typename q{__type(name: \"E\"){name}}}", "", []string{`/q Change q {} "@Query"`}, `{"__typename":"Change","q":{"__type":{"name":"E"}}} |  | /q | 4`},
		{"subscription{i{a b}}", "", []string{`/i Feed i {} "@O"`, `/i/a O a {"x":1} 1`}, `{"i":null} | resolver /i/b 1:18 | /i /i/a /i/b | 3`},
		{"subscription{b}", "", []string{`/b Feed b {} 1.5`}, `{"b":"1.5"} |  | /b | 1`},
		{"{a@skip(if: true)}", "", nil, `{} |  |  | 0`},
		{"mutation{a@include(if: false)}", "", nil, `{} |  |  | 0`},
	})
	types := sound(t, zoo)
	doc := valid(t, types, "query A{a} mutation B{a} query C{b ...F} fragment F on Query{a}")
	rows := table(t, `/a Query a {"x":1} 1`, `/a Change a {"x":1} 2`, `/b Query b {} "x"`)
	for op, want := range []string{`{"a":1} |  | /a | 1`, `{"a":2} |  | /a | 1`, `{"b":"x","a":1} |  | /b /a | 2`} {
		if got := told(exec.Run(types, doc, op, nil, rows, 9)); got != want {
			t.Errorf("operation %d: %s", op, got)
		}
	}
}

// P26.1: of several merged fields a fault has the places, in the order in which they were collected; faults are not sorted, and stand as often as they arise.
func TestPlaces(t *testing.T) {
	checkRows(t, zoo, []row{
		{"{...F\ni{b ...G} ...F} fragment F on I{a i{b}} fragment G on O{b}", "", []string{`/i Query i {} "@O"`}, `{"a":null,"i":null} | resolver /a 2:33, resolver /i/b 2:37 2:3 2:57 | /a /i /i/b | 3`},
		{"{i{b} ...F\ni{b}} fragment F on I{i{b a} a}", "", []string{`/i Query i {} 7`, `/a Query a {"x":1} "x"`}, `{"i":null,"a":null} | result /i 1:2 2:23 2:1, result /a 2:30 | /i /a | 2`},
		{"{g a f}", "", []string{`/g Query g {} "x"`, `/a Query a {"x":1} "x"`, `/f Query f {} !`}, `{"g":null,"a":null,"f":null} | result /g 1:2, result /a 1:4, resolver /f 1:6 | /g /a /f | 3`},
		{"{is{a} is{a}}", "", []string{`/is Query is {} [7,null,null,8]`}, `{"is":null} | result /is/0 1:2 1:8, null /is/1 1:2 1:8, null /is/2 1:2 1:8, result /is/3 1:2 1:8 | /is | 5`},
	})
}

// P26.2: the argument nodes has bounds of its own.
func TestNodesAreClamped(t *testing.T) {
	types := sound(t, zoo)
	none, one := valid(t, types, "{a@skip(if: true)}"), valid(t, types, "{a}")
	for _, nodes := range []int{math.MinInt, -1, 0, 1, api.MostNodes, api.MostNodes + 1, math.MaxInt} {
		if got := told(exec.Run(types, none, 0, nil, nil, nodes)); got != "{} |  |  | 0" {
			t.Errorf("no node of %d: %s", nodes, got)
		}
		want := `{"a":null} | resolver /a 1:2 | /a | 1`
		if nodes < 1 {
			want = over
		}
		if got := told(exec.Run(types, one, 0, nil, nil, nodes)); got != want {
			t.Errorf("one node of %d: %s", nodes, got)
		}
	}
	wide := valid(t, types, "{ns}")
	for _, items := range []int{api.MostNodes - 1, api.MostNodes} {
		row := api.Entry{Call: api.Call{Path: "/ns", Parent: "Query", Field: "ns", Args: "{}"}, Out: api.Outcome{Value: api.Value{Kind: api.KindList}}}
		for range items {
			row.Out.Value.Items = append(row.Out.Value.Items, api.Value{Kind: api.KindInt, Int: 7})
		}
		for _, nodes := range []int{api.MostNodes - 1, api.MostNodes, api.MostNodes + 1, math.MaxInt} {
			r := exec.Run(types, wide, 0, nil, []api.Entry{row}, nodes)
			isOver := nodes < api.MostNodes || items == api.MostNodes
			if r.Over != isOver || !isOver && (r.Nodes != api.MostNodes || len(r.Data.Fields[0].Value.Items) != items) {
				t.Errorf("%d items of %d nodes: %v, %d", items, nodes, r.Over, r.Nodes)
			}
		}
	}
}

// P26.2: all that is gone through counts, behind what fails too.
func TestNodesOfWhatFails(t *testing.T) {
	checkRows(t, zoo, []row{
		{"{ns is{a b}}", "", []string{`/ns Query ns {} [null,1,2]`, `/is Query is {} ["@O",null,"@V"]`}, `null | null /ns/0 1:2, resolver /is/0/a 1:8, resolver /is/0/b 1:10, null /is/1 1:5, resolver /is/2/a 1:8, resolver /is/2/b 1:10 | /ns /is /is/0/a /is/0/b /is/2/a /is/2/b | 12`},
		{"{b id e a f}", "", nil, `null | resolver /b 1:2, resolver /id 1:4, resolver /e 1:7, resolver /a 1:9, resolver /f 1:11 | /b /id /e /a /f | 5`},
	})
}
