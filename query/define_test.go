package query_test

import "testing"

// P9.2: every kind of definition, with and without a name, variables and directives.
func TestEveryDefinition(t *testing.T) {
	for _, word := range []string{"query", "mutation", "subscription"} {
		told := word + "@2:3 "
		for src, rest := range map[string]string{
			"\n{a}":                        "{ a@3:2 } ",
			" Q\n{a}":                      "Q { a@3:2 } ",
			"\n($v:T){a}":                  "($v@3:2:T ) { a@3:8 } ",
			"\n@d{a}":                      "@d@3:1 { a@3:4 } ",
			" Q\n($v:T){a}":                "Q ($v@3:2:T ) { a@3:8 } ",
			" Q\n@d{a}":                    "Q @d@3:1 { a@3:4 } ",
			"\n($v:T)@d{a}":                "($v@3:2:T ) @d@3:7 { a@3:10 } ",
			" Q\n($v:T,$w:T)@d@e{a b}":     "Q ($v@3:2:T $w@3:7:T ) @d@3:12 @e@3:14 { a@3:17 b@3:19 } ",
			" Q\n@d(x:$v y:[$v{z:$w}]){a}": "Q @d@3:1 (x@3:4:$v@3:6 y@3:9:[@3:11 $v@3:12 {@3:14 z@3:15:$w@3:17 } ] ) { a@3:23 } ",
		} {
			want(t, "# a\n  "+word+src, 9, told+rest)
		}
	}
	want(t, " \n{a}", 9, "short@2:1 { a@2:2 } ")
	want(t, "fragment F on T{a}", 9, "fragment@1:1 F on T { a@1:17 } ")
	want(t, ",fragment F on T@d(x:$v)@e{a}", 9, "fragment@1:2 F on T @d@1:17 (x@1:20:$v@1:22 ) @e@1:25 { a@1:28 } ")
}

// P9.2: the definitions stand in their order, the same ones twice too.
func TestDefinitionsInOrder(t *testing.T) {
	want(t, "{a}query{b}fragment F on T{c}mutation M{d}subscription{e}fragment F on T{c}{a}", 9,
		"short@1:1 { a@1:2 } query@1:4 { b@1:10 } fragment@1:12 F on T { c@1:28 } mutation@1:30 M { d@1:41 } subscription@1:43 { e@1:56 } fragment@1:58 F on T { c@1:74 } short@1:76 { a@1:77 } ")
}

// Words of the grammar are names wherever a name may stand.
func TestWordsOfTheGrammar(t *testing.T) {
	for _, word := range []string{"query", "mutation", "subscription", "fragment", "on", "true", "false", "null", "type", "schema", "extend", "_", "__typename"} {
		w := "query@1:1 " + word + " "
		at := func(n int) string { return "@1:" + col(n+len(word)) }
		want(t, "query "+word+"{a}", 9, w+"{ a"+at(8)+" } ")
		want(t, "query "+word+" @d{a}", 9, w+"@d"+at(8)+" { a"+at(11)+" } ")
		want(t, "query($"+word+":T){a}", 9, "query@1:1 ($"+word+"@1:7:T ) { a"+at(12)+" } ")
		want(t, "query($v:"+word+"!){a}", 9, "query@1:1 ($v@1:7:"+word+" !) { a"+at(13)+" } ")
		want(t, "{"+word+"}", 9, "short@1:1 { "+word+"@1:2 } ")
		want(t, "{"+word+":a}", 9, "short@1:1 { "+word+"@1:2 :a } ")
		want(t, "{a:"+word+"}", 9, "short@1:1 { a@1:2 :"+word+" } ")
		want(t, "{...on "+word+"{a}}", 9, "short@1:1 { ...@1:2 on "+word+" { a"+at(9)+" } } ")
		want(t, "fragment F on "+word+"{a}", 9, "fragment@1:1 F on "+word+" { a"+at(16)+" } ")
		if word != "on" {
			want(t, "{..."+word+"}", 9, "short@1:1 { ...@1:2 ="+word+" } ")
			want(t, "fragment "+word+" on T{a}", 9, "fragment@1:1 "+word+" on T { a"+at(16)+" } ")
		}
	}
}

// `on` is no fragment's name, and a fragment has its `on` and its type.
func TestFaultsOfFragments(t *testing.T) {
	for src, fault := range map[string]string{
		"fragment":                 "1:9",
		"fragment{a}":              "1:9",
		"fragment on T{a}":         "1:10",
		"fragment on on on{a}":     "1:10",
		"fragment F":               "1:11",
		"fragment F{a}":            "1:11",
		"fragment F on":            "1:14",
		"fragment F on{a}":         "1:14",
		"fragment F ON T{a}":       "1:12",
		"fragment F T on{a}":       "1:12",
		"fragment F on T":          "1:16",
		"fragment F on T U{a}":     "1:17",
		"fragment F on T!{a}":      "1:16",
		"fragment F on [T]{a}":     "1:15",
		"fragment F($v:T)on T{a}":  "1:11",
		"fragment F on T($v:T){a}": "1:16",
		"fragment F @d on T{a}":    "1:12",
		"fragment F on T @{a}":     "1:18",
		"fragment F on T{}":        "1:17",
		"fragment \"F\" on T{a}":   "1:10",
		"fragment 1 on T{a}":       "1:10",
		"fragment F on T{a}...":    "1:19",
	} {
		want(t, src, 9, "syntax "+fault)
	}
}

// P9.3: a variable's parts.
func TestVariables(t *testing.T) {
	for src, told := range map[string]string{
		"$v:T":                          "$v@1:7:T ",
		"$v:T!":                         "$v@1:7:T !",
		"$ v : [ [ T ! ] ] !":           "$v@1:7:T !]]!",
		"$v:T=1":                        "$v@1:7:T =i1@1:12 ",
		"$v:T=null":                     "$v@1:7:T =null@1:12 ",
		"$v:T!=-1.5":                    "$v@1:7:T !=f-1.5@1:13 ",
		"$v:T=\"s\"":                    "$v@1:7:T =s\"s\"@1:12 ",
		"$v:T=\"\"\"k\"\"\"":            "$v@1:7:T =k\"k\"@1:12 ",
		"$v:T=true@d":                   "$v@1:7:T =btrue@1:12 @d@1:16 ",
		"$v:T=e@d@d":                    "$v@1:7:T =ee@1:12 @d@1:13 @d@1:15 ",
		"$v:T=[]":                       "$v@1:7:T =[@1:12 ] ",
		"$v:T={}":                       "$v@1:7:T ={@1:12 } ",
		"$v:T=[1{a:e}]":                 "$v@1:7:T =[@1:12 i1@1:13 {@1:14 a@1:15:ee@1:17 } ] ",
		"$v:T@d(x:[1])":                 "$v@1:7:T @d@1:11 (x@1:14:[@1:16 i1@1:17 ] ) ",
		"$v:T$v:T":                      "$v@1:7:T $v@1:11:T ",
		"$v:T=$w:T":                     "",
		"$v:T=1$w:[T]@d$x:U={a:1}@e@f,": "$v@1:7:T =i1@1:12 $w@1:13:T ]@d@1:19 $x@1:21:U ={@1:26 a@1:27:i1@1:29 } @e@1:31 @f@1:33 ",
	} {
		if told == "" {
			want(t, "query("+src+"){a}", 9, "syntax 1:12")
			continue
		}
		want(t, "query("+src+"){a}", 9, "query@1:1 ("+told+") { a@1:"+col(9+len(src))+" } ")
	}
}

func TestFaultsOfVariables(t *testing.T) {
	for src, fault := range map[string]string{
		"query(":                       "1:7",
		"query()":                      "1:7",
		"query(){a}":                   "1:7",
		"query(v:T){a}":                "1:7",
		"query($":                      "1:8",
		"query($1:T){a}":               "1:8",
		"query($:T){a}":                "1:8",
		"query($$v:T){a}":              "1:8",
		"query($v":                     "1:9",
		"query($v T){a}":               "1:10",
		"query($v:":                    "1:10",
		"query($v:1){a}":               "1:10",
		"query($v:$w){a}":              "1:10",
		"query($v:[T){a}":              "1:12",
		"query($v:[]){a}":              "1:11",
		"query($v:T!!){a}":             "1:12",
		"query($v:T":                   "1:11",
		"query($v:T=":                  "1:12",
		"query($v:T=){a}":              "1:12",
		"query($v:T=$v){a}":            "1:12",
		"query($v:T=[1[$v]]){a}":       "1:15",
		"query($v:T={a:$v}){a}":        "1:15",
		"query($v:T=1=2){a}":           "1:13",
		"query($v:T=1 2){a}":           "1:14",
		"query($v:T@d=1){a}":           "1:13",
		"query($v:T@d(a:$v)){a}":       "1:16",
		"query($v:T@d(a:[{b:$v}])){a}": "1:20",
		"query($v:T@){a}":              "1:12",
		"query($v:T@d()){a}":           "1:14",
		"query($v:T{a}":                "1:11",
		"query($v:T]{a}":               "1:11",
		"query($v:T)($w:T){a}":         "1:12",
		"query($v:T)Q{a}":              "1:12",
		"query @d($v:T){a}":            "1:10",
		"query @d(a:1)($v:T){a}":       "1:14",
		"($v:T){a}":                    "1:1",
		"query($v:T \"s\"){a}":         "1:12",
		"query(\"s\"$v:T){a}":          "1:7",
	} {
		want(t, src, 9, "syntax "+fault)
	}
}

// What may stand behind a definition is the next one alone.
func TestBehindADefinition(t *testing.T) {
	for src, fault := range map[string]string{
		"}": "1:4", ")": "1:4", "]": "1:4", "a": "1:4", "on": "1:4", "on T{a}": "1:4", "...": "1:4", "...F": "1:4", "@d": "1:4", "@d{a}": "1:4", "(a:1)": "1:4", "$v": "1:4", "!": "1:4", ":": "1:4", "=": "1:4", "|": "1:4", "&": "1:4",
		"1": "1:4", "1.5": "1:4", "\"s\"": "1:4", "\"\"\"k\"\"\"": "1:4", "?": "1:4", "\x80": "1:4", "type T{a:T}": "1:4", "extend": "1:4", "true": "1:4",
		"{": "1:5", "{}": "1:5", "query": "1:9", "mutation": "1:12", "subscription Q": "1:18", "fragment": "1:12",
	} {
		want(t, "{a}"+src, 9, "syntax "+fault)
	}
	for _, src := range []string{" ", "\n", ",", "# a", "#\n\n", "\ufeff"} {
		want(t, "{a}"+src, 9, "short@1:1 { a@1:2 } ")
		want(t, src+"\n{a}"+src, 9, tell([]byte(src+"\n{a}"), 9))
	}
}

// What may not stand between an operation's parts.
func TestFaultsOfOperations(t *testing.T) {
	for _, word := range []string{"query", "mutation", "subscription"} {
		for src, fault := range map[string]int{
			"": 1, "{": 2, "{}": 2, " Q": 3, " Q Q{a}": 4, " Q:a{a}": 3, " Q on T{a}": 4, " 1{a}": 2, " \"Q\"{a}": 2, " $v{a}": 2, "@{a}": 2, "@d": 3, "@d Q{a}": 4, "@d@{a}": 4, " Q @d(a:$){a}": 10, "[a]": 1, "...{a}": 1, ":{a}": 1, "}": 1, "@d()": 4, "@d(a:1": 7,
		} {
			want(t, word+src, 9, "syntax 1:"+col(len(word)+fault))
		}
	}
}
