// Package given holds package api, which is given whole, against the document's words.
package given

import (
	"testing"

	"pergola/api"
)

func TestErrnoNumbers(t *testing.T) {
	blocks := []struct {
		first  api.Errno
		errors []api.Errno
	}{
		{0, []api.Errno{api.OK, api.ErrText, api.ErrKind, api.ErrRange, api.ErrNone, api.ErrTwice, api.ErrFloat, api.ErrBig}},
		{20, []api.Errno{api.ErrNumber}},
		{50, []api.Errno{api.ErrJson}},
		{60, []api.Errno{api.ErrEscape}},
		{70, []api.Errno{api.ErrSyntax, api.ErrDepth}},
		{120, []api.Errno{
			api.ErrTypeTwice, api.ErrDirTwice, api.ErrSchemaTwice, api.ErrRootTwice, api.ErrBuiltIn, api.ErrExtendNone, api.ErrExtendKind,
		}},
		{140, []api.Errno{
			api.ErrNoQuery, api.ErrRootKind, api.ErrRootSame, api.ErrName, api.ErrEmpty, api.ErrPartTwice, api.ErrInputTwice,
			api.ErrTypeNone, api.ErrOutput, api.ErrInput, api.ErrIface, api.ErrIfaceTwice, api.ErrIfaceSelf, api.ErrIfaceMore,
			api.ErrImplField, api.ErrImplType, api.ErrImplArg, api.ErrImplArgType, api.ErrImplExtra, api.ErrMember,
			api.ErrMemberTwice, api.ErrInputRing, api.ErrDirRing,
		}},
		{200, []api.Errno{
			api.ErrOpTwice, api.ErrOpAlone, api.ErrOpSingle, api.ErrOpRoot, api.ErrFieldNone, api.ErrOverlap, api.ErrLeafSels,
			api.ErrNoSels, api.ErrArgNone, api.ErrArgSame, api.ErrArgMissing, api.ErrFragTwice, api.ErrFragType, api.ErrFragKind,
			api.ErrFragUnused, api.ErrFragNone, api.ErrFragRing, api.ErrFragNever, api.ErrValue, api.ErrInFieldNone,
			api.ErrInFieldSame, api.ErrInFieldMissing, api.ErrDirNone, api.ErrDirPlace, api.ErrDirSame, api.ErrVarTwice,
			api.ErrVarType, api.ErrVarNone, api.ErrVarUnused, api.ErrVarPlace,
		}},
		{240, []api.Errno{api.ErrEnvelope, api.ErrOpName, api.ErrSubscribe, api.ErrVariable, api.ErrLength, api.ErrNodes}},
		{250, []api.Errno{api.ErrArgument, api.ErrResolver, api.ErrResult, api.ErrRuntime, api.ErrNull}},
	}
	for _, b := range blocks {
		for i, e := range b.errors {
			if e != b.first+api.Errno(i) {
				t.Errorf("number %d of the block from %d: %d", i, b.first, e)
			}
		}
	}
}

func TestKindNumbers(t *testing.T) {
	for want, k := range []api.TokKind{api.TokEnd, api.TokBad, api.TokPunct, api.TokName, api.TokInt, api.TokFloat, api.TokString, api.TokBlock} {
		if int(k) != want {
			t.Errorf("TokKind %d: %d", want, k)
		}
	}
	for i, k := range []api.LitKind{api.LitVar, api.LitInt, api.LitFloat, api.LitString, api.LitBool, api.LitNull, api.LitEnum, api.LitList, api.LitObject} {
		if int(k) != i+1 {
			t.Errorf("LitKind %d: %d", i+1, k)
		}
	}
	for i, k := range []api.SelKind{api.SelField, api.SelSpread, api.SelInline} {
		if int(k) != i+1 {
			t.Errorf("SelKind %d: %d", i+1, k)
		}
	}
	for i, k := range []api.DefKind{api.DefQuery, api.DefMutation, api.DefSubscription, api.DefFragment} {
		if int(k) != i+1 {
			t.Errorf("DefKind %d: %d", i+1, k)
		}
	}
	for i, k := range []api.SysKind{api.SysSchema, api.SysScalar, api.SysObject, api.SysInterface, api.SysUnion, api.SysEnum, api.SysInput, api.SysDirective} {
		if int(k) != i+1 {
			t.Errorf("SysKind %d: %d", i+1, k)
		}
	}
	for want, k := range []api.Kind{api.KindNull, api.KindBool, api.KindInt, api.KindFloat, api.KindString, api.KindList, api.KindObject, api.KindHandle} {
		if int(k) != want {
			t.Errorf("Kind %d: %d", want, k)
		}
	}
	for want, f := range []api.Form{api.FormNone, api.FormWhole, api.FormFraction} {
		if int(f) != want {
			t.Errorf("Form %d: %d", want, f)
		}
	}
}

func TestLimits(t *testing.T) {
	if api.MostBytes != 1048576 || api.MostDepth != 200 || api.MostNodes != 65536 || api.MostParts != 4096 {
		t.Error(api.MostBytes, api.MostDepth, api.MostNodes, api.MostParts)
	}
}

func TestWords(t *testing.T) {
	words := map[api.Errno]string{
		70: "syntax", 71: "limit", 240: "request", 241: "operation", 242: "subscription", 243: "variable", 244: "limit",
		245: "limit", 250: "argument", 251: "resolver", 252: "result", 253: "runtime", 254: "null",
	}
	for e := api.Errno(120); e <= 162; e++ {
		words[e] = "schema"
	}
	for e := api.Errno(200); e <= 229; e++ {
		words[e] = "validation"
	}
	for e := api.Errno(-300); e <= 300; e++ {
		if got := api.Word(e); got != words[e] {
			t.Errorf("Word(%d) = %q", e, got)
		}
	}
}
