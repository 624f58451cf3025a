package overlap

import (
	"pergola/api"
	"pergola/scope"
)

// CheckWith is Check with another bound for copies of fragments, which is not to be seen in what is answered.
func CheckWith(s *scope.Sheet, copies int) []api.Fault {
	return check(s, copies)
}

// PairsWith and ShapesWith likewise.
func PairsWith(s *scope.Sheet, copies int) [][2]int {
	return newBoard(newPage(s), newAgreement(s), copies).pairs()
}

func ShapesWith(s *scope.Sheet, copies int) [][2]int {
	return newBoard(newPage(s), newLikeness(s), copies).pairs()
}
