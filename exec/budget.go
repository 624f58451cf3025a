package exec

import (
	"sync"
	"sync/atomic"

	"pergola/api"
)

// budget counts nodes up to a limit, for several goroutines at one time.
type budget struct {
	limit int
	spent atomic.Int64
	done  chan struct{} // closed as soon as the nodes have run out
	once  sync.Once
}

func newBudget(nodes int) *budget {
	return &budget{limit: min(max(nodes, 0), api.MostNodes), done: make(chan struct{})}
}

// next counts one node more; false, if the nodes have run out, for this goroutine or for another.
func (b *budget) next() bool {
	if b.isOver() {
		return false
	}
	if b.spent.Add(1) > int64(b.limit) {
		b.once.Do(func() { close(b.done) })
		return false
	}
	return true
}

func (b *budget) isOver() bool {
	select {
	case <-b.done:
		return true
	default:
		return false
	}
}

func (b *budget) counted() int {
	return int(b.spent.Load())
}
