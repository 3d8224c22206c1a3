package vault

import (
	"slices"
	"sync"

	"vault/journal"
	"vault/wire"
)

// task is one request of a batch.
type task struct {
	request wire.Request
	told    int  // what is told without asking the store; 0 if it is to be asked
	room    bool // there is room for its key, should that not be known yet
	done    bool // something was done, and record tells what
	record  journal.Record
	answer  string
}

// page is the book of one task. What it takes goes into the journal when the batch ends, by the order of the requests, not by which goroutine comes first.
type page struct {
	*common
	task *task
}

func (p page) admit() bool { return p.task.room }

func (p page) enter(r journal.Record) int {
	p.task.record, p.task.done = r, true
	return p.now()
}

// readTasks answers, too, what is told without asking the store.
func readTasks(requests []string) []task {
	tasks := make([]task, len(requests))
	for i := range tasks {
		t := &tasks[i]
		t.request, t.told = wire.Read(requests[i])
		if t.told != 0 {
			t.answer = refuse(t.told).Text()
		}
	}
	return tasks
}

// work answers tasks. It has the store to itself, so that nothing from outside comes between them, neither requests nor time.
func (s *Store) work(tasks []task, workers int) {
	s.turn.Lock()
	defer s.turn.Unlock()
	s.keepRoom(tasks)
	for rest := tasks; len(rest) > 0; {
		count := untilList(rest)
		s.askTogether(rest[:count], workers)
		if count < len(rest) {
			list := &rest[count]
			list.answer = s.listKeys(list.request.Target.Key).Text()
			count++
		}
		rest = rest[count:]
	}
	s.enterAll(tasks)
}

// enterAll writes the records of what was done. Their time is still that at which it was done: in a batch no time goes by.
func (s *Store) enterAll(tasks []task) {
	for i := range tasks {
		if t := &tasks[i]; t.done {
			s.common.enter(t.record)
		}
	}
}

// keepRoom decides ahead of the work for which keys there is room: by the order of the requests, not by which goroutine comes first. That can be told so early because a key that is not known has nothing that conditions could be about, and one that is known stays so.
func (s *Store) keepRoom(tasks []task) {
	var decided []string
	for i := range tasks {
		t := &tasks[i]
		key := t.request.Target.Key
		if !t.makesKnown() || s.knows(key) || slices.Contains(decided, key) {
			continue
		}
		t.room = s.common.admit()
		decided = append(decided, key)
	}
}

// makesKnown tells whether a task makes its key known, if it is not known yet and there is room.
func (t *task) makesKnown() bool {
	return t.told == 0 && t.request.Method == wire.Put && weigh(t.request.Ask, version{}, false) == 0
}

func (s *Store) knows(key string) bool {
	t := s.stripeOf(key)
	t.lock.Lock()
	defer t.lock.Unlock()
	return t.find(key).isKnown()
}

// untilList counts the tasks ahead of the first that is asked of all keys.
func untilList(tasks []task) int {
	for i := range tasks {
		if tasks[i].told == 0 && tasks[i].request.Target.Kind == wire.Keys {
			return i
		}
	}
	return len(tasks)
}

// askTogether answers what is asked of keys. Each goroutine has stripes of its own, and so all that is asked of a key, in its order.
func (s *Store) askTogether(tasks []task, workers int) {
	var all sync.WaitGroup
	for _, share := range s.deal(tasks, workers) {
		if len(share) > 0 {
			all.Go(func() { s.askInTurn(share) })
		}
	}
	all.Wait()
}

// deal gives each worker the tasks of its stripes.
func (s *Store) deal(tasks []task, workers int) [][]*task {
	shares := make([][]*task, workers)
	for i := range tasks {
		t := &tasks[i]
		if t.told != 0 {
			continue
		}
		worker := s.stripeNumber(t.request.Target.Key) % workers
		shares[worker] = append(shares[worker], t)
	}
	return shares
}

func (s *Store) askInTurn(share []*task) {
	for _, t := range share {
		t.answer = s.askKey(t.request, page{&s.common, t}).Text()
	}
}
