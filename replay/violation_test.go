package replay

import (
	"slices"
	"testing"

	"egress/api"
	"egress/audit"
	"egress/config"
	"egress/engine"
	"egress/script"
)

// An engine violates no rule, so these tests look at one through a function that pretends that it does.

func expectViolation(t *testing.T, l []api.Op, look func(e *engine.Engine) engine.Snapshot, want int) {
	t.Helper()
	if got := violation(start(config.Default()), l, look); got != want {
		t.Errorf("the violation is at %d; want %d", got, want)
	}
}

// breaking shows a state that violates a rule, if a condition holds for the true one.
func breaking(s engine.Snapshot, is bool) engine.Snapshot {
	if is {
		s.Deposited++
	}
	return s
}

// P25.4: the index is that of the first operation after which a rule is violated, counted from 0.
func TestFirstViolation(t *testing.T) {
	l := script.Ticks(6)
	for block := 1; block <= 6; block++ {
		expectViolation(t, l, func(e *engine.Engine) engine.Snapshot {
			s := e.Snapshot()
			return breaking(s, s.Block == block)
		}, block-1)
		expectViolation(t, l, func(e *engine.Engine) engine.Snapshot {
			s := e.Snapshot()
			return breaking(s, s.Block >= block)
		}, block-1)
		expectViolation(t, l[:block], func(e *engine.Engine) engine.Snapshot {
			s := e.Snapshot()
			return breaking(s, s.Block > block)
		}, -1)
	}
}

// P25.4: the state before the first operation does not matter.
func TestNoOperation(t *testing.T) {
	always := func(e *engine.Engine) engine.Snapshot { return breaking(e.Snapshot(), true) }
	expectViolation(t, nil, always, -1)
	expectViolation(t, script.Ticks(1), always, 0)
	expectViolation(t, script.Ticks(3), func(e *engine.Engine) engine.Snapshot {
		s := e.Snapshot()
		return breaking(s, s.Block == 0)
	}, -1)
}

// P25.4: malformed and rejected operations have an index, too, and are performed.
func TestMalformedViolation(t *testing.T) {
	l := script.Decode([]byte{0, 7, 255, 2, 0, 9, 7, 9, 7, 1})
	// The ticks of the blocks 1 to 3 are at these indices.
	for block, want := range map[int]int{1: 1, 2: 4, 3: 6, 4: -1} {
		expectViolation(t, l, func(e *engine.Engine) engine.Snapshot {
			s := e.Snapshot()
			return breaking(s, s.Block == block)
		}, want)
	}
	looks := 0
	expectViolation(t, l, func(e *engine.Engine) engine.Snapshot {
		looks++
		return breaking(e.Snapshot(), looks == 3)
	}, 2)
}

// P25.4: each rule counts, with the configuration of the engine.
func TestRules(t *testing.T) {
	changes := map[int]func(s *engine.Snapshot){
		1:  func(s *engine.Snapshot) { s.Validators = slices.Repeat(s.Validators[:1], 17) },
		2:  func(s *engine.Snapshot) { s.Deposited-- },
		3:  func(s *engine.Snapshot) { s.Validators[0].Balance, s.Deposited = 1025, 1025 },
		4:  func(s *engine.Snapshot) { s.Active = 1 },
		5:  func(s *engine.Snapshot) { s.Pending = nil },
		6:  func(s *engine.Snapshot) { s.Forced = []int{0} },
		7:  func(s *engine.Snapshot) { s.Validators[0].Exit = 3 },
		8:  func(s *engine.Snapshot) { s.Validators[0].Status, s.Pending = api.Merged, nil },
		9:  func(s *engine.Snapshot) { s.Unbonding = 1 },
		10: func(s *engine.Snapshot) { s.Merges = make([][2]int, 9) },
		11: func(s *engine.Snapshot) { s.Epoch = 1 },
		12: func(s *engine.Snapshot) { s.Validators[0].Slashed = true },
	}
	if len(changes) != audit.Rules() {
		t.Fatal(audit.Rules())
	}
	l := script.Read("tick\ndeposit 32\ntick")
	for rule, change := range changes {
		look := func(e *engine.Engine) engine.Snapshot {
			s := e.Snapshot()
			if s.Block == 1 && len(s.Validators) == 1 {
				change(&s)
				if !slices.Contains(audit.All(s, e.Config()), rule) {
					t.Errorf("the rule %d is not violated: %+v", rule, s)
				}
			}
			return s
		}
		expectViolation(t, l, look, 1)
	}
}

// P25.5: without an engine there is a panic, which withEngine recovers, and the function is not called.
func TestMissingEngine(t *testing.T) {
	called := 0
	use := func(e *engine.Engine) {
		called++
		if e == nil {
			t.Error("no engine")
		}
	}
	if code := withEngine(api.Config{}, use); code != api.ErrConfig || called != 0 {
		t.Error(code, called)
	}
	if code := withEngine(config.Default(), use); code != api.OK || called != 1 {
		t.Error(code, called)
	}
	defer func() {
		if recover() == nil {
			t.Error("start has not panicked")
		}
	}()
	start(api.Config{})
}
