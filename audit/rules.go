package audit

import (
	"slices"

	"egress/api"
	"egress/engine"
	"egress/gwei"
	"egress/status"
)

// rule is an invariant: a condition that each state of an engine satisfies.
type rule struct {
	name  string
	holds func(s engine.Snapshot, c api.Config) bool
}

// rules returns the rules in the order of their numbers: rule 1 is at index 0.
func rules() [12]rule {
	return [12]rule{
		{"capacity", capacity},
		{"sum", sum},
		{"supply", supply},
		{"active", active},
		{"pending", pending},
		{"exits", exits},
		{"epochs", epochs},
		{"empty", empty},
		{"unbonding", unbonding},
		{"queues", queues},
		{"clock", clock},
		{"slashed", slashed},
	}
}

// capacity holds if the registry is not too long.
func capacity(s engine.Snapshot, c api.Config) bool {
	return len(s.Validators) <= c.Capacity
}

// sum holds if all that was deposited is a balance, paid or burned.
func sum(s engine.Snapshot, c api.Config) bool {
	balances, fits := total(s.Validators, anyOne)
	all, ok := gwei.Add(balances, s.Paid, s.Burned)
	return fits && ok && all == s.Deposited
}

// supply holds if the balances do not exceed the cap.
func supply(s engine.Snapshot, c api.Config) bool {
	balances, ok := total(s.Validators, anyOne)
	return ok && balances <= c.SupplyCap
}

// active holds if the active stake is what the live validators have.
func active(s engine.Snapshot, c api.Config) bool {
	stake, ok := total(s.Validators, func(v api.Validator) bool { return status.Live(v.Status) })
	return ok && stake == s.Active
}

// pending holds if the activation queue has what waits for an activation.
func pending(s engine.Snapshot, c api.Config) bool {
	return exactly(s.Pending, s.Validators, func(v api.Validator) bool { return v.Status == api.Pending })
}

// exits holds if the queues of exits have what waits for an exit epoch.
func exits(s engine.Snapshot, c api.Config) bool {
	// An append could write beyond the length of the snapshot's slice.
	queued := slices.Concat(s.Forced, s.Voluntary)
	return exactly(queued, s.Validators, func(v api.Validator) bool {
		return v.Status == api.Exiting && v.Exit == api.NoEpoch
	})
}

// epochs holds if no exit is before its request, and no balance is held too
// short.
func epochs(s engine.Snapshot, c api.Config) bool {
	return each(s.Validators, func(v api.Validator) bool {
		if v.Exit == api.NoEpoch {
			return true
		}
		// Withdraw minus Exit may be 2^63, which is no int.
		return leaving(v) && v.Exit > v.Request && v.Withdraw-c.Unbonding >= v.Exit
	})
}

// empty holds if nothing is left of a balance that was paid or moved.
func empty(s engine.Snapshot, c api.Config) bool {
	return each(s.Validators, func(v api.Validator) bool { return v.Balance == 0 || !status.Final(v.Status) })
}

// unbonding holds if the unbonding ring has as many validators as are held.
func unbonding(s engine.Snapshot, c api.Config) bool {
	return s.Unbonding == count(s.Validators, func(v api.Validator) bool {
		return v.Status == api.Unbonding || v.Status == api.Exiting && v.Exit != api.NoEpoch
	})
}

// queues holds if no queue is too long.
func queues(s engine.Snapshot, c api.Config) bool {
	longest := max(len(s.Pending), len(s.Forced), len(s.Voluntary), len(s.Merges), len(s.Partials))
	return longest <= c.QueueSize
}

// clock holds if the block is one of the epoch.
func clock(s engine.Snapshot, c api.Config) bool {
	// An invalid configuration must not cause a division by 0.
	return s.Block >= 0 && c.EpochLen >= 1 && s.Epoch == s.Block/c.EpochLen
}

// slashed holds if all slashed validators leave without the promise of a
// deadline.
func slashed(s engine.Snapshot, c api.Config) bool {
	return each(s.Validators, func(v api.Validator) bool {
		return !v.Slashed || leaving(v) && v.Deadline == api.NoEpoch
	})
}

// anyOne means all validators.
func anyOne(api.Validator) bool { return true }

// leaving means the validators that were accepted to leave, until the end.
func leaving(v api.Validator) bool {
	switch v.Status {
	case api.Exiting, api.Unbonding, api.Withdrawable, api.Paid:
		return true
	}
	return false
}

// each reports whether all validators satisfy a condition.
func each(l []api.Validator, satisfies func(api.Validator) bool) bool {
	return count(l, satisfies) == len(l)
}

// count returns how many validators are meant.
func count(l []api.Validator, meant func(api.Validator) bool) int {
	n := 0
	for _, v := range l {
		if meant(v) {
			n++
		}
	}
	return n
}

// total returns the sum of the balances of the validators that are meant, or
// false if no amount is as great as the sum.
func total(l []api.Validator, meant func(api.Validator) bool) (uint64, bool) {
	var balances []uint64
	for _, v := range l {
		if meant(v) {
			balances = append(balances, v.Balance)
		}
	}
	return gwei.Add(balances...)
}

// exactly reports whether a queue has the index of each validator that is
// meant once, and no other index.
func exactly(queue []int, l []api.Validator, meant func(api.Validator) bool) bool {
	times := map[int]int{}
	for _, i := range queue {
		times[i]++
	}
	for i, v := range l {
		if meant(v) && times[i] != 1 {
			return false
		}
	}
	// Each index that is meant occurs once, so a longer queue has others, too.
	return len(queue) == count(l, meant)
}
