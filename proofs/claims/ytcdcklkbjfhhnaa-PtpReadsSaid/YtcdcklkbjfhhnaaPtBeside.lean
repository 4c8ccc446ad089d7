/- Package ptp: what a message has beside its kind's bytes. -/
import Derived.Test.YtcdcklkbjfhhnaaPtMsg
import Derived.Laws.StructEq
namespace Go.Proofs.Ytcdcklkbjfhhnaa
open Go.RowKit Go.Joins

theorem bes_a30 (dom seq src port corr time tw tp rate one cls two id steps : Int) (p : Option Addr) (n c : Nat) (w : World) (h0 : (rate != 0) = true) :
    Calls Try.prog 24 #[.agg #[.int .i64 3, .int .i64 dom, .int .i64 seq, .int .i64 src, .int .i64 port, .int .i64 corr, .int .i64 time, .int .i64 tw, .int .i64 tp, .int .i64 rate, .int .i64 one, .int .i64 cls, .int .i64 two, .int .i64 id, .int .i64 steps, .slice p n c]] w fun e w' => e = .returned (.bool true) ∧ Below w.heap.size w w' := by
  go_enter Try.func24, Try.ntmps24
  go_wp2_with fail
  go_ret
  exact ⟨rfl, bAl (bRef w) _⟩
theorem bes_a31 (dom seq src port corr time tw tp rate one cls two id steps : Int) (p : Option Addr) (n c : Nat) (w : World) (h0 : (rate != 0) = false) (h1 : (one == 0) = false) :
    Calls Try.prog 24 #[.agg #[.int .i64 3, .int .i64 dom, .int .i64 seq, .int .i64 src, .int .i64 port, .int .i64 corr, .int .i64 time, .int .i64 tw, .int .i64 tp, .int .i64 rate, .int .i64 one, .int .i64 cls, .int .i64 two, .int .i64 id, .int .i64 steps, .slice p n c]] w fun e w' => e = .returned (.bool true) ∧ Below w.heap.size w w' := by
  go_enter Try.func24, Try.ntmps24
  go_wp2_with fail
  go_ret
  exact ⟨rfl, bAl (bRef w) _⟩
theorem bes_a32 (dom seq src port corr time tw tp rate one cls two id steps : Int) (p : Option Addr) (n c : Nat) (w : World) (h0 : (rate != 0) = false) (h1 : (one == 0) = true) (h2 : (cls == 0) = false) :
    Calls Try.prog 24 #[.agg #[.int .i64 3, .int .i64 dom, .int .i64 seq, .int .i64 src, .int .i64 port, .int .i64 corr, .int .i64 time, .int .i64 tw, .int .i64 tp, .int .i64 rate, .int .i64 one, .int .i64 cls, .int .i64 two, .int .i64 id, .int .i64 steps, .slice p n c]] w fun e w' => e = .returned (.bool true) ∧ Below w.heap.size w w' := by
  go_enter Try.func24, Try.ntmps24
  go_wp2_with fail
  go_ret
  exact ⟨rfl, bAl (bRef w) _⟩
theorem bes_a33 (dom seq src port corr time tw tp rate one cls two id steps : Int) (p : Option Addr) (n c : Nat) (w : World) (h0 : (rate != 0) = false) (h1 : (one == 0) = true) (h2 : (cls == 0) = true) (h3 : (two == 0) = false) :
    Calls Try.prog 24 #[.agg #[.int .i64 3, .int .i64 dom, .int .i64 seq, .int .i64 src, .int .i64 port, .int .i64 corr, .int .i64 time, .int .i64 tw, .int .i64 tp, .int .i64 rate, .int .i64 one, .int .i64 cls, .int .i64 two, .int .i64 id, .int .i64 steps, .slice p n c]] w fun e w' => e = .returned (.bool true) ∧ Below w.heap.size w w' := by
  go_enter Try.func24, Try.ntmps24
  go_wp2_with fail
  go_ret
  exact ⟨rfl, bAl (bRef w) _⟩
theorem bes_a34 (dom seq src port corr time tw tp rate one cls two id steps : Int) (p : Option Addr) (n c : Nat) (w : World) (h0 : (rate != 0) = false) (h1 : (one == 0) = true) (h2 : (cls == 0) = true) (h3 : (two == 0) = true) (h4 : (id == 0) = false) :
    Calls Try.prog 24 #[.agg #[.int .i64 3, .int .i64 dom, .int .i64 seq, .int .i64 src, .int .i64 port, .int .i64 corr, .int .i64 time, .int .i64 tw, .int .i64 tp, .int .i64 rate, .int .i64 one, .int .i64 cls, .int .i64 two, .int .i64 id, .int .i64 steps, .slice p n c]] w fun e w' => e = .returned (.bool true) ∧ Below w.heap.size w w' := by
  go_enter Try.func24, Try.ntmps24
  go_wp2_with fail
  go_ret
  exact ⟨rfl, bAl (bRef w) _⟩
theorem bes_a35 (dom seq src port corr time tw tp rate one cls two id steps : Int) (p : Option Addr) (n c : Nat) (w : World) (h0 : (rate != 0) = false) (h1 : (one == 0) = true) (h2 : (cls == 0) = true) (h3 : (two == 0) = true) (h4 : (id == 0) = true) (h5 : (steps != 0) = true) :
    Calls Try.prog 24 #[.agg #[.int .i64 3, .int .i64 dom, .int .i64 seq, .int .i64 src, .int .i64 port, .int .i64 corr, .int .i64 time, .int .i64 tw, .int .i64 tp, .int .i64 rate, .int .i64 one, .int .i64 cls, .int .i64 two, .int .i64 id, .int .i64 steps, .slice p n c]] w fun e w' => e = .returned (.bool true) ∧ Below w.heap.size w w' := by
  go_enter Try.func24, Try.ntmps24
  go_wp2_with fail
  go_ret
  exact ⟨rfl, bAl (bRef w) _⟩
theorem bes_a36 (dom seq src port corr time tw tp rate one cls two id steps : Int) (p : Option Addr) (n c : Nat) (w : World) (h0 : (rate != 0) = false) (h1 : (one == 0) = true) (h2 : (cls == 0) = true) (h3 : (two == 0) = true) (h4 : (id == 0) = true) (h5 : (steps != 0) = false) (h6 : 0 < n) :
    Calls Try.prog 24 #[.agg #[.int .i64 3, .int .i64 dom, .int .i64 seq, .int .i64 src, .int .i64 port, .int .i64 corr, .int .i64 time, .int .i64 tw, .int .i64 tp, .int .i64 rate, .int .i64 one, .int .i64 cls, .int .i64 two, .int .i64 id, .int .i64 steps, .slice p n c]] w fun e w' => e = .returned (.bool true) ∧ Below w.heap.size w w' := by
  go_enter Try.func24, Try.ntmps24
  go_wp2_with fail
  go_ret
  exact ⟨rfl, bAl (bRef w) _⟩
theorem bes_a37 (dom seq src port corr time tw tp rate one cls two id steps : Int) (p : Option Addr) (n c : Nat) (w : World) (h0 : (rate != 0) = false) (h1 : (one == 0) = true) (h2 : (cls == 0) = true) (h3 : (two == 0) = true) (h4 : (id == 0) = true) (h5 : (steps != 0) = false) (h6 : ¬ 0 < n) :
    Calls Try.prog 24 #[.agg #[.int .i64 3, .int .i64 dom, .int .i64 seq, .int .i64 src, .int .i64 port, .int .i64 corr, .int .i64 time, .int .i64 tw, .int .i64 tp, .int .i64 rate, .int .i64 one, .int .i64 cls, .int .i64 two, .int .i64 id, .int .i64 steps, .slice p n c]] w fun e w' => e = .returned (.bool false) ∧ Below w.heap.size w w' := by
  go_enter Try.func24, Try.ntmps24
  go_wp2_with fail
  go_ret
  exact ⟨rfl, bAl (bRef w) _⟩
theorem bes_a100 (dom seq src port corr time tw tp rate one cls two id steps : Int) (p : Option Addr) (n c : Nat) (w : World) (h0 : (rate != 0) = true) :
    Calls Try.prog 24 #[.agg #[.int .i64 10, .int .i64 dom, .int .i64 seq, .int .i64 src, .int .i64 port, .int .i64 corr, .int .i64 time, .int .i64 tw, .int .i64 tp, .int .i64 rate, .int .i64 one, .int .i64 cls, .int .i64 two, .int .i64 id, .int .i64 steps, .slice p n c]] w fun e w' => e = .returned (.bool true) ∧ Below w.heap.size w w' := by
  go_enter Try.func24, Try.ntmps24
  go_wp2_with fail
  go_ret
  exact ⟨rfl, bAl (bRef w) _⟩
theorem bes_a101 (dom seq src port corr time tw tp rate one cls two id steps : Int) (p : Option Addr) (n c : Nat) (w : World) (h0 : (rate != 0) = false) (h1 : (one == 0) = false) :
    Calls Try.prog 24 #[.agg #[.int .i64 10, .int .i64 dom, .int .i64 seq, .int .i64 src, .int .i64 port, .int .i64 corr, .int .i64 time, .int .i64 tw, .int .i64 tp, .int .i64 rate, .int .i64 one, .int .i64 cls, .int .i64 two, .int .i64 id, .int .i64 steps, .slice p n c]] w fun e w' => e = .returned (.bool true) ∧ Below w.heap.size w w' := by
  go_enter Try.func24, Try.ntmps24
  go_wp2_with fail
  go_ret
  exact ⟨rfl, bAl (bRef w) _⟩
theorem bes_a102 (dom seq src port corr time tw tp rate one cls two id steps : Int) (p : Option Addr) (n c : Nat) (w : World) (h0 : (rate != 0) = false) (h1 : (one == 0) = true) (h2 : (cls == 0) = false) :
    Calls Try.prog 24 #[.agg #[.int .i64 10, .int .i64 dom, .int .i64 seq, .int .i64 src, .int .i64 port, .int .i64 corr, .int .i64 time, .int .i64 tw, .int .i64 tp, .int .i64 rate, .int .i64 one, .int .i64 cls, .int .i64 two, .int .i64 id, .int .i64 steps, .slice p n c]] w fun e w' => e = .returned (.bool true) ∧ Below w.heap.size w w' := by
  go_enter Try.func24, Try.ntmps24
  go_wp2_with fail
  go_ret
  exact ⟨rfl, bAl (bRef w) _⟩
theorem bes_a103 (dom seq src port corr time tw tp rate one cls two id steps : Int) (p : Option Addr) (n c : Nat) (w : World) (h0 : (rate != 0) = false) (h1 : (one == 0) = true) (h2 : (cls == 0) = true) (h3 : (two == 0) = false) :
    Calls Try.prog 24 #[.agg #[.int .i64 10, .int .i64 dom, .int .i64 seq, .int .i64 src, .int .i64 port, .int .i64 corr, .int .i64 time, .int .i64 tw, .int .i64 tp, .int .i64 rate, .int .i64 one, .int .i64 cls, .int .i64 two, .int .i64 id, .int .i64 steps, .slice p n c]] w fun e w' => e = .returned (.bool true) ∧ Below w.heap.size w w' := by
  go_enter Try.func24, Try.ntmps24
  go_wp2_with fail
  go_ret
  exact ⟨rfl, bAl (bRef w) _⟩
theorem bes_a104 (dom seq src port corr time tw tp rate one cls two id steps : Int) (p : Option Addr) (n c : Nat) (w : World) (h0 : (rate != 0) = false) (h1 : (one == 0) = true) (h2 : (cls == 0) = true) (h3 : (two == 0) = true) (h4 : (id == 0) = false) :
    Calls Try.prog 24 #[.agg #[.int .i64 10, .int .i64 dom, .int .i64 seq, .int .i64 src, .int .i64 port, .int .i64 corr, .int .i64 time, .int .i64 tw, .int .i64 tp, .int .i64 rate, .int .i64 one, .int .i64 cls, .int .i64 two, .int .i64 id, .int .i64 steps, .slice p n c]] w fun e w' => e = .returned (.bool true) ∧ Below w.heap.size w w' := by
  go_enter Try.func24, Try.ntmps24
  go_wp2_with fail
  go_ret
  exact ⟨rfl, bAl (bRef w) _⟩
theorem bes_a105 (dom seq src port corr time tw tp rate one cls two id steps : Int) (p : Option Addr) (n c : Nat) (w : World) (h0 : (rate != 0) = false) (h1 : (one == 0) = true) (h2 : (cls == 0) = true) (h3 : (two == 0) = true) (h4 : (id == 0) = true) (h5 : (steps != 0) = true) :
    Calls Try.prog 24 #[.agg #[.int .i64 10, .int .i64 dom, .int .i64 seq, .int .i64 src, .int .i64 port, .int .i64 corr, .int .i64 time, .int .i64 tw, .int .i64 tp, .int .i64 rate, .int .i64 one, .int .i64 cls, .int .i64 two, .int .i64 id, .int .i64 steps, .slice p n c]] w fun e w' => e = .returned (.bool true) ∧ Below w.heap.size w w' := by
  go_enter Try.func24, Try.ntmps24
  go_wp2_with fail
  go_ret
  exact ⟨rfl, bAl (bRef w) _⟩
theorem bes_a106 (dom seq src port corr time tw tp rate one cls two id steps : Int) (p : Option Addr) (n c : Nat) (w : World) (h0 : (rate != 0) = false) (h1 : (one == 0) = true) (h2 : (cls == 0) = true) (h3 : (two == 0) = true) (h4 : (id == 0) = true) (h5 : (steps != 0) = false) (h6 : 0 < n) :
    Calls Try.prog 24 #[.agg #[.int .i64 10, .int .i64 dom, .int .i64 seq, .int .i64 src, .int .i64 port, .int .i64 corr, .int .i64 time, .int .i64 tw, .int .i64 tp, .int .i64 rate, .int .i64 one, .int .i64 cls, .int .i64 two, .int .i64 id, .int .i64 steps, .slice p n c]] w fun e w' => e = .returned (.bool true) ∧ Below w.heap.size w w' := by
  go_enter Try.func24, Try.ntmps24
  go_wp2_with fail
  go_ret
  exact ⟨rfl, bAl (bRef w) _⟩
theorem bes_a107 (dom seq src port corr time tw tp rate one cls two id steps : Int) (p : Option Addr) (n c : Nat) (w : World) (h0 : (rate != 0) = false) (h1 : (one == 0) = true) (h2 : (cls == 0) = true) (h3 : (two == 0) = true) (h4 : (id == 0) = true) (h5 : (steps != 0) = false) (h6 : ¬ 0 < n) :
    Calls Try.prog 24 #[.agg #[.int .i64 10, .int .i64 dom, .int .i64 seq, .int .i64 src, .int .i64 port, .int .i64 corr, .int .i64 time, .int .i64 tw, .int .i64 tp, .int .i64 rate, .int .i64 one, .int .i64 cls, .int .i64 two, .int .i64 id, .int .i64 steps, .slice p n c]] w fun e w' => e = .returned (.bool false) ∧ Below w.heap.size w w' := by
  go_enter Try.func24, Try.ntmps24
  go_wp2_with fail
  go_ret
  exact ⟨rfl, bAl (bRef w) _⟩
theorem bes_b0 (dom seq src port corr time tw tp rate one cls two id steps : Int) (p : Option Addr) (n c : Nat) (w : World) (h0 : (tw != 0) = true) :
    Calls Try.prog 24 #[.agg #[.int .i64 8, .int .i64 dom, .int .i64 seq, .int .i64 src, .int .i64 port, .int .i64 corr, .int .i64 time, .int .i64 tw, .int .i64 tp, .int .i64 rate, .int .i64 one, .int .i64 cls, .int .i64 two, .int .i64 id, .int .i64 steps, .slice p n c]] w fun e w' => e = .returned (.bool true) ∧ Below w.heap.size w w' := by
  go_enter Try.func24, Try.ntmps24
  go_wp2_with fail
  go_ret
  exact ⟨rfl, bAl (bRef w) _⟩
theorem bes_b1 (dom seq src port corr time tw tp rate one cls two id steps : Int) (p : Option Addr) (n c : Nat) (w : World) (h0 : (tw != 0) = false) (h1 : (tp != 0) = true) :
    Calls Try.prog 24 #[.agg #[.int .i64 8, .int .i64 dom, .int .i64 seq, .int .i64 src, .int .i64 port, .int .i64 corr, .int .i64 time, .int .i64 tw, .int .i64 tp, .int .i64 rate, .int .i64 one, .int .i64 cls, .int .i64 two, .int .i64 id, .int .i64 steps, .slice p n c]] w fun e w' => e = .returned (.bool true) ∧ Below w.heap.size w w' := by
  go_enter Try.func24, Try.ntmps24
  go_wp2_with fail
  go_ret
  exact ⟨rfl, bAl (bRef w) _⟩
theorem bes_b2 (dom seq src port corr time tw tp rate one cls two id steps : Int) (p : Option Addr) (n c : Nat) (w : World) (h0 : (tw != 0) = false) (h1 : (tp != 0) = false) (h2 : (one == 0) = false) :
    Calls Try.prog 24 #[.agg #[.int .i64 8, .int .i64 dom, .int .i64 seq, .int .i64 src, .int .i64 port, .int .i64 corr, .int .i64 time, .int .i64 tw, .int .i64 tp, .int .i64 rate, .int .i64 one, .int .i64 cls, .int .i64 two, .int .i64 id, .int .i64 steps, .slice p n c]] w fun e w' => e = .returned (.bool true) ∧ Below w.heap.size w w' := by
  go_enter Try.func24, Try.ntmps24
  go_wp2_with fail
  go_ret
  exact ⟨rfl, bAl (bRef w) _⟩
theorem bes_b3 (dom seq src port corr time tw tp rate one cls two id steps : Int) (p : Option Addr) (n c : Nat) (w : World) (h0 : (tw != 0) = false) (h1 : (tp != 0) = false) (h2 : (one == 0) = true) (h3 : (cls == 0) = false) :
    Calls Try.prog 24 #[.agg #[.int .i64 8, .int .i64 dom, .int .i64 seq, .int .i64 src, .int .i64 port, .int .i64 corr, .int .i64 time, .int .i64 tw, .int .i64 tp, .int .i64 rate, .int .i64 one, .int .i64 cls, .int .i64 two, .int .i64 id, .int .i64 steps, .slice p n c]] w fun e w' => e = .returned (.bool true) ∧ Below w.heap.size w w' := by
  go_enter Try.func24, Try.ntmps24
  go_wp2_with fail
  go_ret
  exact ⟨rfl, bAl (bRef w) _⟩
theorem bes_b4 (dom seq src port corr time tw tp rate one cls two id steps : Int) (p : Option Addr) (n c : Nat) (w : World) (h0 : (tw != 0) = false) (h1 : (tp != 0) = false) (h2 : (one == 0) = true) (h3 : (cls == 0) = true) (h4 : (two == 0) = false) :
    Calls Try.prog 24 #[.agg #[.int .i64 8, .int .i64 dom, .int .i64 seq, .int .i64 src, .int .i64 port, .int .i64 corr, .int .i64 time, .int .i64 tw, .int .i64 tp, .int .i64 rate, .int .i64 one, .int .i64 cls, .int .i64 two, .int .i64 id, .int .i64 steps, .slice p n c]] w fun e w' => e = .returned (.bool true) ∧ Below w.heap.size w w' := by
  go_enter Try.func24, Try.ntmps24
  go_wp2_with fail
  go_ret
  exact ⟨rfl, bAl (bRef w) _⟩
theorem bes_b5 (dom seq src port corr time tw tp rate one cls two id steps : Int) (p : Option Addr) (n c : Nat) (w : World) (h0 : (tw != 0) = false) (h1 : (tp != 0) = false) (h2 : (one == 0) = true) (h3 : (cls == 0) = true) (h4 : (two == 0) = true) (h5 : (id == 0) = false) :
    Calls Try.prog 24 #[.agg #[.int .i64 8, .int .i64 dom, .int .i64 seq, .int .i64 src, .int .i64 port, .int .i64 corr, .int .i64 time, .int .i64 tw, .int .i64 tp, .int .i64 rate, .int .i64 one, .int .i64 cls, .int .i64 two, .int .i64 id, .int .i64 steps, .slice p n c]] w fun e w' => e = .returned (.bool true) ∧ Below w.heap.size w w' := by
  go_enter Try.func24, Try.ntmps24
  go_wp2_with fail
  go_ret
  exact ⟨rfl, bAl (bRef w) _⟩
theorem bes_b6 (dom seq src port corr time tw tp rate one cls two id steps : Int) (p : Option Addr) (n c : Nat) (w : World) (h0 : (tw != 0) = false) (h1 : (tp != 0) = false) (h2 : (one == 0) = true) (h3 : (cls == 0) = true) (h4 : (two == 0) = true) (h5 : (id == 0) = true) (h6 : (steps != 0) = true) :
    Calls Try.prog 24 #[.agg #[.int .i64 8, .int .i64 dom, .int .i64 seq, .int .i64 src, .int .i64 port, .int .i64 corr, .int .i64 time, .int .i64 tw, .int .i64 tp, .int .i64 rate, .int .i64 one, .int .i64 cls, .int .i64 two, .int .i64 id, .int .i64 steps, .slice p n c]] w fun e w' => e = .returned (.bool true) ∧ Below w.heap.size w w' := by
  go_enter Try.func24, Try.ntmps24
  go_wp2_with fail
  go_ret
  exact ⟨rfl, bAl (bRef w) _⟩
theorem bes_b7 (dom seq src port corr time tw tp rate one cls two id steps : Int) (p : Option Addr) (n c : Nat) (w : World) (h0 : (tw != 0) = false) (h1 : (tp != 0) = false) (h2 : (one == 0) = true) (h3 : (cls == 0) = true) (h4 : (two == 0) = true) (h5 : (id == 0) = true) (h6 : (steps != 0) = false) (h7 : 0 < n) :
    Calls Try.prog 24 #[.agg #[.int .i64 8, .int .i64 dom, .int .i64 seq, .int .i64 src, .int .i64 port, .int .i64 corr, .int .i64 time, .int .i64 tw, .int .i64 tp, .int .i64 rate, .int .i64 one, .int .i64 cls, .int .i64 two, .int .i64 id, .int .i64 steps, .slice p n c]] w fun e w' => e = .returned (.bool true) ∧ Below w.heap.size w w' := by
  go_enter Try.func24, Try.ntmps24
  go_wp2_with fail
  go_ret
  exact ⟨rfl, bAl (bRef w) _⟩
theorem bes_b8 (dom seq src port corr time tw tp rate one cls two id steps : Int) (p : Option Addr) (n c : Nat) (w : World) (h0 : (tw != 0) = false) (h1 : (tp != 0) = false) (h2 : (one == 0) = true) (h3 : (cls == 0) = true) (h4 : (two == 0) = true) (h5 : (id == 0) = true) (h6 : (steps != 0) = false) (h7 : ¬ 0 < n) :
    Calls Try.prog 24 #[.agg #[.int .i64 8, .int .i64 dom, .int .i64 seq, .int .i64 src, .int .i64 port, .int .i64 corr, .int .i64 time, .int .i64 tw, .int .i64 tp, .int .i64 rate, .int .i64 one, .int .i64 cls, .int .i64 two, .int .i64 id, .int .i64 steps, .slice p n c]] w fun e w' => e = .returned (.bool false) ∧ Below w.heap.size w w' := by
  go_enter Try.func24, Try.ntmps24
  go_wp2_with fail
  go_ret
  exact ⟨rfl, bAl (bRef w) _⟩
theorem bes_c0 (dom seq src port corr time tw tp rate one cls two id steps : Int) (p : Option Addr) (n c : Nat) (w : World) (h0 : (time != 0) = true) :
    Calls Try.prog 24 #[.agg #[.int .i64 11, .int .i64 dom, .int .i64 seq, .int .i64 src, .int .i64 port, .int .i64 corr, .int .i64 time, .int .i64 tw, .int .i64 tp, .int .i64 rate, .int .i64 one, .int .i64 cls, .int .i64 two, .int .i64 id, .int .i64 steps, .slice p n c]] w fun e w' => e = .returned (.bool true) ∧ Below w.heap.size w w' := by
  go_enter Try.func24, Try.ntmps24
  go_wp2_with fail
  go_ret
  exact ⟨rfl, bAl (bRef w) _⟩
theorem bes_c1 (dom seq src port corr time tw tp rate one cls two id steps : Int) (p : Option Addr) (n c : Nat) (w : World) (h0 : (time != 0) = false) (h1 : (tw != 0) = true) :
    Calls Try.prog 24 #[.agg #[.int .i64 11, .int .i64 dom, .int .i64 seq, .int .i64 src, .int .i64 port, .int .i64 corr, .int .i64 time, .int .i64 tw, .int .i64 tp, .int .i64 rate, .int .i64 one, .int .i64 cls, .int .i64 two, .int .i64 id, .int .i64 steps, .slice p n c]] w fun e w' => e = .returned (.bool true) ∧ Below w.heap.size w w' := by
  go_enter Try.func24, Try.ntmps24
  go_wp2_with fail
  go_ret
  exact ⟨rfl, bAl (bRef w) _⟩
theorem bes_c2 (dom seq src port corr time tw tp rate one cls two id steps : Int) (p : Option Addr) (n c : Nat) (w : World) (h0 : (time != 0) = false) (h1 : (tw != 0) = false) (h2 : (tp != 0) = true) :
    Calls Try.prog 24 #[.agg #[.int .i64 11, .int .i64 dom, .int .i64 seq, .int .i64 src, .int .i64 port, .int .i64 corr, .int .i64 time, .int .i64 tw, .int .i64 tp, .int .i64 rate, .int .i64 one, .int .i64 cls, .int .i64 two, .int .i64 id, .int .i64 steps, .slice p n c]] w fun e w' => e = .returned (.bool true) ∧ Below w.heap.size w w' := by
  go_enter Try.func24, Try.ntmps24
  go_wp2_with fail
  go_ret
  exact ⟨rfl, bAl (bRef w) _⟩
theorem bes_c3 (dom seq src port corr time tw tp rate one cls two id steps : Int) (p : Option Addr) (n c : Nat) (w : World) (h0 : (time != 0) = false) (h1 : (tw != 0) = false) (h2 : (tp != 0) = false) (h3 : (rate != 0) = true) :
    Calls Try.prog 24 #[.agg #[.int .i64 11, .int .i64 dom, .int .i64 seq, .int .i64 src, .int .i64 port, .int .i64 corr, .int .i64 time, .int .i64 tw, .int .i64 tp, .int .i64 rate, .int .i64 one, .int .i64 cls, .int .i64 two, .int .i64 id, .int .i64 steps, .slice p n c]] w fun e w' => e = .returned (.bool true) ∧ Below w.heap.size w w' := by
  go_enter Try.func24, Try.ntmps24
  go_wp2_with fail
  go_ret
  exact ⟨rfl, bAl (bRef w) _⟩
theorem bes_c4 (dom seq src port corr time tw tp rate one cls two id steps : Int) (p : Option Addr) (n c : Nat) (w : World) (h0 : (time != 0) = false) (h1 : (tw != 0) = false) (h2 : (tp != 0) = false) (h3 : (rate != 0) = false) :
    Calls Try.prog 24 #[.agg #[.int .i64 11, .int .i64 dom, .int .i64 seq, .int .i64 src, .int .i64 port, .int .i64 corr, .int .i64 time, .int .i64 tw, .int .i64 tp, .int .i64 rate, .int .i64 one, .int .i64 cls, .int .i64 two, .int .i64 id, .int .i64 steps, .slice p n c]] w fun e w' => e = .returned (.bool false) ∧ Below w.heap.size w w' := by
  go_enter Try.func24, Try.ntmps24
  go_wp2_with fail
  go_ret
  exact ⟨rfl, bAl (bRef w) _⟩
theorem bes_d0 (kind dom seq src port corr time tw tp rate one cls two id steps : Int) (p : Option Addr) (n c : Nat) (w : World) (h0 : (kind == 3) = false) (h1 : (kind == 10) = false) (h2 : (kind == 8) = false) (h3 : (kind == 11) = false) (h4 : (time != 0) = true) :
    Calls Try.prog 24 #[.agg #[.int .i64 kind, .int .i64 dom, .int .i64 seq, .int .i64 src, .int .i64 port, .int .i64 corr, .int .i64 time, .int .i64 tw, .int .i64 tp, .int .i64 rate, .int .i64 one, .int .i64 cls, .int .i64 two, .int .i64 id, .int .i64 steps, .slice p n c]] w fun e w' => e = .returned (.bool true) ∧ Below w.heap.size w w' := by
  go_enter Try.func24, Try.ntmps24
  go_wp2_with fail
  go_ret
  exact ⟨rfl, bAl (bRef w) _⟩
theorem bes_d1 (kind dom seq src port corr time tw tp rate one cls two id steps : Int) (p : Option Addr) (n c : Nat) (w : World) (h0 : (kind == 3) = false) (h1 : (kind == 10) = false) (h2 : (kind == 8) = false) (h3 : (kind == 11) = false) (h4 : (time != 0) = false) (h5 : (tw != 0) = true) :
    Calls Try.prog 24 #[.agg #[.int .i64 kind, .int .i64 dom, .int .i64 seq, .int .i64 src, .int .i64 port, .int .i64 corr, .int .i64 time, .int .i64 tw, .int .i64 tp, .int .i64 rate, .int .i64 one, .int .i64 cls, .int .i64 two, .int .i64 id, .int .i64 steps, .slice p n c]] w fun e w' => e = .returned (.bool true) ∧ Below w.heap.size w w' := by
  go_enter Try.func24, Try.ntmps24
  go_wp2_with fail
  go_ret
  exact ⟨rfl, bAl (bRef w) _⟩
theorem bes_d2 (kind dom seq src port corr time tw tp rate one cls two id steps : Int) (p : Option Addr) (n c : Nat) (w : World) (h0 : (kind == 3) = false) (h1 : (kind == 10) = false) (h2 : (kind == 8) = false) (h3 : (kind == 11) = false) (h4 : (time != 0) = false) (h5 : (tw != 0) = false) (h6 : (tp != 0) = true) :
    Calls Try.prog 24 #[.agg #[.int .i64 kind, .int .i64 dom, .int .i64 seq, .int .i64 src, .int .i64 port, .int .i64 corr, .int .i64 time, .int .i64 tw, .int .i64 tp, .int .i64 rate, .int .i64 one, .int .i64 cls, .int .i64 two, .int .i64 id, .int .i64 steps, .slice p n c]] w fun e w' => e = .returned (.bool true) ∧ Below w.heap.size w w' := by
  go_enter Try.func24, Try.ntmps24
  go_wp2_with fail
  go_ret
  exact ⟨rfl, bAl (bRef w) _⟩
theorem bes_d3 (kind dom seq src port corr time tw tp rate one cls two id steps : Int) (p : Option Addr) (n c : Nat) (w : World) (h0 : (kind == 3) = false) (h1 : (kind == 10) = false) (h2 : (kind == 8) = false) (h3 : (kind == 11) = false) (h4 : (time != 0) = false) (h5 : (tw != 0) = false) (h6 : (tp != 0) = false) (h7 : (rate != 0) = true) :
    Calls Try.prog 24 #[.agg #[.int .i64 kind, .int .i64 dom, .int .i64 seq, .int .i64 src, .int .i64 port, .int .i64 corr, .int .i64 time, .int .i64 tw, .int .i64 tp, .int .i64 rate, .int .i64 one, .int .i64 cls, .int .i64 two, .int .i64 id, .int .i64 steps, .slice p n c]] w fun e w' => e = .returned (.bool true) ∧ Below w.heap.size w w' := by
  go_enter Try.func24, Try.ntmps24
  go_wp2_with fail
  go_ret
  exact ⟨rfl, bAl (bRef w) _⟩
theorem bes_d4 (kind dom seq src port corr time tw tp rate one cls two id steps : Int) (p : Option Addr) (n c : Nat) (w : World) (h0 : (kind == 3) = false) (h1 : (kind == 10) = false) (h2 : (kind == 8) = false) (h3 : (kind == 11) = false) (h4 : (time != 0) = false) (h5 : (tw != 0) = false) (h6 : (tp != 0) = false) (h7 : (rate != 0) = false) (h8 : (one == 0) = false) :
    Calls Try.prog 24 #[.agg #[.int .i64 kind, .int .i64 dom, .int .i64 seq, .int .i64 src, .int .i64 port, .int .i64 corr, .int .i64 time, .int .i64 tw, .int .i64 tp, .int .i64 rate, .int .i64 one, .int .i64 cls, .int .i64 two, .int .i64 id, .int .i64 steps, .slice p n c]] w fun e w' => e = .returned (.bool true) ∧ Below w.heap.size w w' := by
  go_enter Try.func24, Try.ntmps24
  go_wp2_with fail
  go_ret
  exact ⟨rfl, bAl (bRef w) _⟩
theorem bes_d5 (kind dom seq src port corr time tw tp rate one cls two id steps : Int) (p : Option Addr) (n c : Nat) (w : World) (h0 : (kind == 3) = false) (h1 : (kind == 10) = false) (h2 : (kind == 8) = false) (h3 : (kind == 11) = false) (h4 : (time != 0) = false) (h5 : (tw != 0) = false) (h6 : (tp != 0) = false) (h7 : (rate != 0) = false) (h8 : (one == 0) = true) (h9 : (cls == 0) = false) :
    Calls Try.prog 24 #[.agg #[.int .i64 kind, .int .i64 dom, .int .i64 seq, .int .i64 src, .int .i64 port, .int .i64 corr, .int .i64 time, .int .i64 tw, .int .i64 tp, .int .i64 rate, .int .i64 one, .int .i64 cls, .int .i64 two, .int .i64 id, .int .i64 steps, .slice p n c]] w fun e w' => e = .returned (.bool true) ∧ Below w.heap.size w w' := by
  go_enter Try.func24, Try.ntmps24
  go_wp2_with fail
  go_ret
  exact ⟨rfl, bAl (bRef w) _⟩
theorem bes_d6 (kind dom seq src port corr time tw tp rate one cls two id steps : Int) (p : Option Addr) (n c : Nat) (w : World) (h0 : (kind == 3) = false) (h1 : (kind == 10) = false) (h2 : (kind == 8) = false) (h3 : (kind == 11) = false) (h4 : (time != 0) = false) (h5 : (tw != 0) = false) (h6 : (tp != 0) = false) (h7 : (rate != 0) = false) (h8 : (one == 0) = true) (h9 : (cls == 0) = true) (h10 : (two == 0) = false) :
    Calls Try.prog 24 #[.agg #[.int .i64 kind, .int .i64 dom, .int .i64 seq, .int .i64 src, .int .i64 port, .int .i64 corr, .int .i64 time, .int .i64 tw, .int .i64 tp, .int .i64 rate, .int .i64 one, .int .i64 cls, .int .i64 two, .int .i64 id, .int .i64 steps, .slice p n c]] w fun e w' => e = .returned (.bool true) ∧ Below w.heap.size w w' := by
  go_enter Try.func24, Try.ntmps24
  go_wp2_with fail
  go_ret
  exact ⟨rfl, bAl (bRef w) _⟩
theorem bes_d7 (kind dom seq src port corr time tw tp rate one cls two id steps : Int) (p : Option Addr) (n c : Nat) (w : World) (h0 : (kind == 3) = false) (h1 : (kind == 10) = false) (h2 : (kind == 8) = false) (h3 : (kind == 11) = false) (h4 : (time != 0) = false) (h5 : (tw != 0) = false) (h6 : (tp != 0) = false) (h7 : (rate != 0) = false) (h8 : (one == 0) = true) (h9 : (cls == 0) = true) (h10 : (two == 0) = true) (h11 : (id == 0) = false) :
    Calls Try.prog 24 #[.agg #[.int .i64 kind, .int .i64 dom, .int .i64 seq, .int .i64 src, .int .i64 port, .int .i64 corr, .int .i64 time, .int .i64 tw, .int .i64 tp, .int .i64 rate, .int .i64 one, .int .i64 cls, .int .i64 two, .int .i64 id, .int .i64 steps, .slice p n c]] w fun e w' => e = .returned (.bool true) ∧ Below w.heap.size w w' := by
  go_enter Try.func24, Try.ntmps24
  go_wp2_with fail
  go_ret
  exact ⟨rfl, bAl (bRef w) _⟩
theorem bes_d8 (kind dom seq src port corr time tw tp rate one cls two id steps : Int) (p : Option Addr) (n c : Nat) (w : World) (h0 : (kind == 3) = false) (h1 : (kind == 10) = false) (h2 : (kind == 8) = false) (h3 : (kind == 11) = false) (h4 : (time != 0) = false) (h5 : (tw != 0) = false) (h6 : (tp != 0) = false) (h7 : (rate != 0) = false) (h8 : (one == 0) = true) (h9 : (cls == 0) = true) (h10 : (two == 0) = true) (h11 : (id == 0) = true) (h12 : (steps != 0) = true) :
    Calls Try.prog 24 #[.agg #[.int .i64 kind, .int .i64 dom, .int .i64 seq, .int .i64 src, .int .i64 port, .int .i64 corr, .int .i64 time, .int .i64 tw, .int .i64 tp, .int .i64 rate, .int .i64 one, .int .i64 cls, .int .i64 two, .int .i64 id, .int .i64 steps, .slice p n c]] w fun e w' => e = .returned (.bool true) ∧ Below w.heap.size w w' := by
  go_enter Try.func24, Try.ntmps24
  go_wp2_with fail
  go_ret
  exact ⟨rfl, bAl (bRef w) _⟩
theorem bes_d9 (kind dom seq src port corr time tw tp rate one cls two id steps : Int) (p : Option Addr) (n c : Nat) (w : World) (h0 : (kind == 3) = false) (h1 : (kind == 10) = false) (h2 : (kind == 8) = false) (h3 : (kind == 11) = false) (h4 : (time != 0) = false) (h5 : (tw != 0) = false) (h6 : (tp != 0) = false) (h7 : (rate != 0) = false) (h8 : (one == 0) = true) (h9 : (cls == 0) = true) (h10 : (two == 0) = true) (h11 : (id == 0) = true) (h12 : (steps != 0) = false) (h13 : 0 < n) :
    Calls Try.prog 24 #[.agg #[.int .i64 kind, .int .i64 dom, .int .i64 seq, .int .i64 src, .int .i64 port, .int .i64 corr, .int .i64 time, .int .i64 tw, .int .i64 tp, .int .i64 rate, .int .i64 one, .int .i64 cls, .int .i64 two, .int .i64 id, .int .i64 steps, .slice p n c]] w fun e w' => e = .returned (.bool true) ∧ Below w.heap.size w w' := by
  go_enter Try.func24, Try.ntmps24
  go_wp2_with fail
  go_ret
  exact ⟨rfl, bAl (bRef w) _⟩
theorem bes_d10 (kind dom seq src port corr time tw tp rate one cls two id steps : Int) (p : Option Addr) (n c : Nat) (w : World) (h0 : (kind == 3) = false) (h1 : (kind == 10) = false) (h2 : (kind == 8) = false) (h3 : (kind == 11) = false) (h4 : (time != 0) = false) (h5 : (tw != 0) = false) (h6 : (tp != 0) = false) (h7 : (rate != 0) = false) (h8 : (one == 0) = true) (h9 : (cls == 0) = true) (h10 : (two == 0) = true) (h11 : (id == 0) = true) (h12 : (steps != 0) = false) (h13 : ¬ 0 < n) :
    Calls Try.prog 24 #[.agg #[.int .i64 kind, .int .i64 dom, .int .i64 seq, .int .i64 src, .int .i64 port, .int .i64 corr, .int .i64 time, .int .i64 tw, .int .i64 tp, .int .i64 rate, .int .i64 one, .int .i64 cls, .int .i64 two, .int .i64 id, .int .i64 steps, .slice p n c]] w fun e w' => e = .returned (.bool false) ∧ Below w.heap.size w w' := by
  go_enter Try.func24, Try.ntmps24
  go_wp2_with fail
  go_ret
  exact ⟨rfl, bAl (bRef w) _⟩

theorem ret_bool (x y : Bool) : (Ending.returned (Value.bool x) = Ending.returned (.bool y)) = (x = y) := by
  apply propext; constructor
  · intro h; injection h with h; injection h
  · rintro rfl; rfl
set_option maxHeartbeats 4000000 in
/-- hasBeside. -/
theorem beside_ret (m : Mg) (p : Option Addr) (n c : Nat) (hn : m.path.length = n) : Ret 24 #[MV m (.slice p n c)] (.bool m.besB) := fun w => by
  obtain ⟨kind, dom, seq, src, port, corr, time, tw, tp, rate, one, cls, two, id, steps, path⟩ := m
  unfold MV Mg.besB Mg.ans Mg.bestB
  dsimp only at hn ⊢
  rw [hn]
  clear hn
  by_cases k3 : kind = 3
  · subst k3
    cases g0 : (rate != 0) with
    | true =>
      refine (bes_a30 dom seq src port corr time tw tp rate one cls two id steps p n c w g0).mono fun e w' h => ⟨h.1.trans ?_, h.2⟩
      rw [ret_bool]
      simp [*]
    | false =>
      cases g1 : (one == 0) with
      | false =>
        refine (bes_a31 dom seq src port corr time tw tp rate one cls two id steps p n c w g0 g1).mono fun e w' h => ⟨h.1.trans ?_, h.2⟩
        rw [ret_bool]
        simp [*]
      | true =>
        cases g2 : (cls == 0) with
        | false =>
          refine (bes_a32 dom seq src port corr time tw tp rate one cls two id steps p n c w g0 g1 g2).mono fun e w' h => ⟨h.1.trans ?_, h.2⟩
          rw [ret_bool]
          simp [*]
        | true =>
          cases g3 : (two == 0) with
          | false =>
            refine (bes_a33 dom seq src port corr time tw tp rate one cls two id steps p n c w g0 g1 g2 g3).mono fun e w' h => ⟨h.1.trans ?_, h.2⟩
            rw [ret_bool]
            simp [*]
          | true =>
            cases g4 : (id == 0) with
            | false =>
              refine (bes_a34 dom seq src port corr time tw tp rate one cls two id steps p n c w g0 g1 g2 g3 g4).mono fun e w' h => ⟨h.1.trans ?_, h.2⟩
              rw [ret_bool]
              simp [*]
            | true =>
              cases g5 : (steps != 0) with
              | true =>
                refine (bes_a35 dom seq src port corr time tw tp rate one cls two id steps p n c w g0 g1 g2 g3 g4 g5).mono fun e w' h => ⟨h.1.trans ?_, h.2⟩
                rw [ret_bool]
                simp [*]
              | false =>
                by_cases g6 : 0 < n
                · skip
                  refine (bes_a36 dom seq src port corr time tw tp rate one cls two id steps p n c w g0 g1 g2 g3 g4 g5 g6).mono fun e w' h => ⟨h.1.trans ?_, h.2⟩
                  rw [ret_bool]
                  simp [*]
                · skip
                  refine (bes_a37 dom seq src port corr time tw tp rate one cls two id steps p n c w g0 g1 g2 g3 g4 g5 g6).mono fun e w' h => ⟨h.1.trans ?_, h.2⟩
                  rw [ret_bool]
                  simp [*]
  by_cases k10 : kind = 10
  · subst k10
    cases g0 : (rate != 0) with
    | true =>
      refine (bes_a100 dom seq src port corr time tw tp rate one cls two id steps p n c w g0).mono fun e w' h => ⟨h.1.trans ?_, h.2⟩
      rw [ret_bool]
      simp [*]
    | false =>
      cases g1 : (one == 0) with
      | false =>
        refine (bes_a101 dom seq src port corr time tw tp rate one cls two id steps p n c w g0 g1).mono fun e w' h => ⟨h.1.trans ?_, h.2⟩
        rw [ret_bool]
        simp [*]
      | true =>
        cases g2 : (cls == 0) with
        | false =>
          refine (bes_a102 dom seq src port corr time tw tp rate one cls two id steps p n c w g0 g1 g2).mono fun e w' h => ⟨h.1.trans ?_, h.2⟩
          rw [ret_bool]
          simp [*]
        | true =>
          cases g3 : (two == 0) with
          | false =>
            refine (bes_a103 dom seq src port corr time tw tp rate one cls two id steps p n c w g0 g1 g2 g3).mono fun e w' h => ⟨h.1.trans ?_, h.2⟩
            rw [ret_bool]
            simp [*]
          | true =>
            cases g4 : (id == 0) with
            | false =>
              refine (bes_a104 dom seq src port corr time tw tp rate one cls two id steps p n c w g0 g1 g2 g3 g4).mono fun e w' h => ⟨h.1.trans ?_, h.2⟩
              rw [ret_bool]
              simp [*]
            | true =>
              cases g5 : (steps != 0) with
              | true =>
                refine (bes_a105 dom seq src port corr time tw tp rate one cls two id steps p n c w g0 g1 g2 g3 g4 g5).mono fun e w' h => ⟨h.1.trans ?_, h.2⟩
                rw [ret_bool]
                simp [*]
              | false =>
                by_cases g6 : 0 < n
                · skip
                  refine (bes_a106 dom seq src port corr time tw tp rate one cls two id steps p n c w g0 g1 g2 g3 g4 g5 g6).mono fun e w' h => ⟨h.1.trans ?_, h.2⟩
                  rw [ret_bool]
                  simp [*]
                · skip
                  refine (bes_a107 dom seq src port corr time tw tp rate one cls two id steps p n c w g0 g1 g2 g3 g4 g5 g6).mono fun e w' h => ⟨h.1.trans ?_, h.2⟩
                  rw [ret_bool]
                  simp [*]
  by_cases k8 : kind = 8
  · subst k8
    cases g0 : (tw != 0) with
    | true =>
      refine (bes_b0 dom seq src port corr time tw tp rate one cls two id steps p n c w g0).mono fun e w' h => ⟨h.1.trans ?_, h.2⟩
      rw [ret_bool]
      simp [*]
    | false =>
      cases g1 : (tp != 0) with
      | true =>
        refine (bes_b1 dom seq src port corr time tw tp rate one cls two id steps p n c w g0 g1).mono fun e w' h => ⟨h.1.trans ?_, h.2⟩
        rw [ret_bool]
        simp [*]
      | false =>
        cases g2 : (one == 0) with
        | false =>
          refine (bes_b2 dom seq src port corr time tw tp rate one cls two id steps p n c w g0 g1 g2).mono fun e w' h => ⟨h.1.trans ?_, h.2⟩
          rw [ret_bool]
          simp [*]
        | true =>
          cases g3 : (cls == 0) with
          | false =>
            refine (bes_b3 dom seq src port corr time tw tp rate one cls two id steps p n c w g0 g1 g2 g3).mono fun e w' h => ⟨h.1.trans ?_, h.2⟩
            rw [ret_bool]
            simp [*]
          | true =>
            cases g4 : (two == 0) with
            | false =>
              refine (bes_b4 dom seq src port corr time tw tp rate one cls two id steps p n c w g0 g1 g2 g3 g4).mono fun e w' h => ⟨h.1.trans ?_, h.2⟩
              rw [ret_bool]
              simp [*]
            | true =>
              cases g5 : (id == 0) with
              | false =>
                refine (bes_b5 dom seq src port corr time tw tp rate one cls two id steps p n c w g0 g1 g2 g3 g4 g5).mono fun e w' h => ⟨h.1.trans ?_, h.2⟩
                rw [ret_bool]
                simp [*]
              | true =>
                cases g6 : (steps != 0) with
                | true =>
                  refine (bes_b6 dom seq src port corr time tw tp rate one cls two id steps p n c w g0 g1 g2 g3 g4 g5 g6).mono fun e w' h => ⟨h.1.trans ?_, h.2⟩
                  rw [ret_bool]
                  simp [*]
                | false =>
                  by_cases g7 : 0 < n
                  · skip
                    refine (bes_b7 dom seq src port corr time tw tp rate one cls two id steps p n c w g0 g1 g2 g3 g4 g5 g6 g7).mono fun e w' h => ⟨h.1.trans ?_, h.2⟩
                    rw [ret_bool]
                    simp [*]
                  · skip
                    refine (bes_b8 dom seq src port corr time tw tp rate one cls two id steps p n c w g0 g1 g2 g3 g4 g5 g6 g7).mono fun e w' h => ⟨h.1.trans ?_, h.2⟩
                    rw [ret_bool]
                    simp [*]
  by_cases k11 : kind = 11
  · subst k11
    cases g0 : (time != 0) with
    | true =>
      refine (bes_c0 dom seq src port corr time tw tp rate one cls two id steps p n c w g0).mono fun e w' h => ⟨h.1.trans ?_, h.2⟩
      rw [ret_bool]
      simp [*]
    | false =>
      cases g1 : (tw != 0) with
      | true =>
        refine (bes_c1 dom seq src port corr time tw tp rate one cls two id steps p n c w g0 g1).mono fun e w' h => ⟨h.1.trans ?_, h.2⟩
        rw [ret_bool]
        simp [*]
      | false =>
        cases g2 : (tp != 0) with
        | true =>
          refine (bes_c2 dom seq src port corr time tw tp rate one cls two id steps p n c w g0 g1 g2).mono fun e w' h => ⟨h.1.trans ?_, h.2⟩
          rw [ret_bool]
          simp [*]
        | false =>
          cases g3 : (rate != 0) with
          | true =>
            refine (bes_c3 dom seq src port corr time tw tp rate one cls two id steps p n c w g0 g1 g2 g3).mono fun e w' h => ⟨h.1.trans ?_, h.2⟩
            rw [ret_bool]
            simp [*]
          | false =>
            refine (bes_c4 dom seq src port corr time tw tp rate one cls two id steps p n c w g0 g1 g2 g3).mono fun e w' h => ⟨h.1.trans ?_, h.2⟩
            rw [ret_bool]
            simp [*]
  have q3 : (kind == 3) = false := by simp [k3]
  have q10 : (kind == 10) = false := by simp [k10]
  have q8 : (kind == 8) = false := by simp [k8]
  have q11 : (kind == 11) = false := by simp [k11]
  clear k3 k10 k8 k11
  cases g0 : (time != 0) with
  | true =>
    refine (bes_d0 kind dom seq src port corr time tw tp rate one cls two id steps p n c w q3 q10 q8 q11 g0).mono fun e w' h => ⟨h.1.trans ?_, h.2⟩
    rw [ret_bool]
    simp [*]
  | false =>
    cases g1 : (tw != 0) with
    | true =>
      refine (bes_d1 kind dom seq src port corr time tw tp rate one cls two id steps p n c w q3 q10 q8 q11 g0 g1).mono fun e w' h => ⟨h.1.trans ?_, h.2⟩
      rw [ret_bool]
      simp [*]
    | false =>
      cases g2 : (tp != 0) with
      | true =>
        refine (bes_d2 kind dom seq src port corr time tw tp rate one cls two id steps p n c w q3 q10 q8 q11 g0 g1 g2).mono fun e w' h => ⟨h.1.trans ?_, h.2⟩
        rw [ret_bool]
        simp [*]
      | false =>
        cases g3 : (rate != 0) with
        | true =>
          refine (bes_d3 kind dom seq src port corr time tw tp rate one cls two id steps p n c w q3 q10 q8 q11 g0 g1 g2 g3).mono fun e w' h => ⟨h.1.trans ?_, h.2⟩
          rw [ret_bool]
          simp [*]
        | false =>
          cases g4 : (one == 0) with
          | false =>
            refine (bes_d4 kind dom seq src port corr time tw tp rate one cls two id steps p n c w q3 q10 q8 q11 g0 g1 g2 g3 g4).mono fun e w' h => ⟨h.1.trans ?_, h.2⟩
            rw [ret_bool]
            simp [*]
          | true =>
            cases g5 : (cls == 0) with
            | false =>
              refine (bes_d5 kind dom seq src port corr time tw tp rate one cls two id steps p n c w q3 q10 q8 q11 g0 g1 g2 g3 g4 g5).mono fun e w' h => ⟨h.1.trans ?_, h.2⟩
              rw [ret_bool]
              simp [*]
            | true =>
              cases g6 : (two == 0) with
              | false =>
                refine (bes_d6 kind dom seq src port corr time tw tp rate one cls two id steps p n c w q3 q10 q8 q11 g0 g1 g2 g3 g4 g5 g6).mono fun e w' h => ⟨h.1.trans ?_, h.2⟩
                rw [ret_bool]
                simp [*]
              | true =>
                cases g7 : (id == 0) with
                | false =>
                  refine (bes_d7 kind dom seq src port corr time tw tp rate one cls two id steps p n c w q3 q10 q8 q11 g0 g1 g2 g3 g4 g5 g6 g7).mono fun e w' h => ⟨h.1.trans ?_, h.2⟩
                  rw [ret_bool]
                  simp [*]
                | true =>
                  cases g8 : (steps != 0) with
                  | true =>
                    refine (bes_d8 kind dom seq src port corr time tw tp rate one cls two id steps p n c w q3 q10 q8 q11 g0 g1 g2 g3 g4 g5 g6 g7 g8).mono fun e w' h => ⟨h.1.trans ?_, h.2⟩
                    rw [ret_bool]
                    simp [*]
                  | false =>
                    by_cases g9 : 0 < n
                    · skip
                      refine (bes_d9 kind dom seq src port corr time tw tp rate one cls two id steps p n c w q3 q10 q8 q11 g0 g1 g2 g3 g4 g5 g6 g7 g8 g9).mono fun e w' h => ⟨h.1.trans ?_, h.2⟩
                      rw [ret_bool]
                      simp [*]
                    · skip
                      refine (bes_d10 kind dom seq src port corr time tw tp rate one cls two id steps p n c w q3 q10 q8 q11 g0 g1 g2 g3 g4 g5 g6 g7 g8 g9).mono fun e w' h => ⟨h.1.trans ?_, h.2⟩
                      rw [ret_bool]
                      simp [*]

end Go.Proofs.Ytcdcklkbjfhhnaa
