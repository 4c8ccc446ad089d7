/- The reference's: its small ones. -/
import Derived.Test.YtnkblihdgfhcdaaSqEq
import Derived.Test.YtnkblihdgfhcdaaSqPop
namespace Go.Proofs.Ytnkblihdgfhcdaa
open Go.RowKit Go.Joins

/-- The value's elements are these ints. -/
def LA (w : World) (v : Value) (xs : List Int) : Prop :=
  (xs = [] ∧ ∃ a c, v = .slice a 0 c) ∨ (0 < xs.length ∧ ∃ b o c, v = .slice (some ⟨b, o, none⟩) xs.length c ∧ (∃ cur fr, w.heap[b]? = some (.cells cur 3 fr)) ∧ ∀ k, k < xs.length → w.cell? ⟨b, o + k, none⟩ = some (.int .i64 (xs.getD k 0)))
theorem LA.below {w w' : World} {v : Value} {xs : List Int} (h : LA w v xs) (hb : Below w.heap.size w w') : LA w' v xs := by
  rcases h with h | ⟨h0, b, o, c, e, hl, hc⟩
  · exact .inl h
  · obtain ⟨cur, fr, hg⟩ := hl
    exact .inr ⟨h0, b, o, c, e, ⟨cur, fr, (hb.block b (lt_of_heap hg)).trans hg⟩, fun k hk => (hb.cell (lt_of_heap hg)).trans (hc k hk)⟩
theorem LA.slice {w : World} {v : Value} {xs : List Int} (h : LA w v xs) : ∃ p c, v = .slice p xs.length c := by
  rcases h with ⟨rfl, a, c, rfl⟩ | ⟨h0, b, o, c, rfl, _⟩
  · exact ⟨a, c, rfl⟩
  · exact ⟨_, c, rfl⟩
/-- All rows of ints are as they were. -/
theorem LA.keep {w w' : World} {v : Value} {xs : List Int} (h : LA w v xs) (hk : ∀ (b : Nat) (cur : Array Value) (fr : Nat × Nat), w.heap[b]? = some (.cells cur 3 fr) → w'.heap[b]? = some (.cells cur 3 fr)) : LA w' v xs := by
  rcases h with h | ⟨h0, b, o, c, e, ⟨cur, fr, hg⟩, hc⟩
  · exact .inl h
  · refine .inr ⟨h0, b, o, c, e, ⟨cur, fr, hk b cur fr hg⟩, fun k hk' => ?_⟩
    rw [cell_of_row _ _ _ _ _ _ (hk b cur fr hg), ← cell_of_row _ _ _ _ _ _ hg]
    exact hc k hk'
theorem LA.nil (w : World) : LA w (.slice none 0 0) [] := .inl ⟨rfl, none, 0, rfl⟩
theorem LA.at {w : World} {p : Option Addr} {c n : Nat} {xs : List Int} (h : LA w (.slice p n c) xs) {k : Nat} (hk : k < n) : ∃ b o, p = some ⟨b, o, none⟩ ∧ n = xs.length ∧ b < w.heap.size ∧ w.cell? ⟨b, o + k, none⟩ = some (.int .i64 (xs.getD k 0)) := by
  rcases h with ⟨rfl, a, c', e⟩ | ⟨h0, b, o, c', e, hl, hc⟩
  · injection e with _ e _; omega
  · injection e with e1 e2 _
    obtain ⟨cur, fr, hg⟩ := hl
    exact ⟨b, o, e1, e2, lt_of_heap hg, hc k (by omega)⟩
theorem right_ret (way len reset : Int) (w : World) : Calls Try.prog 15 #[.int .i64 way, .int .i64 len, .int .i64 reset] w fun e w' => e = .returned (.bool (decide (okQ way len reset))) ∧ w' = w := by
  by_cases h : okQ way len reset
  · rw [decide_eq_true h]
    obtain ⟨h0, h1, h2, h3, h4⟩ := h
    have d1 : decide (1 ≤ len) = true := decide_eq_true h1
    have d2 : decide (len ≤ 64) = true := decide_eq_true h2
    have d3 : decide (1 ≤ reset) = true := decide_eq_true h3
    have d4 : decide (reset ≤ 1099511627776) = true := decide_eq_true h4
    clear h1 h2 h3 h4
    rcases h0 with rfl | rfl
    all_goals
      go_enter Try.func15, Try.ntmps15
      go_wp2_with fail
      go_ret
      exact ⟨rfl, rfl⟩
  · rw [decide_eq_false h]
    by_cases h0 : way = 0 ∨ way = 1
    · by_cases h1 : 1 ≤ len
      · have d1 : decide (1 ≤ len) = true := decide_eq_true h1
        by_cases h2 : len ≤ 64
        · have d2 : decide (len ≤ 64) = true := decide_eq_true h2
          by_cases h3 : 1 ≤ reset
          · have d3 : decide (1 ≤ reset) = true := decide_eq_true h3
            have d4 : decide (reset ≤ 1099511627776) = false := decide_eq_false (fun h4 => h ⟨h0, h1, h2, h3, h4⟩)
            clear h h1 h2 h3
            rcases h0 with rfl | rfl
            all_goals
              go_enter Try.func15, Try.ntmps15
              go_wp2_with fail
              go_ret
              exact ⟨rfl, rfl⟩
          · have d3 : decide (1 ≤ reset) = false := decide_eq_false h3
            clear h h1 h2 h3
            rcases h0 with rfl | rfl
            all_goals
              go_enter Try.func15, Try.ntmps15
              go_wp2_with fail
              go_ret
              exact ⟨rfl, rfl⟩
        · have d2 : decide (len ≤ 64) = false := decide_eq_false h2
          clear h h1 h2
          rcases h0 with rfl | rfl
          all_goals
            go_enter Try.func15, Try.ntmps15
            go_wp2_with fail
            go_ret
            exact ⟨rfl, rfl⟩
      · have d1 : decide (1 ≤ len) = false := decide_eq_false h1
        clear h h1
        rcases h0 with rfl | rfl
        all_goals
          go_enter Try.func15, Try.ntmps15
          go_wp2_with fail
          go_ret
          exact ⟨rfl, rfl⟩
    · have e0 : (way == 0) = false := by simp; omega
      have e1 : (way == 1) = false := by simp; omega
      clear h h0
      go_enter Try.func15, Try.ntmps15
      go_wp2_with fail
      go_ret
      exact ⟨rfl, rfl⟩
theorem rlong_ret (now when reset : Int) (w : World) (n0 : -9223372036854775808 ≤ now) (n1 : now < 9223372036854775808) (w0 : -9223372036854775808 ≤ when) (w1 : when < 9223372036854775808) (r0 : 1 ≤ reset) (r1 : reset ≤ 1099511627776) :
    Calls Try.prog 38 #[.int .i64 now, .int .i64 when, .int .i64 reset] w fun e w' => e = .returned (.bool (decide (when ≤ now ∧ reset ≤ now - when))) ∧ w' = w := by
  by_cases h : now < when
  · have d : decide (now < when) = true := decide_eq_true h
    rw [decide_eq_false (fun g => by omega)]
    clear h
    go_enter Try.func38, Try.ntmps38
    go_wp2_with fail
    go_ret
    exact ⟨rfl, rfl⟩
  have d : decide (now < when) = false := decide_eq_false h
  by_cases h1 : when < 0
  · have d1 : decide (when < 0) = true := decide_eq_true h1
    by_cases h2 : 0 ≤ now
    · have d2 : decide (0 ≤ now) = true := decide_eq_true h2
      have e0 : wrap64 (-reset) = -reset := by unfold wrap64; omega
      by_cases h3 : reset ≤ now
      · have d3 : decide (reset ≤ now) = true := decide_eq_true h3
        rw [decide_eq_true (by omega)]
        clear h h1 h2 h3 n0 n1 w0 w1 r0 r1
        go_enter Try.func38, Try.ntmps38
        go_wp2_with fail
        go_ret
        exact ⟨rfl, rfl⟩
      have d3 : decide (reset ≤ now) = false := decide_eq_false h3
      by_cases h4 : when ≤ -reset
      · have d4 : decide (when ≤ -reset) = true := decide_eq_true h4
        rw [decide_eq_true (by omega)]
        clear h h1 h2 h3 h4 n0 n1 w0 w1 r0 r1
        go_enter Try.func38, Try.ntmps38
        go_wp2_with fail
        go_ret
        exact ⟨rfl, rfl⟩
      have d4 : decide (when ≤ -reset) = false := decide_eq_false h4
      have e1 : wrap64 (when + reset) = when + reset := by unfold wrap64; omega
      have e2 : wrap64 (now - (when + reset)) = now - (when + reset) := by unfold wrap64; omega
      obtain ⟨v, hv⟩ : ∃ v, decide (0 ≤ now - (when + reset)) = v := ⟨_, rfl⟩
      have e3 : decide (when ≤ now ∧ reset ≤ now - when) = v := by
        rw [← hv, Bool.eq_iff_iff, decide_eq_true_eq, decide_eq_true_eq]; omega
      rw [e3]
      clear h h1 h2 h3 h4 n0 n1 w0 w1 r0 r1 e3
      go_enter Try.func38, Try.ntmps38
      go_wp2_with fail
      go_ret
      exact ⟨ret_b (by simp_all), rfl⟩
    · have d2 : decide (0 ≤ now) = false := decide_eq_false h2
      have e2 : wrap64 (now - when) = now - when := by unfold wrap64; omega
      obtain ⟨v, hv⟩ : ∃ v, decide (reset ≤ now - when) = v := ⟨_, rfl⟩
      have e3 : decide (when ≤ now ∧ reset ≤ now - when) = v := by
        rw [← hv, Bool.eq_iff_iff, decide_eq_true_eq, decide_eq_true_eq]; omega
      rw [e3]
      clear h h1 h2 n0 n1 w0 w1 r0 r1 e3
      go_enter Try.func38, Try.ntmps38
      go_wp2_with fail
      go_ret
      exact ⟨ret_b (by simp_all), rfl⟩
  · have d1 : decide (when < 0) = false := decide_eq_false h1
    have e2 : wrap64 (now - when) = now - when := by unfold wrap64; omega
    obtain ⟨v, hv⟩ : ∃ v, decide (reset ≤ now - when) = v := ⟨_, rfl⟩
    have e3 : decide (when ≤ now ∧ reset ≤ now - when) = v := by
      rw [← hv, Bool.eq_iff_iff, decide_eq_true_eq, decide_eq_true_eq]; omega
    rw [e3]
    clear h h1 n0 n1 w0 w1 r0 r1 e3
    go_enter Try.func38, Try.ntmps38
    go_wp2_with fail
    go_ret
    exact ⟨ret_b (by simp_all), rfl⟩
theorem rahead_mid (a b D : Int) (w : World) (hD : wrap64 (a - b) = D) (d1 : decide (D < -32768) = false) (d2 : decide (32767 < D) = false) :
    Calls Try.prog 39 #[.int .i64 a, .int .i64 b] w fun e w' => e = .returned (.int .i64 D) ∧ w' = w := by
  go_enter Try.func39, Try.ntmps39
  go_wp2_with fail
  go_loop [5] (fun dv => dv = .int .i64 D) (fun _ => 0)
  case atStart => first | rfl | (rw [hD])
  case round =>
    obtain rfl := hrel
    go_wp2_with fail
    go_loop [5] (fun dv => dv = .int .i64 D) (fun _ => 0)
    case atStart => rfl
    case round =>
      obtain rfl := hrel
      go_wp2_with fail
      go_ret
      exact ⟨rfl, rfl⟩
theorem rahead_low (a b D : Int) (w : World) (hD : wrap64 (a - b) = D) (h1 : D < -32768) (h2 : -65536 < D) :
    Calls Try.prog 39 #[.int .i64 a, .int .i64 b] w fun e w' => e = .returned (.int .i64 (D + 65536)) ∧ w' = w := by
  have d1 : decide (D < -32768) = true := decide_eq_true h1
  have d2 : decide (D + 65536 < -32768) = false := decide_eq_false (by omega)
  have d3 : decide (32767 < D + 65536) = false := decide_eq_false (by omega)
  have e1 : wrap64 (D + 65536) = D + 65536 := by unfold wrap64; omega
  go_enter Try.func39, Try.ntmps39
  go_wp2_with fail
  go_loop [5] (fun dv => dv = .int .i64 D ∨ dv = .int .i64 (D + 65536)) (fun dv => (32768 - intOf dv).toNat)
  case atStart => first | exact .inl rfl | (rw [hD]; exact .inl rfl)
  case round =>
    rcases hrel with rfl | rfl
    · go_wp2_with fail
      go_round
      case rel => first | exact .inr rfl | (rw [e1]; exact .inr rfl)
      case measure => simp [intOf]; omega
    · go_wp2_with fail
      go_loop [5] (fun dv => dv = .int .i64 (D + 65536)) (fun _ => 0)
      case atStart => rfl
      case round =>
        obtain rfl := hrel
        go_wp2_with fail
        go_ret
        exact ⟨rfl, rfl⟩
theorem rahead_high (a b D : Int) (w : World) (hD : wrap64 (a - b) = D) (h1 : 32767 < D) (h2 : D < 65536) :
    Calls Try.prog 39 #[.int .i64 a, .int .i64 b] w fun e w' => e = .returned (.int .i64 (D - 65536)) ∧ w' = w := by
  have d1 : decide (32767 < D) = true := decide_eq_true h1
  have d2 : decide (D < -32768) = false := decide_eq_false (by omega)
  have d3 : decide (32767 < D - 65536) = false := decide_eq_false (by omega)
  have e1 : wrap64 (D - 65536) = D - 65536 := by unfold wrap64; omega
  go_enter Try.func39, Try.ntmps39
  go_wp2_with fail
  go_loop [5] (fun dv => dv = .int .i64 D) (fun _ => 0)
  case atStart => first | rfl | (rw [hD])
  case round =>
    obtain rfl := hrel
    go_wp2_with fail
    go_loop [5] (fun dv => dv = .int .i64 D ∨ dv = .int .i64 (D - 65536)) (fun dv => (intOf dv + 65536).toNat)
    case atStart => exact .inl rfl
    case round =>
      rcases hrel with rfl | rfl
      · go_wp2_with fail
        go_round
        case rel => first | exact .inr rfl | (rw [e1]; exact .inr rfl)
        case measure => simp [intOf]; omega
      · go_wp2_with fail
        go_ret
        exact ⟨rfl, rfl⟩
theorem rahead_ret (a b : Int) (w : World) (a0 : 0 ≤ a) (a1 : a < 65536) (b0 : 0 ≤ b) (b1 : b < 65536) :
    Calls Try.prog 39 #[.int .i64 a, .int .i64 b] w fun e w' => e = .returned (.int .i64 (ahead a b)) ∧ w' = w := by
  have e0 : wrap64 (a - b) = a - b := by unfold wrap64; omega
  by_cases h1 : a - b < -32768
  · rw [show ahead a b = a - b + 65536 by unfold ahead; omega]
    exact rahead_low a b _ w e0 h1 (by omega)
  by_cases h2 : 32767 < a - b
  · rw [show ahead a b = a - b - 65536 by unfold ahead; omega]
    exact rahead_high a b _ w e0 h2 (by omega)
  · rw [show ahead a b = a - b by unfold ahead; omega]
    exact rahead_mid a b _ w e0 (decide_eq_false h1) (decide_eq_false h2)
def HasRel (w : World) (xs : List Int) (x : Int) (n : Nat) (kv : Value) (wr : World) : Prop := wr = w ∧ ∃ k : Nat, kv = .int .i64 (k : Int) ∧ k ≤ n ∧ ∀ j, j < k → xs.getD j 0 ≠ x
/-- Whether the row has it. -/
theorem has_ret (p : Option Addr) (n c : Nat) (xs : List Int) (x : Int) (w : World) (h : LA w (.slice p n c) xs) (hn : xs.length = n) (hn1 : n ≤ 1000) :
    Calls Try.prog 40 #[.slice p n c, .int .i64 x] w fun e w' => e = .returned (.bool (decide (x ∈ xs))) ∧ w' = w := by
  have H := Lib.hid h
  have HN := Lib.hid hn
  have HX : Hid (∀ k, k < n → xs.getD k 0 ∈ xs) := Lib.hid (fun k hk => by rw [List.getD_eq_getElem?_getD, List.getElem?_eq_getElem (by omega)]; exact List.getElem_mem _)
  obtain ⟨v, hv⟩ : ∃ v, decide (x ∈ xs) = v := ⟨_, rfl⟩
  rw [hv]
  have HV := Lib.hid hv
  clear h hn hv
  go_enter Try.func40, Try.ntmps40
  go_wp2_with fail
  go_loopw [9] (fun kv wr => HasRel w xs x n kv wr) (fun kv _ => n - (intOf kv).toNat)
  case atStart => exact ⟨rfl, 0, rfl, by omega, fun j hj => absurd hj (by omega)⟩
  case round =>
    obtain ⟨rfl, k, rfl, hk, hno⟩ := hrel
    have HNO := Lib.hid hno
    clear hno
    rcases Nat.lt_or_ge k n with g | g
    · have hd : decide ((k : Int) < (n : Int)) = true := decide_eq_true (by omega)
      obtain ⟨b, o, rfl, _, hl, hc⟩ := H.out.at g
      by_cases e : xs.getD k 0 = x
      · have ht : decide (x ∈ xs) = true := decide_eq_true (by rw [← e]; exact HX.out k g)
        rw [HV.out] at ht
        subst ht
        have ee : (xs.getD k 0 == x) = true := by rw [e]; exact beq_self_eq_true x
        generalize xs.getD k 0 = y at *
        clear e
        go_wp2_with fail
        go_ret
        exact ⟨rfl, rfl⟩
      · have ee : (xs.getD k 0 == x) = false := by simpa using e
        have HE := Lib.hid e
        generalize hy : xs.getD k 0 = y at *
        have HY := Lib.hid hy
        clear e hy
        go_wp2_with fail
        go_roundw
        case rel => exact ⟨rfl, k + 1, by go_num, by omega, fun j hj => by
          by_cases e2 : j = k
          · subst e2; rw [HY.out]; exact HE.out
          · exact HNO.out j (by omega)⟩
        case measure => simp [intOf]; omega
    · obtain rfl : k = n := by omega
      have hd : decide ((k : Int) < (k : Int)) = false := decide_eq_false (by omega)
      have ht : decide (x ∈ xs) = false := decide_eq_false (fun hm => by
        obtain ⟨i, hi, e⟩ := List.mem_iff_getElem.1 hm
        have h2 := HN.out
        exact HNO.out i (by omega) (by rw [List.getD_eq_getElem?_getD, List.getElem?_eq_getElem hi]; exact e))
      rw [HV.out] at ht
      subst ht
      go_wp2_with fail
      go_ret
      exact ⟨rfl, rfl⟩

end Go.Proofs.Ytnkblihdgfhcdaa
