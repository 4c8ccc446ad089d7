/- Package ptp: Encode. -/
import Derived.Test.YtcdcklkbjfhhnaaPtChk
namespace Go.Proofs.Ytcdcklkbjfhhnaa
open Go.RowKit Go.Joins

/-- Numbers of a new row are laid. -/
def PutAt (w : World) (nb : Nat) (ys : List Int) (cs : Array Value) (k : Nat) : Prop :=
  ∀ (wk : World) (g : Nat) (v : Value) (os : List Nat), g = wk.heap.size → OwnN w wk v os → os.length ≤ 1000 → Calls Try.prog 18 #[v, .int .i64 (nb : Int), .slice (some ⟨g, 0, none⟩) k k] (wk.alloc (.cells cs 3)) fun e w1 => ∃ v1, e = .returned v1 ∧ OwnN w w1 v1 (os ++ bes nb ys) ∧ Oth wk w1
theorem putAt (w : World) (nb : Nat) (ys : List Int) (cs : Array Value) (k : Nat) (h : cs = (ys.map (Value.int .i64)).toArray) (hy : ∀ x ∈ ys, In64 x) (hk : k = ys.length) (h1 : 1 ≤ nb) (h8 : nb ≤ 8) (hl : k ≤ 100) : PutAt w nb ys cs k := fun wk g v os hg ho hos => by
  subst hg hk
  refine (put_any (ho.alloc _) (Reads.new h hy _ _ rfl (Nat.le_refl _)) h1 h8 (by omega)).mono fun e w1 hh => ?_
  obtain ⟨v1, h2, h3, h4⟩ := hh
  exact ⟨v1, h2, h3, (Oth.below (bAl (bRef wk) _)).trans h4⟩
def PutTo (w : World) (nb : Nat) (cs : Array Value) (k : Nat) (os os' : List Nat) : Prop :=
  ∀ (wk : World) (g : Nat) (v : Value), g = wk.heap.size → OwnN w wk v os → Calls Try.prog 18 #[v, .int .i64 (nb : Int), .slice (some ⟨g, 0, none⟩) k k] (wk.alloc (.cells cs 3)) fun e w1 => ∃ v1, e = .returned v1 ∧ OwnN w w1 v1 os' ∧ Oth wk w1
theorem PutAt.to {w : World} {nb : Nat} {ys : List Int} {cs : Array Value} {k : Nat} {os os' : List Nat} (h : PutAt w nb ys cs k) (hl : os.length ≤ 1000) (he : os' = os ++ bes nb ys) : PutTo w nb cs k os os' := fun wk g v hg ho => by
  subst he; exact h wk g v os hg ho hl
theorem PutTo.go {w : World} {nb : Nat} {cs : Array Value} {k : Nat} {os os' : List Nat} (h : PutTo w nb cs k os os') (z : Int) (hz : z = (nb : Int)) (wk : World) (g : Nat) (v : Value) (hg : g = wk.heap.size) (ho : OwnN w wk v os) :
    Calls Try.prog 18 #[v, .int .i64 z, .slice (some ⟨g, 0, none⟩) k k] (wk.alloc (.cells cs 3)) fun e w1 => ∃ v1, e = .returned v1 ∧ OwnN w w1 v1 os' ∧ Oth wk w1 := by
  subst hz; exact h wk g v hg ho
def PutPath (w : World) (lv : Value) (os os' : List Nat) : Prop :=
  ∀ (wk : World) (v : Value), OwnN w wk v os → Calls Try.prog 18 #[v, .int .i64 6, lv] wk fun e w1 => ∃ v1, e = .returned v1 ∧ OwnN w w1 v1 os' ∧ Oth wk w1
theorem PutPath.go {w : World} {lv : Value} {os os' : List Nat} (h : PutPath w lv os os') (wk : World) (v : Value) (ho : OwnN w wk v os) : Calls Try.prog 18 #[v, .int .i64 6, lv] wk fun e w1 => ∃ v1, e = .returned v1 ∧ OwnN w w1 v1 os' ∧ Oth wk w1 := h wk v ho
theorem putPath {w : World} {lv : Value} {os os' : List Nat} {ys : List Int} (h : LArg w lv ys) (hl : os.length + 8 * ys.length ≤ 140737488355000) (he : os' = os ++ bes 6 ys) : PutPath w lv os os' := fun wk v ho => by
  subst he; exact put_any (n := 6) ho (Reads.arg h) (by omega) (by omega) hl
/-- What Encode answers. -/
def EncPost (w : World) (m : Mg) (e : Ending) (w' : World) : Prop :=
  (m.chk = 0 ∧ ∃ v, e = .returned (.tuple #[v, .int .i64 0]) ∧ OwnB w w' v m.text) ∨
  (m.chk ≠ 0 ∧ e = .returned (.tuple #[.slice none 0 0, .int .i64 (m.chk : Int)]) ∧ Below w.heap.size w w')

theorem enc_bad (kind dom seq src port corr time tw tp rate one cls two id steps : Int) (p : Option Addr) (n c x : Nat) (w : World) (hx : (((x : Nat) : Int) != 0) = true)
    (HC : Hid (∀ wx, Below w.heap.size w wx → Calls Try.prog 12 #[.agg #[.int .i64 kind, .int .i64 dom, .int .i64 seq, .int .i64 src, .int .i64 port, .int .i64 corr, .int .i64 time, .int .i64 tw, .int .i64 tp, .int .i64 rate, .int .i64 one, .int .i64 cls, .int .i64 two, .int .i64 id, .int .i64 steps, .slice p n c]] wx fun e w' => e = .returned (.int .i64 (x : Int)) ∧ Below wx.heap.size wx w')) :
    Calls Try.prog 9 #[.agg #[.int .i64 kind, .int .i64 dom, .int .i64 seq, .int .i64 src, .int .i64 port, .int .i64 corr, .int .i64 time, .int .i64 tw, .int .i64 tp, .int .i64 rate, .int .i64 one, .int .i64 cls, .int .i64 two, .int .i64 id, .int .i64 steps, .slice p n c]] w fun e w' => e = .returned (.tuple #[.slice none 0 0, .int .i64 (x : Int)]) ∧ Below w.heap.size w w' := by
  go_enter Try.func9, Try.ntmps9
  go_wp2_with (first
    | ((with_reducible refine at_loadM ?_); refine wpList_loadM rfl _ rfl w.heap.size rfl #[.int .i64 kind, .int .i64 dom, .int .i64 seq, .int .i64 src, .int .i64 port, .int .i64 corr, .int .i64 time, .int .i64 tw, .int .i64 tp, .int .i64 rate, .int .i64 one, .int .i64 cls, .int .i64 two, .int .i64 id, .int .i64 steps, .slice p n c] _ (heap_alloc_new w _) rfl ?_)
    | (go_at_call 12; (with_reducible refine (HC.out _ (bAl (bRef w) _)).mono ?_); rintro e w1 ⟨rfl, hb⟩; have HB := Lib.hid (bTr (bAl (bRef w) _) hb); clear hb))
  go_ret2
  exact ⟨rfl, HB.out⟩

set_option maxHeartbeats 2000000 in
theorem enc_0 (dom seq src port corr time tw tp rate one cls two id steps : Int) (path : List Int) (o1 o2 o3 o4 o5 : List Nat) (p : Option Addr) (n c : Nat) (w : World)
    (HC : Hid (∀ wx, Below w.heap.size w wx → Calls Try.prog 12 #[.agg #[.int .i64 0, .int .i64 dom, .int .i64 seq, .int .i64 src, .int .i64 port, .int .i64 corr, .int .i64 time, .int .i64 tw, .int .i64 tp, .int .i64 rate, .int .i64 one, .int .i64 cls, .int .i64 two, .int .i64 id, .int .i64 steps, .slice p n c]] wx fun e w' => e = .returned (.int .i64 0) ∧ Below wx.heap.size wx w'))
    (P0 : Hid (PutTo w 1 #[.int .i64 16, .int .i64 dom] 2 [] o1))
    (P1 : Hid (PutTo w 2 #[.int .i64 seq] 1 o1 o2))
    (P2 : Hid (PutTo w 6 #[.int .i64 src] 1 o2 o3))
    (P3 : Hid (PutTo w 2 #[.int .i64 port] 1 o3 o4))
    (P4 : Hid (PutTo w 8 #[.int .i64 corr] 1 o4 o5)) :
    Calls Try.prog 9 #[.agg #[.int .i64 0, .int .i64 dom, .int .i64 seq, .int .i64 src, .int .i64 port, .int .i64 corr, .int .i64 time, .int .i64 tw, .int .i64 tp, .int .i64 rate, .int .i64 one, .int .i64 cls, .int .i64 two, .int .i64 id, .int .i64 steps, .slice p n c]] w fun e w' => ∃ v, e = .returned (.tuple #[v, .int .i64 0]) ∧ OwnN w w' v (o5) := by
  have HX0 : Hid (Boxed (w.alloc (.cells #[.int .i64 0, .int .i64 dom, .int .i64 seq, .int .i64 src, .int .i64 port, .int .i64 corr, .int .i64 time, .int .i64 tw, .int .i64 tp, .int .i64 rate, .int .i64 one, .int .i64 cls, .int .i64 two, .int .i64 id, .int .i64 steps, .slice p n c] 28)) w.heap.size ⟨0, dom, seq, src, port, corr, time, tw, tp, rate, one, cls, two, id, steps, path⟩ (.slice p n c)) := Lib.hid (heap_alloc_new w _)
  go_enter Try.func9, Try.ntmps9
  go_wp2_with (first
    | ((with_reducible refine at_loadM ?_); refine wpList_loadM rfl _ rfl w.heap.size rfl #[.int .i64 0, .int .i64 dom, .int .i64 seq, .int .i64 src, .int .i64 port, .int .i64 corr, .int .i64 time, .int .i64 tw, .int .i64 tp, .int .i64 rate, .int .i64 one, .int .i64 cls, .int .i64 two, .int .i64 id, .int .i64 steps, .slice p n c] _ (heap_alloc_new w _) rfl ?_)
    | (go_at_call 12; (with_reducible refine (HC.out _ (bAl (bRef w) _)).mono ?_); rintro e w1 ⟨rfl, hb⟩; have HX := Lib.hid (HX0.out.below hb); have HO := Lib.hid (OwnN.start (bTr (bAl (bRef w) _) hb)); clear hb; have k0 := HX.out.c0; have k1 := HX.out.c1; dsimp only at k0 k1)
    | (go_at_call 18; (with_reducible refine (P0.out.go _ (by omega) _ _ _ (by simp) HO.out).mono ?_); rintro e wk0 ⟨v0, rfl, hown, hoth⟩; replace HO := Lib.hid hown; replace HX := Lib.hid (HX.out.oth hoth); clear hown hoth; have kseq0 := HX.out.c2; dsimp only at kseq0)
    | (go_at_call 18; (with_reducible refine (P1.out.go _ (by omega) _ _ _ (by simp) HO.out).mono ?_); rintro e wk1 ⟨v1, rfl, hown, hoth⟩; replace HO := Lib.hid hown; replace HX := Lib.hid (HX.out.oth hoth); clear hown hoth; have ksrc1 := HX.out.c3; dsimp only at ksrc1)
    | (go_at_call 18; (with_reducible refine (P2.out.go _ (by omega) _ _ _ (by simp) HO.out).mono ?_); rintro e wk2 ⟨v2, rfl, hown, hoth⟩; replace HO := Lib.hid hown; replace HX := Lib.hid (HX.out.oth hoth); clear hown hoth; have kport2 := HX.out.c4; dsimp only at kport2)
    | (go_at_call 18; (with_reducible refine (P3.out.go _ (by omega) _ _ _ (by simp) HO.out).mono ?_); rintro e wk3 ⟨v3, rfl, hown, hoth⟩; replace HO := Lib.hid hown; replace HX := Lib.hid (HX.out.oth hoth); clear hown hoth; have kcorr3 := HX.out.c5; dsimp only at kcorr3)
    | (go_at_call 18; (with_reducible refine (P4.out.go _ (by omega) _ _ _ (by simp) HO.out).mono ?_); rintro e wk4 ⟨v4, rfl, hown, hoth⟩; replace HO := Lib.hid hown; replace HX := Lib.hid (HX.out.oth hoth); clear hown hoth; have kkind4 := HX.out.c0; dsimp only at kkind4))
  go_ret2
  exact ⟨_, rfl, HO.out⟩

set_option maxHeartbeats 2000000 in
theorem enc_2 (dom seq src port corr time tw tp rate one cls two id steps : Int) (path : List Int) (o1 o2 o3 o4 o5 : List Nat) (p : Option Addr) (n c : Nat) (w : World)
    (HC : Hid (∀ wx, Below w.heap.size w wx → Calls Try.prog 12 #[.agg #[.int .i64 2, .int .i64 dom, .int .i64 seq, .int .i64 src, .int .i64 port, .int .i64 corr, .int .i64 time, .int .i64 tw, .int .i64 tp, .int .i64 rate, .int .i64 one, .int .i64 cls, .int .i64 two, .int .i64 id, .int .i64 steps, .slice p n c]] wx fun e w' => e = .returned (.int .i64 0) ∧ Below wx.heap.size wx w'))
    (P0 : Hid (PutTo w 1 #[.int .i64 18, .int .i64 dom] 2 [] o1))
    (P1 : Hid (PutTo w 2 #[.int .i64 seq] 1 o1 o2))
    (P2 : Hid (PutTo w 6 #[.int .i64 src] 1 o2 o3))
    (P3 : Hid (PutTo w 2 #[.int .i64 port] 1 o3 o4))
    (P4 : Hid (PutTo w 8 #[.int .i64 corr] 1 o4 o5)) :
    Calls Try.prog 9 #[.agg #[.int .i64 2, .int .i64 dom, .int .i64 seq, .int .i64 src, .int .i64 port, .int .i64 corr, .int .i64 time, .int .i64 tw, .int .i64 tp, .int .i64 rate, .int .i64 one, .int .i64 cls, .int .i64 two, .int .i64 id, .int .i64 steps, .slice p n c]] w fun e w' => ∃ v, e = .returned (.tuple #[v, .int .i64 0]) ∧ OwnN w w' v (o5) := by
  have HX0 : Hid (Boxed (w.alloc (.cells #[.int .i64 2, .int .i64 dom, .int .i64 seq, .int .i64 src, .int .i64 port, .int .i64 corr, .int .i64 time, .int .i64 tw, .int .i64 tp, .int .i64 rate, .int .i64 one, .int .i64 cls, .int .i64 two, .int .i64 id, .int .i64 steps, .slice p n c] 28)) w.heap.size ⟨2, dom, seq, src, port, corr, time, tw, tp, rate, one, cls, two, id, steps, path⟩ (.slice p n c)) := Lib.hid (heap_alloc_new w _)
  go_enter Try.func9, Try.ntmps9
  go_wp2_with (first
    | ((with_reducible refine at_loadM ?_); refine wpList_loadM rfl _ rfl w.heap.size rfl #[.int .i64 2, .int .i64 dom, .int .i64 seq, .int .i64 src, .int .i64 port, .int .i64 corr, .int .i64 time, .int .i64 tw, .int .i64 tp, .int .i64 rate, .int .i64 one, .int .i64 cls, .int .i64 two, .int .i64 id, .int .i64 steps, .slice p n c] _ (heap_alloc_new w _) rfl ?_)
    | (go_at_call 12; (with_reducible refine (HC.out _ (bAl (bRef w) _)).mono ?_); rintro e w1 ⟨rfl, hb⟩; have HX := Lib.hid (HX0.out.below hb); have HO := Lib.hid (OwnN.start (bTr (bAl (bRef w) _) hb)); clear hb; have k0 := HX.out.c0; have k1 := HX.out.c1; dsimp only at k0 k1)
    | (go_at_call 18; (with_reducible refine (P0.out.go _ (by omega) _ _ _ (by simp) HO.out).mono ?_); rintro e wk0 ⟨v0, rfl, hown, hoth⟩; replace HO := Lib.hid hown; replace HX := Lib.hid (HX.out.oth hoth); clear hown hoth; have kseq0 := HX.out.c2; dsimp only at kseq0)
    | (go_at_call 18; (with_reducible refine (P1.out.go _ (by omega) _ _ _ (by simp) HO.out).mono ?_); rintro e wk1 ⟨v1, rfl, hown, hoth⟩; replace HO := Lib.hid hown; replace HX := Lib.hid (HX.out.oth hoth); clear hown hoth; have ksrc1 := HX.out.c3; dsimp only at ksrc1)
    | (go_at_call 18; (with_reducible refine (P2.out.go _ (by omega) _ _ _ (by simp) HO.out).mono ?_); rintro e wk2 ⟨v2, rfl, hown, hoth⟩; replace HO := Lib.hid hown; replace HX := Lib.hid (HX.out.oth hoth); clear hown hoth; have kport2 := HX.out.c4; dsimp only at kport2)
    | (go_at_call 18; (with_reducible refine (P3.out.go _ (by omega) _ _ _ (by simp) HO.out).mono ?_); rintro e wk3 ⟨v3, rfl, hown, hoth⟩; replace HO := Lib.hid hown; replace HX := Lib.hid (HX.out.oth hoth); clear hown hoth; have kcorr3 := HX.out.c5; dsimp only at kcorr3)
    | (go_at_call 18; (with_reducible refine (P4.out.go _ (by omega) _ _ _ (by simp) HO.out).mono ?_); rintro e wk4 ⟨v4, rfl, hown, hoth⟩; replace HO := Lib.hid hown; replace HX := Lib.hid (HX.out.oth hoth); clear hown hoth; have kkind4 := HX.out.c0; dsimp only at kkind4))
  go_ret2
  exact ⟨_, rfl, HO.out⟩

set_option maxHeartbeats 2000000 in
theorem enc_3 (dom seq src port corr time tw tp rate one cls two id steps : Int) (path : List Int) (o1 o2 o3 o4 o5 o6 o7 o8 : List Nat) (p : Option Addr) (n c : Nat) (w : World)
    (HC : Hid (∀ wx, Below w.heap.size w wx → Calls Try.prog 12 #[.agg #[.int .i64 3, .int .i64 dom, .int .i64 seq, .int .i64 src, .int .i64 port, .int .i64 corr, .int .i64 time, .int .i64 tw, .int .i64 tp, .int .i64 rate, .int .i64 one, .int .i64 cls, .int .i64 two, .int .i64 id, .int .i64 steps, .slice p n c]] wx fun e w' => e = .returned (.int .i64 0) ∧ Below wx.heap.size wx w'))
    (P0 : Hid (PutTo w 1 #[.int .i64 19, .int .i64 dom] 2 [] o1))
    (P1 : Hid (PutTo w 2 #[.int .i64 seq] 1 o1 o2))
    (P2 : Hid (PutTo w 6 #[.int .i64 src] 1 o2 o3))
    (P3 : Hid (PutTo w 2 #[.int .i64 port] 1 o3 o4))
    (P4 : Hid (PutTo w 8 #[.int .i64 corr] 1 o4 o5))
    (P5 : Hid (PutTo w 8 #[.int .i64 time] 1 o5 o6))
    (P6 : Hid (PutTo w 6 #[.int .i64 tw] 1 o6 o7))
    (P7 : Hid (PutTo w 2 #[.int .i64 tp] 1 o7 o8)) :
    Calls Try.prog 9 #[.agg #[.int .i64 3, .int .i64 dom, .int .i64 seq, .int .i64 src, .int .i64 port, .int .i64 corr, .int .i64 time, .int .i64 tw, .int .i64 tp, .int .i64 rate, .int .i64 one, .int .i64 cls, .int .i64 two, .int .i64 id, .int .i64 steps, .slice p n c]] w fun e w' => ∃ v, e = .returned (.tuple #[v, .int .i64 0]) ∧ OwnN w w' v (o8) := by
  have HX0 : Hid (Boxed (w.alloc (.cells #[.int .i64 3, .int .i64 dom, .int .i64 seq, .int .i64 src, .int .i64 port, .int .i64 corr, .int .i64 time, .int .i64 tw, .int .i64 tp, .int .i64 rate, .int .i64 one, .int .i64 cls, .int .i64 two, .int .i64 id, .int .i64 steps, .slice p n c] 28)) w.heap.size ⟨3, dom, seq, src, port, corr, time, tw, tp, rate, one, cls, two, id, steps, path⟩ (.slice p n c)) := Lib.hid (heap_alloc_new w _)
  go_enter Try.func9, Try.ntmps9
  go_wp2_with (first
    | ((with_reducible refine at_loadM ?_); refine wpList_loadM rfl _ rfl w.heap.size rfl #[.int .i64 3, .int .i64 dom, .int .i64 seq, .int .i64 src, .int .i64 port, .int .i64 corr, .int .i64 time, .int .i64 tw, .int .i64 tp, .int .i64 rate, .int .i64 one, .int .i64 cls, .int .i64 two, .int .i64 id, .int .i64 steps, .slice p n c] _ (heap_alloc_new w _) rfl ?_)
    | (go_at_call 12; (with_reducible refine (HC.out _ (bAl (bRef w) _)).mono ?_); rintro e w1 ⟨rfl, hb⟩; have HX := Lib.hid (HX0.out.below hb); have HO := Lib.hid (OwnN.start (bTr (bAl (bRef w) _) hb)); clear hb; have k0 := HX.out.c0; have k1 := HX.out.c1; dsimp only at k0 k1)
    | (go_at_call 18; (with_reducible refine (P0.out.go _ (by omega) _ _ _ (by simp) HO.out).mono ?_); rintro e wk0 ⟨v0, rfl, hown, hoth⟩; replace HO := Lib.hid hown; replace HX := Lib.hid (HX.out.oth hoth); clear hown hoth; have kseq0 := HX.out.c2; dsimp only at kseq0)
    | (go_at_call 18; (with_reducible refine (P1.out.go _ (by omega) _ _ _ (by simp) HO.out).mono ?_); rintro e wk1 ⟨v1, rfl, hown, hoth⟩; replace HO := Lib.hid hown; replace HX := Lib.hid (HX.out.oth hoth); clear hown hoth; have ksrc1 := HX.out.c3; dsimp only at ksrc1)
    | (go_at_call 18; (with_reducible refine (P2.out.go _ (by omega) _ _ _ (by simp) HO.out).mono ?_); rintro e wk2 ⟨v2, rfl, hown, hoth⟩; replace HO := Lib.hid hown; replace HX := Lib.hid (HX.out.oth hoth); clear hown hoth; have kport2 := HX.out.c4; dsimp only at kport2)
    | (go_at_call 18; (with_reducible refine (P3.out.go _ (by omega) _ _ _ (by simp) HO.out).mono ?_); rintro e wk3 ⟨v3, rfl, hown, hoth⟩; replace HO := Lib.hid hown; replace HX := Lib.hid (HX.out.oth hoth); clear hown hoth; have kcorr3 := HX.out.c5; dsimp only at kcorr3)
    | (go_at_call 18; (with_reducible refine (P4.out.go _ (by omega) _ _ _ (by simp) HO.out).mono ?_); rintro e wk4 ⟨v4, rfl, hown, hoth⟩; replace HO := Lib.hid hown; replace HX := Lib.hid (HX.out.oth hoth); clear hown hoth; have ktime4 := HX.out.c6; have kkind4 := HX.out.c0; dsimp only at ktime4 kkind4)
    | (go_at_call 18; (with_reducible refine (P5.out.go _ (by omega) _ _ _ (by simp) HO.out).mono ?_); rintro e wk5 ⟨v5, rfl, hown, hoth⟩; replace HO := Lib.hid hown; replace HX := Lib.hid (HX.out.oth hoth); clear hown hoth; have ktw5 := HX.out.c7; dsimp only at ktw5)
    | (go_at_call 18; (with_reducible refine (P6.out.go _ (by omega) _ _ _ (by simp) HO.out).mono ?_); rintro e wk6 ⟨v6, rfl, hown, hoth⟩; replace HO := Lib.hid hown; replace HX := Lib.hid (HX.out.oth hoth); clear hown hoth; have ktp6 := HX.out.c8; dsimp only at ktp6)
    | (go_at_call 18; (with_reducible refine (P7.out.go _ (by omega) _ _ _ (by simp) HO.out).mono ?_); rintro e wk7 ⟨v7, rfl, hown, hoth⟩; replace HO := Lib.hid hown; replace HX := Lib.hid (HX.out.oth hoth); clear hown hoth))
  go_ret2
  exact ⟨_, rfl, HO.out⟩

set_option maxHeartbeats 2000000 in
theorem enc_8 (dom seq src port corr time tw tp rate one cls two id steps : Int) (path : List Int) (o1 o2 o3 o4 o5 o6 : List Nat) (p : Option Addr) (n c : Nat) (w : World)
    (HC : Hid (∀ wx, Below w.heap.size w wx → Calls Try.prog 12 #[.agg #[.int .i64 8, .int .i64 dom, .int .i64 seq, .int .i64 src, .int .i64 port, .int .i64 corr, .int .i64 time, .int .i64 tw, .int .i64 tp, .int .i64 rate, .int .i64 one, .int .i64 cls, .int .i64 two, .int .i64 id, .int .i64 steps, .slice p n c]] wx fun e w' => e = .returned (.int .i64 0) ∧ Below wx.heap.size wx w'))
    (P0 : Hid (PutTo w 1 #[.int .i64 24, .int .i64 dom] 2 [] o1))
    (P1 : Hid (PutTo w 2 #[.int .i64 seq] 1 o1 o2))
    (P2 : Hid (PutTo w 6 #[.int .i64 src] 1 o2 o3))
    (P3 : Hid (PutTo w 2 #[.int .i64 port] 1 o3 o4))
    (P4 : Hid (PutTo w 8 #[.int .i64 corr] 1 o4 o5))
    (P5 : Hid (PutTo w 8 #[.int .i64 time, .int .i64 rate] 2 o5 o6)) :
    Calls Try.prog 9 #[.agg #[.int .i64 8, .int .i64 dom, .int .i64 seq, .int .i64 src, .int .i64 port, .int .i64 corr, .int .i64 time, .int .i64 tw, .int .i64 tp, .int .i64 rate, .int .i64 one, .int .i64 cls, .int .i64 two, .int .i64 id, .int .i64 steps, .slice p n c]] w fun e w' => ∃ v, e = .returned (.tuple #[v, .int .i64 0]) ∧ OwnN w w' v (o6) := by
  have HX0 : Hid (Boxed (w.alloc (.cells #[.int .i64 8, .int .i64 dom, .int .i64 seq, .int .i64 src, .int .i64 port, .int .i64 corr, .int .i64 time, .int .i64 tw, .int .i64 tp, .int .i64 rate, .int .i64 one, .int .i64 cls, .int .i64 two, .int .i64 id, .int .i64 steps, .slice p n c] 28)) w.heap.size ⟨8, dom, seq, src, port, corr, time, tw, tp, rate, one, cls, two, id, steps, path⟩ (.slice p n c)) := Lib.hid (heap_alloc_new w _)
  go_enter Try.func9, Try.ntmps9
  go_wp2_with (first
    | ((with_reducible refine at_loadM ?_); refine wpList_loadM rfl _ rfl w.heap.size rfl #[.int .i64 8, .int .i64 dom, .int .i64 seq, .int .i64 src, .int .i64 port, .int .i64 corr, .int .i64 time, .int .i64 tw, .int .i64 tp, .int .i64 rate, .int .i64 one, .int .i64 cls, .int .i64 two, .int .i64 id, .int .i64 steps, .slice p n c] _ (heap_alloc_new w _) rfl ?_)
    | (go_at_call 12; (with_reducible refine (HC.out _ (bAl (bRef w) _)).mono ?_); rintro e w1 ⟨rfl, hb⟩; have HX := Lib.hid (HX0.out.below hb); have HO := Lib.hid (OwnN.start (bTr (bAl (bRef w) _) hb)); clear hb; have k0 := HX.out.c0; have k1 := HX.out.c1; dsimp only at k0 k1)
    | (go_at_call 18; (with_reducible refine (P0.out.go _ (by omega) _ _ _ (by simp) HO.out).mono ?_); rintro e wk0 ⟨v0, rfl, hown, hoth⟩; replace HO := Lib.hid hown; replace HX := Lib.hid (HX.out.oth hoth); clear hown hoth; have kseq0 := HX.out.c2; dsimp only at kseq0)
    | (go_at_call 18; (with_reducible refine (P1.out.go _ (by omega) _ _ _ (by simp) HO.out).mono ?_); rintro e wk1 ⟨v1, rfl, hown, hoth⟩; replace HO := Lib.hid hown; replace HX := Lib.hid (HX.out.oth hoth); clear hown hoth; have ksrc1 := HX.out.c3; dsimp only at ksrc1)
    | (go_at_call 18; (with_reducible refine (P2.out.go _ (by omega) _ _ _ (by simp) HO.out).mono ?_); rintro e wk2 ⟨v2, rfl, hown, hoth⟩; replace HO := Lib.hid hown; replace HX := Lib.hid (HX.out.oth hoth); clear hown hoth; have kport2 := HX.out.c4; dsimp only at kport2)
    | (go_at_call 18; (with_reducible refine (P3.out.go _ (by omega) _ _ _ (by simp) HO.out).mono ?_); rintro e wk3 ⟨v3, rfl, hown, hoth⟩; replace HO := Lib.hid hown; replace HX := Lib.hid (HX.out.oth hoth); clear hown hoth; have kcorr3 := HX.out.c5; dsimp only at kcorr3)
    | (go_at_call 18; (with_reducible refine (P4.out.go _ (by omega) _ _ _ (by simp) HO.out).mono ?_); rintro e wk4 ⟨v4, rfl, hown, hoth⟩; replace HO := Lib.hid hown; replace HX := Lib.hid (HX.out.oth hoth); clear hown hoth; have ktime4 := HX.out.c6; have krate4 := HX.out.c9; have kkind4 := HX.out.c0; dsimp only at ktime4 krate4 kkind4)
    | (go_at_call 18; (with_reducible refine (P5.out.go _ (by omega) _ _ _ (by simp) HO.out).mono ?_); rintro e wk5 ⟨v5, rfl, hown, hoth⟩; replace HO := Lib.hid hown; replace HX := Lib.hid (HX.out.oth hoth); clear hown hoth))
  go_ret2
  exact ⟨_, rfl, HO.out⟩

set_option maxHeartbeats 2000000 in
theorem enc_10 (dom seq src port corr time tw tp rate one cls two id steps : Int) (path : List Int) (o1 o2 o3 o4 o5 o6 o7 o8 : List Nat) (p : Option Addr) (n c : Nat) (w : World)
    (HC : Hid (∀ wx, Below w.heap.size w wx → Calls Try.prog 12 #[.agg #[.int .i64 10, .int .i64 dom, .int .i64 seq, .int .i64 src, .int .i64 port, .int .i64 corr, .int .i64 time, .int .i64 tw, .int .i64 tp, .int .i64 rate, .int .i64 one, .int .i64 cls, .int .i64 two, .int .i64 id, .int .i64 steps, .slice p n c]] wx fun e w' => e = .returned (.int .i64 0) ∧ Below wx.heap.size wx w'))
    (P0 : Hid (PutTo w 1 #[.int .i64 26, .int .i64 dom] 2 [] o1))
    (P1 : Hid (PutTo w 2 #[.int .i64 seq] 1 o1 o2))
    (P2 : Hid (PutTo w 6 #[.int .i64 src] 1 o2 o3))
    (P3 : Hid (PutTo w 2 #[.int .i64 port] 1 o3 o4))
    (P4 : Hid (PutTo w 8 #[.int .i64 corr] 1 o4 o5))
    (P5 : Hid (PutTo w 8 #[.int .i64 time] 1 o5 o6))
    (P6 : Hid (PutTo w 6 #[.int .i64 tw] 1 o6 o7))
    (P7 : Hid (PutTo w 2 #[.int .i64 tp] 1 o7 o8)) :
    Calls Try.prog 9 #[.agg #[.int .i64 10, .int .i64 dom, .int .i64 seq, .int .i64 src, .int .i64 port, .int .i64 corr, .int .i64 time, .int .i64 tw, .int .i64 tp, .int .i64 rate, .int .i64 one, .int .i64 cls, .int .i64 two, .int .i64 id, .int .i64 steps, .slice p n c]] w fun e w' => ∃ v, e = .returned (.tuple #[v, .int .i64 0]) ∧ OwnN w w' v (o8) := by
  have HX0 : Hid (Boxed (w.alloc (.cells #[.int .i64 10, .int .i64 dom, .int .i64 seq, .int .i64 src, .int .i64 port, .int .i64 corr, .int .i64 time, .int .i64 tw, .int .i64 tp, .int .i64 rate, .int .i64 one, .int .i64 cls, .int .i64 two, .int .i64 id, .int .i64 steps, .slice p n c] 28)) w.heap.size ⟨10, dom, seq, src, port, corr, time, tw, tp, rate, one, cls, two, id, steps, path⟩ (.slice p n c)) := Lib.hid (heap_alloc_new w _)
  go_enter Try.func9, Try.ntmps9
  go_wp2_with (first
    | ((with_reducible refine at_loadM ?_); refine wpList_loadM rfl _ rfl w.heap.size rfl #[.int .i64 10, .int .i64 dom, .int .i64 seq, .int .i64 src, .int .i64 port, .int .i64 corr, .int .i64 time, .int .i64 tw, .int .i64 tp, .int .i64 rate, .int .i64 one, .int .i64 cls, .int .i64 two, .int .i64 id, .int .i64 steps, .slice p n c] _ (heap_alloc_new w _) rfl ?_)
    | (go_at_call 12; (with_reducible refine (HC.out _ (bAl (bRef w) _)).mono ?_); rintro e w1 ⟨rfl, hb⟩; have HX := Lib.hid (HX0.out.below hb); have HO := Lib.hid (OwnN.start (bTr (bAl (bRef w) _) hb)); clear hb; have k0 := HX.out.c0; have k1 := HX.out.c1; dsimp only at k0 k1)
    | (go_at_call 18; (with_reducible refine (P0.out.go _ (by omega) _ _ _ (by simp) HO.out).mono ?_); rintro e wk0 ⟨v0, rfl, hown, hoth⟩; replace HO := Lib.hid hown; replace HX := Lib.hid (HX.out.oth hoth); clear hown hoth; have kseq0 := HX.out.c2; dsimp only at kseq0)
    | (go_at_call 18; (with_reducible refine (P1.out.go _ (by omega) _ _ _ (by simp) HO.out).mono ?_); rintro e wk1 ⟨v1, rfl, hown, hoth⟩; replace HO := Lib.hid hown; replace HX := Lib.hid (HX.out.oth hoth); clear hown hoth; have ksrc1 := HX.out.c3; dsimp only at ksrc1)
    | (go_at_call 18; (with_reducible refine (P2.out.go _ (by omega) _ _ _ (by simp) HO.out).mono ?_); rintro e wk2 ⟨v2, rfl, hown, hoth⟩; replace HO := Lib.hid hown; replace HX := Lib.hid (HX.out.oth hoth); clear hown hoth; have kport2 := HX.out.c4; dsimp only at kport2)
    | (go_at_call 18; (with_reducible refine (P3.out.go _ (by omega) _ _ _ (by simp) HO.out).mono ?_); rintro e wk3 ⟨v3, rfl, hown, hoth⟩; replace HO := Lib.hid hown; replace HX := Lib.hid (HX.out.oth hoth); clear hown hoth; have kcorr3 := HX.out.c5; dsimp only at kcorr3)
    | (go_at_call 18; (with_reducible refine (P4.out.go _ (by omega) _ _ _ (by simp) HO.out).mono ?_); rintro e wk4 ⟨v4, rfl, hown, hoth⟩; replace HO := Lib.hid hown; replace HX := Lib.hid (HX.out.oth hoth); clear hown hoth; have ktime4 := HX.out.c6; have kkind4 := HX.out.c0; dsimp only at ktime4 kkind4)
    | (go_at_call 18; (with_reducible refine (P5.out.go _ (by omega) _ _ _ (by simp) HO.out).mono ?_); rintro e wk5 ⟨v5, rfl, hown, hoth⟩; replace HO := Lib.hid hown; replace HX := Lib.hid (HX.out.oth hoth); clear hown hoth; have ktw5 := HX.out.c7; dsimp only at ktw5)
    | (go_at_call 18; (with_reducible refine (P6.out.go _ (by omega) _ _ _ (by simp) HO.out).mono ?_); rintro e wk6 ⟨v6, rfl, hown, hoth⟩; replace HO := Lib.hid hown; replace HX := Lib.hid (HX.out.oth hoth); clear hown hoth; have ktp6 := HX.out.c8; dsimp only at ktp6)
    | (go_at_call 18; (with_reducible refine (P7.out.go _ (by omega) _ _ _ (by simp) HO.out).mono ?_); rintro e wk7 ⟨v7, rfl, hown, hoth⟩; replace HO := Lib.hid hown; replace HX := Lib.hid (HX.out.oth hoth); clear hown hoth))
  go_ret2
  exact ⟨_, rfl, HO.out⟩

set_option maxHeartbeats 2000000 in
theorem enc_11 (dom seq src port corr time tw tp rate one cls two id steps : Int) (path : List Int) (o1 o2 o3 o4 o5 o6 o7 o8 o9 : List Nat) (p : Option Addr) (n c : Nat) (w : World)
    (HC : Hid (∀ wx, Below w.heap.size w wx → Calls Try.prog 12 #[.agg #[.int .i64 11, .int .i64 dom, .int .i64 seq, .int .i64 src, .int .i64 port, .int .i64 corr, .int .i64 time, .int .i64 tw, .int .i64 tp, .int .i64 rate, .int .i64 one, .int .i64 cls, .int .i64 two, .int .i64 id, .int .i64 steps, .slice p n c]] wx fun e w' => e = .returned (.int .i64 0) ∧ Below wx.heap.size wx w'))
    (P0 : Hid (PutTo w 1 #[.int .i64 27, .int .i64 dom] 2 [] o1))
    (P1 : Hid (PutTo w 2 #[.int .i64 seq] 1 o1 o2))
    (P2 : Hid (PutTo w 6 #[.int .i64 src] 1 o2 o3))
    (P3 : Hid (PutTo w 2 #[.int .i64 port] 1 o3 o4))
    (P4 : Hid (PutTo w 8 #[.int .i64 corr] 1 o4 o5))
    (P5 : Hid (PutTo w 1 #[.int .i64 one, .int .i64 cls, .int .i64 two] 3 o5 o6))
    (P6 : Hid (PutTo w 6 #[.int .i64 id] 1 o6 o7))
    (P7 : Hid (PutTo w 1 #[.int .i64 steps, .int .i64 (n : Int)] 2 o7 o8))
    (HA : Hid (PutPath w (.slice p n c) o8 o9)) :
    Calls Try.prog 9 #[.agg #[.int .i64 11, .int .i64 dom, .int .i64 seq, .int .i64 src, .int .i64 port, .int .i64 corr, .int .i64 time, .int .i64 tw, .int .i64 tp, .int .i64 rate, .int .i64 one, .int .i64 cls, .int .i64 two, .int .i64 id, .int .i64 steps, .slice p n c]] w fun e w' => ∃ v, e = .returned (.tuple #[v, .int .i64 0]) ∧ OwnN w w' v (o9) := by
  have HX0 : Hid (Boxed (w.alloc (.cells #[.int .i64 11, .int .i64 dom, .int .i64 seq, .int .i64 src, .int .i64 port, .int .i64 corr, .int .i64 time, .int .i64 tw, .int .i64 tp, .int .i64 rate, .int .i64 one, .int .i64 cls, .int .i64 two, .int .i64 id, .int .i64 steps, .slice p n c] 28)) w.heap.size ⟨11, dom, seq, src, port, corr, time, tw, tp, rate, one, cls, two, id, steps, path⟩ (.slice p n c)) := Lib.hid (heap_alloc_new w _)
  go_enter Try.func9, Try.ntmps9
  go_wp2_with (first
    | ((with_reducible refine at_loadM ?_); refine wpList_loadM rfl _ rfl w.heap.size rfl #[.int .i64 11, .int .i64 dom, .int .i64 seq, .int .i64 src, .int .i64 port, .int .i64 corr, .int .i64 time, .int .i64 tw, .int .i64 tp, .int .i64 rate, .int .i64 one, .int .i64 cls, .int .i64 two, .int .i64 id, .int .i64 steps, .slice p n c] _ (heap_alloc_new w _) rfl ?_)
    | (go_at_call 12; (with_reducible refine (HC.out _ (bAl (bRef w) _)).mono ?_); rintro e w1 ⟨rfl, hb⟩; have HX := Lib.hid (HX0.out.below hb); have HO := Lib.hid (OwnN.start (bTr (bAl (bRef w) _) hb)); clear hb; have k0 := HX.out.c0; have k1 := HX.out.c1; dsimp only at k0 k1)
    | (go_at_call 18; (with_reducible refine (P0.out.go _ (by omega) _ _ _ (by simp) HO.out).mono ?_); rintro e wk0 ⟨v0, rfl, hown, hoth⟩; replace HO := Lib.hid hown; replace HX := Lib.hid (HX.out.oth hoth); clear hown hoth; have kseq0 := HX.out.c2; dsimp only at kseq0)
    | (go_at_call 18; (with_reducible refine (P1.out.go _ (by omega) _ _ _ (by simp) HO.out).mono ?_); rintro e wk1 ⟨v1, rfl, hown, hoth⟩; replace HO := Lib.hid hown; replace HX := Lib.hid (HX.out.oth hoth); clear hown hoth; have ksrc1 := HX.out.c3; dsimp only at ksrc1)
    | (go_at_call 18; (with_reducible refine (P2.out.go _ (by omega) _ _ _ (by simp) HO.out).mono ?_); rintro e wk2 ⟨v2, rfl, hown, hoth⟩; replace HO := Lib.hid hown; replace HX := Lib.hid (HX.out.oth hoth); clear hown hoth; have kport2 := HX.out.c4; dsimp only at kport2)
    | (go_at_call 18; (with_reducible refine (P3.out.go _ (by omega) _ _ _ (by simp) HO.out).mono ?_); rintro e wk3 ⟨v3, rfl, hown, hoth⟩; replace HO := Lib.hid hown; replace HX := Lib.hid (HX.out.oth hoth); clear hown hoth; have kcorr3 := HX.out.c5; dsimp only at kcorr3)
    | (go_at_call 18; (with_reducible refine (P4.out.go _ (by omega) _ _ _ (by simp) HO.out).mono ?_); rintro e wk4 ⟨v4, rfl, hown, hoth⟩; replace HO := Lib.hid hown; replace HX := Lib.hid (HX.out.oth hoth); clear hown hoth; have kone4 := HX.out.c10; have kcls4 := HX.out.c11; have ktwo4 := HX.out.c12; have kkind4 := HX.out.c0; dsimp only at kone4 kcls4 ktwo4 kkind4)
    | (go_at_call 18; (with_reducible refine (P5.out.go _ (by omega) _ _ _ (by simp) HO.out).mono ?_); rintro e wk5 ⟨v5, rfl, hown, hoth⟩; replace HO := Lib.hid hown; replace HX := Lib.hid (HX.out.oth hoth); clear hown hoth; have kid5 := HX.out.c13; dsimp only at kid5)
    | (go_at_call 18; (with_reducible refine (P6.out.go _ (by omega) _ _ _ (by simp) HO.out).mono ?_); rintro e wk6 ⟨v6, rfl, hown, hoth⟩; replace HO := Lib.hid hown; replace HX := Lib.hid (HX.out.oth hoth); clear hown hoth; have ksteps6 := HX.out.c14; have kpath6 := HX.out.c15; dsimp only at ksteps6)
    | (go_at_call 18; (with_reducible refine (P7.out.go _ (by omega) _ _ _ (by simp) HO.out).mono ?_); rintro e wk7 ⟨v7, rfl, hown, hoth⟩; replace HO := Lib.hid hown; replace HX := Lib.hid (HX.out.oth hoth); clear hown hoth; have kpath7 := HX.out.c15)
    | (go_at_call 18; (with_reducible refine (HA.out.go _ _ HO.out).mono ?_); rintro e wk9 ⟨v9, rfl, hown, hoth⟩; replace HO := Lib.hid hown; clear hown hoth))
  go_ret2
  exact ⟨_, rfl, HO.out⟩

end Go.Proofs.Ytcdcklkbjfhhnaa
