/- Package ptp: numbers laid behind bytes. -/
import Derived.Test.YtcdcklkbjfhhnaaPtWithin
import Derived.Laws.ShiftsVarLaws
namespace Go.Proofs.Ytcdcklkbjfhhnaa
open Go.RowKit Go.Joins

/-- A number in so many bytes, the highest first. -/
def be (n : Nat) (x : Int) : List Nat := (List.range n).map fun i => ((x / 2 ^ ((n - 1 - i) * 8)) % 256).toNat
theorem be_len (n : Nat) (x : Int) : (be n x).length = n := by simp [be]
theorem be_take {n i : Nat} {x : Int} (h : i < n) : (be n x).take (i + 1) = (be n x).take i ++ [((x / 2 ^ ((n - 1 - i) * 8)) % 256).toNat] := by
  rw [List.take_succ_eq_append_getElem (by rw [be_len]; exact h)]
  simp [be]
theorem eq_byte (y : Int) : y % 256 = (((y % 256).toNat : Nat) : Int) := by omega
theorem byte_lt (y : Int) : (y % 256).toNat < 256 := by omega
theorem be_bytes (n : Nat) (x : Int) : Crc.Bytes (be n x) := by
  intro y hy
  simp only [be, List.mem_map] at hy
  obtain ⟨i, _, rfl⟩ := hy
  omega
def bes (n : Nat) (ys : List Int) : List Nat := ys.flatMap (be n)
theorem bes_take {n k : Nat} {ys : List Int} (h : k < ys.length) : bes n (ys.take (k + 1)) = bes n (ys.take k) ++ be n (ys.getD k 0) := by
  unfold bes
  rw [take_snocI h, List.flatMap_append]
  simp
theorem bes_len (n : Nat) (ys : List Int) : (bes n ys).length = n * ys.length := by
  unfold bes
  induction ys with
  | nil => simp
  | cons y l ih => rw [List.flatMap_cons, List.length_append, ih, be_len, List.length_cons, Nat.mul_succ]; omega

/-- Where the ints are read, whatever is laid. -/
def Reads (w0 w : World) (v : Value) (ys : List Int) : Prop := ∀ wr, Below w0.heap.size w0 wr → Oth w wr → LArg wr v ys

def PutRel (w0 w : World) (os : List Nat) (n : Nat) (ys : List Int) (bv iv : Value) (wr : World) : Prop :=
  ∃ k : Nat, k ≤ ys.length ∧ iv = .int .i64 (k : Int) ∧ OwnN w0 wr bv (os ++ bes n (ys.take k)) ∧ Oth w wr
def PutRel2 (w0 w : World) (os : List Nat) (n : Nat) (x : Int) (bv iv : Value) (wr : World) : Prop :=
  ∃ k : Nat, k ≤ n ∧ iv = .int .i64 (k : Int) ∧ OwnN w0 wr bv (os ++ (be n x).take k) ∧ Oth w wr

set_option maxHeartbeats 2000000 in
theorem put_some {w0 w : World} {v : Value} {os : List Nat} {ys : List Int} {b o c n : Nat} (h : OwnN w0 w v os) (hi : Reads w0 w (.slice (some ⟨b, o, none⟩) ys.length c) ys) (hn1 : 1 ≤ n) (hn8 : n ≤ 8) (hl : os.length + 8 * ys.length ≤ 140737488355000) :
    Calls Try.prog 18 #[v, .int .i64 (n : Int), .slice (some ⟨b, o, none⟩) ys.length c] w fun e w' => ∃ v', e = .returned v' ∧ OwnN w0 w' v' (os ++ bes n ys) ∧ Oth w w' := by
  have HI := Lib.hid hi
  have HO := Lib.hid h
  clear h hi
  obtain ⟨m, hm⟩ : ∃ m, m = ys.length := ⟨_, rfl⟩
  rw [← hm] at hl HI ⊢
  have Hm := Lib.hid hm
  have HL := Lib.hid hl
  have hm2 : m ≤ 9223372036854775807 := by omega
  clear hm hl
  go_enter Try.func18, Try.ntmps18
  go_wp2_with fail
  go_loopw [0, 12] (fun bv iv wr => PutRel w0 w os n ys bv iv wr) (fun _ iv _ => m - (intOf iv).toNat)
  case atStart => exact ⟨0, by omega, rfl, ownN_eq HO.out (by simp [bes]), Oth.refl w⟩
  case round =>
    obtain ⟨k, hk, rfl, hown, hoth⟩ := hrel
    have HW := Lib.hid hown
    have HT := Lib.hid hoth
    clear hown hoth
    rw [← Hm.out] at hk
    rcases Nat.lt_or_ge k m with gk | gk
    · have hd : decide ((k : Int) < (m : Int)) = true := decide_eq_true (by omega)
      have HA := Lib.hid (HI.out _ HW.out.bel HT.out)
      have hcell : wr.cell? ⟨b, o + k, none⟩ = some (.int .i64 (ys.getD k 0)) := by
        rcases HA.out.2 with ⟨e, _⟩ | ⟨h0, b', o', c', e, _, hr⟩
        · rw [e] at Hm; have := Hm.out; simp at this; omega
        · injection e with e1 _ _
          injection e1 with e2
          injection e2 with e3 e4 _
          subst e3 e4
          exact (hr h0).2 k (by rw [← Hm.out]; exact gk)
      have hb := in_getD HA.out.1 k
      unfold In64 at hb
      obtain ⟨x, hxe⟩ : ∃ x, x = ys.getD k 0 := ⟨_, rfl⟩
      rw [← hxe] at hcell hb
      have Hx := Lib.hid hxe
      have Hk := Lib.hid (show k < ys.length by rw [← Hm.out]; exact gk)
      clear hxe
      have HLn := Lib.hid (show (os ++ bes n (ys.take k)).length + 8 ≤ 140737488355328 by
        have := HL.out
        have hmul : n * k ≤ 8 * m := Nat.mul_le_mul hn8 (by omega)
        rw [List.length_append, bes_len, List.length_take, Nat.min_eq_left (by rw [← Hm.out]; omega)]; omega)
      obtain ⟨wo, rfl⟩ : ∃ wo : World, wo = wr := ⟨_, rfl⟩
      go_wp2_with fail
      go_loopw [0, 17] (fun bv iv wr => PutRel2 w0 wo (os ++ bes n (ys.take k)) n x bv iv wr) (fun _ iv _ => n - (intOf iv).toNat)
      case atStart => exact ⟨0, by omega, rfl, ownN_eq HW.out (by simp), Oth.refl _⟩
      case round =>
        obtain ⟨i, hi, rfl, hown, hoth⟩ := hrel
        have HV := Lib.hid hown
        have HU := Lib.hid hoth
        clear hown hoth
        rcases Nat.lt_or_ge i n with gi | gi
        · have HL2 : Hid ((os ++ bes n (ys.take k) ++ (be n x).take i).length + [0].length ≤ 140737488355328) := Lib.hid (by
            have := HLn.out
            rw [List.length_append, List.length_take, be_len]; simp only [List.length_cons, List.length_nil]; omega)
          have hd2 : decide ((i : Int) < (n : Int)) = true := decide_eq_true (by omega)
          go_wp2_with (at_builtin; refine wpList_appn rfl _ _ rfl w0 _ u0 (.slice (some ⟨wr.heap.size, 0, none⟩) 1 1) _ [((x / 2 ^ ((n - 1 - i) * 8)) % 256).toNat] rfl rfl (HV.out.alloc _) (BArg.one wr _ (byte_lt _) _ (eq_byte _) _) HL2.out ?_; intro v3 w3 hown hoth)
          go_roundw
          case rel => exact ⟨i + 1, gi, by go_num, ownN_eq hown (by rw [be_take gi]; simp), HU.out.trans ((Oth.below (bAl (bRef wr) _)).trans hoth)⟩
          case measure => simp [intOf]; omega
        · obtain rfl : i = n := by omega
          go_wp2_with fail
          go_roundw
          case rel => exact ⟨k + 1, Hk.out, by go_num, ownN_eq HV.out (by rw [bes_take Hk.out, ← Hx.out, List.take_of_length_le (Nat.le_of_eq (be_len _ _)), List.append_assoc]), HT.out.trans HU.out⟩
          case measure => simp [intOf]; omega
    · obtain rfl : k = m := by omega
      go_wp2_with fail
      go_ret
      exact ⟨_, rfl, ownN_eq HW.out (by rw [Hm.out, List.take_length]), HT.out⟩

theorem put_none {w : World} {v : Value} {a : Option Addr} {c n : Nat} : Calls Try.prog 18 #[v, .int .i64 (n : Int), .slice a 0 c] w fun e w' => e = .returned v ∧ w = w' := by
  go_enter Try.func18, Try.ntmps18
  go_wp2_with fail
  go_loop [0, 12] (fun b i => b = v ∧ i = .int .i64 0) (fun _ _ => 0)
  case atStart => exact ⟨rfl, rfl⟩
  case round =>
    obtain ⟨rfl, rfl⟩ := hrel
    go_wp2_with fail
    go_ret
    exact ⟨rfl, rfl⟩
/-- put. -/
theorem put_any {w0 w : World} {v lv : Value} {os : List Nat} {ys : List Int} {n : Nat} (h : OwnN w0 w v os) (hi : Reads w0 w lv ys) (hn1 : 1 ≤ n) (hn8 : n ≤ 8) (hl : os.length + 8 * ys.length ≤ 140737488355000) :
    Calls Try.prog 18 #[v, .int .i64 (n : Int), lv] w fun e w' => ∃ v', e = .returned v' ∧ OwnN w0 w' v' (os ++ bes n ys) ∧ Oth w w' := by
  rcases (hi w h.bel (Oth.refl w)).2 with ⟨rfl, a, c, rfl, _⟩ | ⟨h0, b, o, c, rfl, hc, hr⟩
  · exact put_none.mono fun e w' ⟨he, hw⟩ => ⟨v, he, hw ▸ ownN_eq h (by simp [bes]), hw ▸ Oth.refl w⟩
  · exact put_some h hi hn1 hn8 hl
theorem put_go {w0 w : World} {v lv : Value} {os : List Nat} {ys : List Int} (n : Nat) (z : Int) (hz : z = (n : Int)) (h : OwnN w0 w v os) (hi : Reads w0 w lv ys) (hn1 : 1 ≤ n) (hn8 : n ≤ 8) (hl : os.length + 8 * ys.length ≤ 140737488355000) :
    Calls Try.prog 18 #[v, .int .i64 z, lv] w fun e w' => ∃ v', e = .returned v' ∧ OwnN w0 w' v' (os ++ bes n ys) ∧ Oth w w' := by
  subst hz; exact put_any h hi hn1 hn8 hl
/-- Ints in a new row are read, whatever is laid. -/
theorem Reads.new {w0 w : World} {ys : List Int} {cs : Array Value} (h : cs = (ys.map (Value.int .i64)).toArray) (hy : ∀ x ∈ ys, In64 x) (n c : Nat) (hn : n = ys.length) (hc : ys.length ≤ c) : Reads w0 (w.alloc (.cells cs 3)) (.slice (some ⟨w.heap.size, 0, none⟩) n c) ys := fun wr _ ho => by
  subst hn
  exact ((IRow.new w ys cs h).oth ho).arg hy hc
theorem Reads.arg {w0 w : World} {v : Value} {ys : List Int} (h : LArg w0 v ys) : Reads w0 w v ys := fun _ hb _ => h.below hb

end Go.Proofs.Ytcdcklkbjfhhnaa
