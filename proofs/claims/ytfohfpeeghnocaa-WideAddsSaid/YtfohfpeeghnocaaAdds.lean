/- WideAdds: sums and differences of any numbers, and which is greater, held against the digits. -/
import Derived.Test.YtfohfpeeghnocaaSame
import Derived.Test.YtfohfpeeghnocaaSt
import Derived.Test.YtfohfpeeghnocaaMd
import Derived.Test.YtfohfpeeghnocaaSub
import Derived.Test.YtfohfpeeghnocaaDSub
namespace Go.Proofs.Ytfohfpeeghnocaa
open Go.RowKit

set_option maxHeartbeats 4000000 in
theorem adds_over_lt (a1 a0 b1 b0 x y : Nat) (c : Int) (ha1 : a1 < 18446744073709551616) (ha0 : a0 < 18446744073709551616) (hb1 : b1 < 18446744073709551616) (hb0 : b0 < 18446744073709551616)
    (hx : a1 * 18446744073709551616 + a0 = x) (hy : b1 * 18446744073709551616 + b0 = y) (hxl : x < 65536 ^ 8) (hyl : y < 65536 ^ 8) (hc : Dg.cmpN x y = c) (hcs : c < 0)
    (ho : 65536 ^ 8 ≤ x + y)
    
    (H7 : Ret 12 #[.int .u64 7] (.agg #[.int .u64 0, .int .u64 7]))
    (HA : Ret 14 #[.agg #[.int .u64 (a1 : Int), .int .u64 (a0 : Int)], .agg #[.int .u64 (b1 : Int), .int .u64 (b0 : Int)]] (.tuple #[.agg #[.int .u64 0, .int .u64 0], .int .i64 10]))
    (HS : Ret 18 #[.agg #[.int .u64 (a1 : Int), .int .u64 (a0 : Int)], .agg #[.int .u64 (b1 : Int), .int .u64 (b0 : Int)]] (.tuple #[.agg #[.int .u64 0, .int .u64 0], .int .i64 10]))
    (HK : Ret 20 #[.agg #[.int .u64 (a1 : Int), .int .u64 (a0 : Int)], .agg #[.int .u64 (b1 : Int), .int .u64 (b0 : Int)]] (.int .i64 c)) (w : World) :
    Calls Try.prog 3 #[.agg #[.int .u64 (a1 : Int), .int .u64 (a0 : Int)], .agg #[.int .u64 (b1 : Int), .int .u64 (b0 : Int)]] w fun e w' => e = .returned (.bool true) ∧ Below w.heap.size w w' := by
  have HH := ((St.start w).alloc2 (.int .u64 (a1 : Int)) (.int .u64 (a0 : Int)) 24).alloc2 (.int .u64 (b1 : Int)) (.int .u64 (b0 : Int)) 24
  have HPX := Lib.hid (fun W => hx ▸ pair_any a1 a0 ha1 ha0 W)
  have HPY := Lib.hid (fun W => hy ▸ pair_any b1 b0 hb1 hb0 W)
  have HC := Lib.hid hc
  have HXL := Lib.hid hxl
  have HYL := Lib.hid hyl
  have HO := Lib.hid ho
  clear hx hy hc hxl hyl ho
  go_enter Try.func3, Try.ntmps3
  go_wp2_with (first
    | (go_at_call 12; (with_reducible refine (H7.go _).mono ?_); rintro e wx ⟨rfl, hb⟩; (first | replace HH := HH.call hb | replace HH := HH.drew.call hb | replace HH := (HH.alloc2 _ _ _).call hb | replace HH := (HH.alloc2 _ _ _).drew.call hb | replace HH := ((HH.alloc2 _ _ _).alloc2 _ _ _).call hb); clear hb; (try clear ff); have ff := HH.facts; simp [Facts] at ff)
    | (go_at_call 13; (with_reducible refine (HPX.out _).mono ?_); rintro e wx ⟨vx, rfl, hnx, hb, hfx⟩; have NX := Lib.hid hnx; clear hnx hfx; (first | replace HH := HH.call hb | replace HH := HH.drew.call hb | replace HH := (HH.alloc2 _ _ _).call hb | replace HH := (HH.alloc2 _ _ _).drew.call hb | replace HH := ((HH.alloc2 _ _ _).alloc2 _ _ _).call hb); clear hb; (try clear ff); have ff := HH.facts; simp [Facts] at ff)
    | (go_at_call 13; (with_reducible refine (HPY.out _).mono ?_); rintro e wx ⟨vy, rfl, hny, hb, hfy⟩; have NY := Lib.hid hny; clear hny hfy; (first | replace NX := Lib.hid (NX.out.below hb) | replace NX := Lib.hid (NX.out.drew.below hb) | replace NX := Lib.hid ((NX.out.drewN _).below hb) | replace NX := Lib.hid ((NX.out.below (bAl (bRef _) _)).below hb) | replace NX := Lib.hid ((NX.out.below (bAl (bRef _) _)).drew.below hb)); (first | replace HH := HH.call hb | replace HH := HH.drew.call hb | replace HH := (HH.alloc2 _ _ _).call hb | replace HH := (HH.alloc2 _ _ _).drew.call hb | replace HH := ((HH.alloc2 _ _ _).alloc2 _ _ _).call hb); clear hb; (try clear ff); have ff := HH.facts; simp [Facts] at ff)
    | (go_at_call 14; (with_reducible refine (HA.go _).mono ?_); rintro e wx ⟨rfl, hb⟩; (first | replace NX := Lib.hid (NX.out.below hb) | replace NX := Lib.hid (NX.out.drew.below hb) | replace NX := Lib.hid ((NX.out.drewN _).below hb) | replace NX := Lib.hid ((NX.out.below (bAl (bRef _) _)).below hb) | replace NX := Lib.hid ((NX.out.below (bAl (bRef _) _)).drew.below hb)); (first | replace NY := Lib.hid (NY.out.below hb) | replace NY := Lib.hid (NY.out.drew.below hb) | replace NY := Lib.hid ((NY.out.drewN _).below hb) | replace NY := Lib.hid ((NY.out.below (bAl (bRef _) _)).below hb) | replace NY := Lib.hid ((NY.out.below (bAl (bRef _) _)).drew.below hb)); (first | replace HH := HH.call hb | replace HH := HH.drew.call hb | replace HH := (HH.alloc2 _ _ _).call hb | replace HH := (HH.alloc2 _ _ _).drew.call hb | replace HH := ((HH.alloc2 _ _ _).alloc2 _ _ _).call hb); clear hb; (try clear ff); have ff := HH.facts; simp [Facts] at ff)
    | (go_at_call 15; (with_reducible refine (add_any (NX.out.below (bAl (bRef _) _)) (NY.out.below (bAl (bRef _) _)) (L := 8) HXL.out HYL.out (by omega)).mono ?_); rintro e wx ⟨vw, rfl, hnw, hb, hfw⟩; (first | replace NX := Lib.hid (NX.out.below hb) | replace NX := Lib.hid (NX.out.drew.below hb) | replace NX := Lib.hid ((NX.out.drewN _).below hb) | replace NX := Lib.hid ((NX.out.below (bAl (bRef _) _)).below hb) | replace NX := Lib.hid ((NX.out.below (bAl (bRef _) _)).drew.below hb)); (first | replace NY := Lib.hid (NY.out.below hb) | replace NY := Lib.hid (NY.out.drew.below hb) | replace NY := Lib.hid ((NY.out.drewN _).below hb) | replace NY := Lib.hid ((NY.out.below (bAl (bRef _) _)).below hb) | replace NY := Lib.hid ((NY.out.below (bAl (bRef _) _)).drew.below hb)); obtain ⟨bw, ow, cw, dw, rfl, hcw, hrw, hdw⟩ := hnw; obtain ⟨nw, hnw⟩ : ∃ nw, nw = dw.length := ⟨_, rfl⟩; have hlen : (8 : Int) < (nw : Int) := (by have := hdw.len_gt HO.out; omega); rw [← hnw]; have NW : Hid (Num _ (.slice (some ⟨bw, ow, none⟩) nw cw) (x + y)) := Lib.hid ⟨bw, ow, cw, dw, (by rw [hnw]), hcw, hrw, hdw⟩; clear hfw hcw hrw hdw hnw; (first | replace HH := HH.call hb | replace HH := HH.drew.call hb | replace HH := (HH.alloc2 _ _ _).call hb | replace HH := (HH.alloc2 _ _ _).drew.call hb | replace HH := ((HH.alloc2 _ _ _).alloc2 _ _ _).call hb); clear hb; (try clear ff); have ff := HH.facts; simp [Facts] at ff)
    | (go_at_call 17; (with_reducible refine (cmp_at NX.out NY.out (L := 8) HXL.out (by omega) HC.out).mono ?_); rintro e wx ⟨rfl, q9, rfl⟩; replace NX := Lib.hid (NX.out.drewN q9); replace NY := Lib.hid (NY.out.drewN q9); replace HH := HH.drewN q9)
    | (go_at_call 18; (with_reducible refine (HS.go _).mono ?_); rintro e wx ⟨rfl, hb⟩; (first | replace NX := Lib.hid (NX.out.below hb) | replace NX := Lib.hid (NX.out.drew.below hb) | replace NX := Lib.hid ((NX.out.drewN _).below hb) | replace NX := Lib.hid ((NX.out.below (bAl (bRef _) _)).below hb) | replace NX := Lib.hid ((NX.out.below (bAl (bRef _) _)).drew.below hb)); (first | replace NY := Lib.hid (NY.out.below hb) | replace NY := Lib.hid (NY.out.drew.below hb) | replace NY := Lib.hid ((NY.out.drewN _).below hb) | replace NY := Lib.hid ((NY.out.below (bAl (bRef _) _)).below hb) | replace NY := Lib.hid ((NY.out.below (bAl (bRef _) _)).drew.below hb)); (first | replace HH := HH.call hb | replace HH := HH.drew.call hb | replace HH := (HH.alloc2 _ _ _).call hb | replace HH := (HH.alloc2 _ _ _).drew.call hb | replace HH := ((HH.alloc2 _ _ _).alloc2 _ _ _).call hb); clear hb; (try clear ff); have ff := HH.facts; simp [Facts] at ff)
    | (go_at_call 20; (with_reducible refine (HK.go _).mono ?_); rintro e wx ⟨rfl, hb⟩; (first | replace HH := HH.call hb | replace HH := HH.drew.call hb | replace HH := (HH.alloc2 _ _ _).call hb | replace HH := (HH.alloc2 _ _ _).drew.call hb | replace HH := ((HH.alloc2 _ _ _).alloc2 _ _ _).call hb); clear hb; (try clear ff); have ff := HH.facts; simp [Facts] at ff))
  go_ret
  exact ⟨ret_b (by simp), HH.below⟩

set_option maxHeartbeats 4000000 in
theorem adds_over_ge (a1 a0 b1 b0 x y d1 d0 : Nat) (c : Int) (ha1 : a1 < 18446744073709551616) (ha0 : a0 < 18446744073709551616) (hb1 : b1 < 18446744073709551616) (hb0 : b0 < 18446744073709551616)
    (hx : a1 * 18446744073709551616 + a0 = x) (hy : b1 * 18446744073709551616 + b0 = y) (hxl : x < 65536 ^ 8) (hyl : y < 65536 ^ 8) (hc : Dg.cmpN x y = c) (hcs : 0 ≤ c)
    (ho : 65536 ^ 8 ≤ x + y)
    (hyx : y ≤ x) (hd1 : d1 < 18446744073709551616) (hd0 : d0 < 18446744073709551616) (hd : d1 * 18446744073709551616 + d0 = x - y)
    (H7 : Ret 12 #[.int .u64 7] (.agg #[.int .u64 0, .int .u64 7]))
    (HA : Ret 14 #[.agg #[.int .u64 (a1 : Int), .int .u64 (a0 : Int)], .agg #[.int .u64 (b1 : Int), .int .u64 (b0 : Int)]] (.tuple #[.agg #[.int .u64 0, .int .u64 0], .int .i64 10]))
    (HS : Ret 18 #[.agg #[.int .u64 (a1 : Int), .int .u64 (a0 : Int)], .agg #[.int .u64 (b1 : Int), .int .u64 (b0 : Int)]] (.tuple #[.agg #[.int .u64 (d1 : Int), .int .u64 (d0 : Int)], .int .i64 0]))
    (HK : Ret 20 #[.agg #[.int .u64 (a1 : Int), .int .u64 (a0 : Int)], .agg #[.int .u64 (b1 : Int), .int .u64 (b0 : Int)]] (.int .i64 c)) (w : World) :
    Calls Try.prog 3 #[.agg #[.int .u64 (a1 : Int), .int .u64 (a0 : Int)], .agg #[.int .u64 (b1 : Int), .int .u64 (b0 : Int)]] w fun e w' => e = .returned (.bool true) ∧ Below w.heap.size w w' := by
  have HH := ((St.start w).alloc2 (.int .u64 (a1 : Int)) (.int .u64 (a0 : Int)) 24).alloc2 (.int .u64 (b1 : Int)) (.int .u64 (b0 : Int)) 24
  have HPX := Lib.hid (fun W => hx ▸ pair_any a1 a0 ha1 ha0 W)
  have HPY := Lib.hid (fun W => hy ▸ pair_any b1 b0 hb1 hb0 W)
  have HC := Lib.hid hc
  have HXL := Lib.hid hxl
  have HYL := Lib.hid hyl
  have HO := Lib.hid ho
  have HDD := Lib.hid hd
  clear hx hy hc hxl hyl ho hd
  go_enter Try.func3, Try.ntmps3
  go_wp2_with (first
    | (go_at_call 12; (with_reducible refine (H7.go _).mono ?_); rintro e wx ⟨rfl, hb⟩; (first | replace HH := HH.call hb | replace HH := HH.drew.call hb | replace HH := (HH.alloc2 _ _ _).call hb | replace HH := (HH.alloc2 _ _ _).drew.call hb | replace HH := ((HH.alloc2 _ _ _).alloc2 _ _ _).call hb); clear hb; (try clear ff); have ff := HH.facts; simp [Facts] at ff)
    | (go_at_call 13; (with_reducible refine (HPX.out _).mono ?_); rintro e wx ⟨vx, rfl, hnx, hb, hfx⟩; have NX := Lib.hid hnx; clear hnx hfx; (first | replace HH := HH.call hb | replace HH := HH.drew.call hb | replace HH := (HH.alloc2 _ _ _).call hb | replace HH := (HH.alloc2 _ _ _).drew.call hb | replace HH := ((HH.alloc2 _ _ _).alloc2 _ _ _).call hb); clear hb; (try clear ff); have ff := HH.facts; simp [Facts] at ff)
    | (go_at_call 13; (with_reducible refine (HPY.out _).mono ?_); rintro e wx ⟨vy, rfl, hny, hb, hfy⟩; have NY := Lib.hid hny; clear hny hfy; (first | replace NX := Lib.hid (NX.out.below hb) | replace NX := Lib.hid (NX.out.drew.below hb) | replace NX := Lib.hid ((NX.out.drewN _).below hb) | replace NX := Lib.hid ((NX.out.below (bAl (bRef _) _)).below hb) | replace NX := Lib.hid ((NX.out.below (bAl (bRef _) _)).drew.below hb)); (first | replace HH := HH.call hb | replace HH := HH.drew.call hb | replace HH := (HH.alloc2 _ _ _).call hb | replace HH := (HH.alloc2 _ _ _).drew.call hb | replace HH := ((HH.alloc2 _ _ _).alloc2 _ _ _).call hb); clear hb; (try clear ff); have ff := HH.facts; simp [Facts] at ff)
    | (go_at_call 14; (with_reducible refine (HA.go _).mono ?_); rintro e wx ⟨rfl, hb⟩; (first | replace NX := Lib.hid (NX.out.below hb) | replace NX := Lib.hid (NX.out.drew.below hb) | replace NX := Lib.hid ((NX.out.drewN _).below hb) | replace NX := Lib.hid ((NX.out.below (bAl (bRef _) _)).below hb) | replace NX := Lib.hid ((NX.out.below (bAl (bRef _) _)).drew.below hb)); (first | replace NY := Lib.hid (NY.out.below hb) | replace NY := Lib.hid (NY.out.drew.below hb) | replace NY := Lib.hid ((NY.out.drewN _).below hb) | replace NY := Lib.hid ((NY.out.below (bAl (bRef _) _)).below hb) | replace NY := Lib.hid ((NY.out.below (bAl (bRef _) _)).drew.below hb)); (first | replace HH := HH.call hb | replace HH := HH.drew.call hb | replace HH := (HH.alloc2 _ _ _).call hb | replace HH := (HH.alloc2 _ _ _).drew.call hb | replace HH := ((HH.alloc2 _ _ _).alloc2 _ _ _).call hb); clear hb; (try clear ff); have ff := HH.facts; simp [Facts] at ff)
    | (go_at_call 15; (with_reducible refine (add_any (NX.out.below (bAl (bRef _) _)) (NY.out.below (bAl (bRef _) _)) (L := 8) HXL.out HYL.out (by omega)).mono ?_); rintro e wx ⟨vw, rfl, hnw, hb, hfw⟩; (first | replace NX := Lib.hid (NX.out.below hb) | replace NX := Lib.hid (NX.out.drew.below hb) | replace NX := Lib.hid ((NX.out.drewN _).below hb) | replace NX := Lib.hid ((NX.out.below (bAl (bRef _) _)).below hb) | replace NX := Lib.hid ((NX.out.below (bAl (bRef _) _)).drew.below hb)); (first | replace NY := Lib.hid (NY.out.below hb) | replace NY := Lib.hid (NY.out.drew.below hb) | replace NY := Lib.hid ((NY.out.drewN _).below hb) | replace NY := Lib.hid ((NY.out.below (bAl (bRef _) _)).below hb) | replace NY := Lib.hid ((NY.out.below (bAl (bRef _) _)).drew.below hb)); obtain ⟨bw, ow, cw, dw, rfl, hcw, hrw, hdw⟩ := hnw; obtain ⟨nw, hnw⟩ : ∃ nw, nw = dw.length := ⟨_, rfl⟩; have hlen : (8 : Int) < (nw : Int) := (by have := hdw.len_gt HO.out; omega); rw [← hnw]; have NW : Hid (Num _ (.slice (some ⟨bw, ow, none⟩) nw cw) (x + y)) := Lib.hid ⟨bw, ow, cw, dw, (by rw [hnw]), hcw, hrw, hdw⟩; clear hfw hcw hrw hdw hnw; (first | replace HH := HH.call hb | replace HH := HH.drew.call hb | replace HH := (HH.alloc2 _ _ _).call hb | replace HH := (HH.alloc2 _ _ _).drew.call hb | replace HH := ((HH.alloc2 _ _ _).alloc2 _ _ _).call hb); clear hb; (try clear ff); have ff := HH.facts; simp [Facts] at ff)
    | (go_at_call 17; (with_reducible refine (cmp_at NX.out NY.out (L := 8) HXL.out (by omega) HC.out).mono ?_); rintro e wx ⟨rfl, q9, rfl⟩; replace NX := Lib.hid (NX.out.drewN q9); replace NY := Lib.hid (NY.out.drewN q9); replace HH := HH.drewN q9)
    | (go_at_call 18; (with_reducible refine (HS.go _).mono ?_); rintro e wx ⟨rfl, hb⟩; (first | replace NX := Lib.hid (NX.out.below hb) | replace NX := Lib.hid (NX.out.drew.below hb) | replace NX := Lib.hid ((NX.out.drewN _).below hb) | replace NX := Lib.hid ((NX.out.below (bAl (bRef _) _)).below hb) | replace NX := Lib.hid ((NX.out.below (bAl (bRef _) _)).drew.below hb)); (first | replace NY := Lib.hid (NY.out.below hb) | replace NY := Lib.hid (NY.out.drew.below hb) | replace NY := Lib.hid ((NY.out.drewN _).below hb) | replace NY := Lib.hid ((NY.out.below (bAl (bRef _) _)).below hb) | replace NY := Lib.hid ((NY.out.below (bAl (bRef _) _)).drew.below hb)); (first | replace HH := HH.call hb | replace HH := HH.drew.call hb | replace HH := (HH.alloc2 _ _ _).call hb | replace HH := (HH.alloc2 _ _ _).drew.call hb | replace HH := ((HH.alloc2 _ _ _).alloc2 _ _ _).call hb); clear hb; (try clear ff); have ff := HH.facts; simp [Facts] at ff)
    | (go_at_call 20; (with_reducible refine (HK.go _).mono ?_); rintro e wx ⟨rfl, hb⟩; (first | replace HH := HH.call hb | replace HH := HH.drew.call hb | replace HH := (HH.alloc2 _ _ _).call hb | replace HH := (HH.alloc2 _ _ _).drew.call hb | replace HH := ((HH.alloc2 _ _ _).alloc2 _ _ _).call hb); clear hb; (try clear ff); have ff := HH.facts; simp [Facts] at ff))
  have H3 : St w [(wx.heap.size, .int .u64 (d1 : Int), .int .u64 (d0 : Int)), (w.heap.size + 1, .int .u64 (b1 : Int), .int .u64 (b0 : Int)), (w.heap.size, .int .u64 (a1 : Int), .int .u64 (a0 : Int))] (wx.alloc (.cells #[.int .u64 (d1 : Int), .int .u64 (d0 : Int)] 24)) := (HH.alloc2 _ _ _).sub (by simp)
  have HNX : Hid (Num (wx.alloc (.cells #[.int .u64 (d1 : Int), .int .u64 (d0 : Int)] 24)).drew vx x) := Lib.hid ((NX.out.below (bAl (bRef _) _)).drew)
  have HNY : Hid (Num (wx.alloc (.cells #[.int .u64 (d1 : Int), .int .u64 (d0 : Int)] 24)).drew vy y) := Lib.hid ((NY.out.below (bAl (bRef _) _)).drew)
  clear HH ff
  go_region_held3 (fun W => W.cell? ⟨wx.heap.size, 0, none⟩ = some (.int .u64 (d1 : Int)) ∧ W.cell? ⟨wx.heap.size, 1, none⟩ = some (.int .u64 (d0 : Int)) ∧ W.cell? ⟨w.heap.size + 1, 0, none⟩ = some (.int .u64 (b1 : Int)) ∧ W.cell? ⟨w.heap.size + 1, 1, none⟩ = some (.int .u64 (b0 : Int)) ∧
      W.cell? ⟨w.heap.size, 0, none⟩ = some (.int .u64 (a1 : Int)) ∧ W.cell? ⟨w.heap.size, 1, none⟩ = some (.int .u64 (a0 : Int)) ∧ St w [(wx.heap.size, .int .u64 (d1 : Int), .int .u64 (d0 : Int)), (w.heap.size + 1, .int .u64 (b1 : Int), .int .u64 (b0 : Int)), (w.heap.size, .int .u64 (a1 : Int), .int .u64 (a0 : Int))] W)
    (first | exact H3.drew.three | (go_split_ands; first | exact (St.call (by assumption) hb1).three | exact (St.call (by assumption) hb2).three))
    (first | (go_at_call 19; (with_reducible refine (sub_any HNX.out HNY.out hyx (L := 8) HXL.out (by omega)).mono ?_); rintro e w1 ⟨vd, rfl, hnd, hb1, hfd⟩) | (go_at_call 16; (with_reducible refine (same_any d1 d0 _ _ hd1 hd0 _ hnd HDD.out).mono ?_); rintro e w2 ⟨rfl, hb2⟩))
  go_split_ands
  go_wp2_with (go_at_call 20; (with_reducible refine (HK.go _).mono ?_); rintro e w3 ⟨rfl, hb3⟩)
  go_ret
  exact ⟨ret_b (by simp), bTr (St.below (by assumption)) hb3⟩

set_option maxHeartbeats 4000000 in
theorem adds_ok_lt (a1 a0 b1 b0 x y s1 s0 : Nat) (c : Int) (ha1 : a1 < 18446744073709551616) (ha0 : a0 < 18446744073709551616) (hb1 : b1 < 18446744073709551616) (hb0 : b0 < 18446744073709551616)
    (hx : a1 * 18446744073709551616 + a0 = x) (hy : b1 * 18446744073709551616 + b0 = y) (hxl : x < 65536 ^ 8) (hyl : y < 65536 ^ 8) (hc : Dg.cmpN x y = c) (hcs : c < 0)
    (ho : x + y < 65536 ^ 8) (hs1 : s1 < 18446744073709551616) (hs0 : s0 < 18446744073709551616) (hs : s1 * 18446744073709551616 + s0 = x + y)
    
    (H7 : Ret 12 #[.int .u64 7] (.agg #[.int .u64 0, .int .u64 7]))
    (HA : Ret 14 #[.agg #[.int .u64 (a1 : Int), .int .u64 (a0 : Int)], .agg #[.int .u64 (b1 : Int), .int .u64 (b0 : Int)]] (.tuple #[.agg #[.int .u64 (s1 : Int), .int .u64 (s0 : Int)], .int .i64 0]))
    (HS : Ret 18 #[.agg #[.int .u64 (a1 : Int), .int .u64 (a0 : Int)], .agg #[.int .u64 (b1 : Int), .int .u64 (b0 : Int)]] (.tuple #[.agg #[.int .u64 0, .int .u64 0], .int .i64 10]))
    (HK : Ret 20 #[.agg #[.int .u64 (a1 : Int), .int .u64 (a0 : Int)], .agg #[.int .u64 (b1 : Int), .int .u64 (b0 : Int)]] (.int .i64 c)) (w : World) :
    Calls Try.prog 3 #[.agg #[.int .u64 (a1 : Int), .int .u64 (a0 : Int)], .agg #[.int .u64 (b1 : Int), .int .u64 (b0 : Int)]] w fun e w' => e = .returned (.bool true) ∧ Below w.heap.size w w' := by
  have HH := ((St.start w).alloc2 (.int .u64 (a1 : Int)) (.int .u64 (a0 : Int)) 24).alloc2 (.int .u64 (b1 : Int)) (.int .u64 (b0 : Int)) 24
  have HPX := Lib.hid (fun W => hx ▸ pair_any a1 a0 ha1 ha0 W)
  have HPY := Lib.hid (fun W => hy ▸ pair_any b1 b0 hb1 hb0 W)
  have HC := Lib.hid hc
  have HXL := Lib.hid hxl
  have HYL := Lib.hid hyl
  have HO := Lib.hid ho
  have HSS := Lib.hid hs
  clear hx hy hc hxl hyl ho hs
  go_enter Try.func3, Try.ntmps3
  go_wp2_with (first
    | (go_at_call 12; (with_reducible refine (H7.go _).mono ?_); rintro e wx ⟨rfl, hb⟩; (first | replace HH := HH.call hb | replace HH := HH.drew.call hb | replace HH := (HH.alloc2 _ _ _).call hb | replace HH := (HH.alloc2 _ _ _).drew.call hb | replace HH := ((HH.alloc2 _ _ _).alloc2 _ _ _).call hb); clear hb; (try clear ff); have ff := HH.facts; simp [Facts] at ff)
    | (go_at_call 13; (with_reducible refine (HPX.out _).mono ?_); rintro e wx ⟨vx, rfl, hnx, hb, hfx⟩; have NX := Lib.hid hnx; clear hnx hfx; (first | replace HH := HH.call hb | replace HH := HH.drew.call hb | replace HH := (HH.alloc2 _ _ _).call hb | replace HH := (HH.alloc2 _ _ _).drew.call hb | replace HH := ((HH.alloc2 _ _ _).alloc2 _ _ _).call hb); clear hb; (try clear ff); have ff := HH.facts; simp [Facts] at ff)
    | (go_at_call 13; (with_reducible refine (HPY.out _).mono ?_); rintro e wx ⟨vy, rfl, hny, hb, hfy⟩; have NY := Lib.hid hny; clear hny hfy; (first | replace NX := Lib.hid (NX.out.below hb) | replace NX := Lib.hid (NX.out.drew.below hb) | replace NX := Lib.hid ((NX.out.drewN _).below hb) | replace NX := Lib.hid ((NX.out.below (bAl (bRef _) _)).below hb) | replace NX := Lib.hid ((NX.out.below (bAl (bRef _) _)).drew.below hb)); (first | replace HH := HH.call hb | replace HH := HH.drew.call hb | replace HH := (HH.alloc2 _ _ _).call hb | replace HH := (HH.alloc2 _ _ _).drew.call hb | replace HH := ((HH.alloc2 _ _ _).alloc2 _ _ _).call hb); clear hb; (try clear ff); have ff := HH.facts; simp [Facts] at ff)
    | (go_at_call 14; (with_reducible refine (HA.go _).mono ?_); rintro e wx ⟨rfl, hb⟩; (first | replace NX := Lib.hid (NX.out.below hb) | replace NX := Lib.hid (NX.out.drew.below hb) | replace NX := Lib.hid ((NX.out.drewN _).below hb) | replace NX := Lib.hid ((NX.out.below (bAl (bRef _) _)).below hb) | replace NX := Lib.hid ((NX.out.below (bAl (bRef _) _)).drew.below hb)); (first | replace NY := Lib.hid (NY.out.below hb) | replace NY := Lib.hid (NY.out.drew.below hb) | replace NY := Lib.hid ((NY.out.drewN _).below hb) | replace NY := Lib.hid ((NY.out.below (bAl (bRef _) _)).below hb) | replace NY := Lib.hid ((NY.out.below (bAl (bRef _) _)).drew.below hb)); (first | replace HH := HH.call hb | replace HH := HH.drew.call hb | replace HH := (HH.alloc2 _ _ _).call hb | replace HH := (HH.alloc2 _ _ _).drew.call hb | replace HH := ((HH.alloc2 _ _ _).alloc2 _ _ _).call hb); clear hb; (try clear ff); have ff := HH.facts; simp [Facts] at ff)
    | (go_at_call 15; (with_reducible refine (add_any (NX.out.below (bAl (bRef _) _)) (NY.out.below (bAl (bRef _) _)) (L := 8) HXL.out HYL.out (by omega)).mono ?_); rintro e wx ⟨vw, rfl, hnw, hb, hfw⟩; (first | replace NX := Lib.hid (NX.out.below hb) | replace NX := Lib.hid (NX.out.drew.below hb) | replace NX := Lib.hid ((NX.out.drewN _).below hb) | replace NX := Lib.hid ((NX.out.below (bAl (bRef _) _)).below hb) | replace NX := Lib.hid ((NX.out.below (bAl (bRef _) _)).drew.below hb)); (first | replace NY := Lib.hid (NY.out.below hb) | replace NY := Lib.hid (NY.out.drew.below hb) | replace NY := Lib.hid ((NY.out.drewN _).below hb) | replace NY := Lib.hid ((NY.out.below (bAl (bRef _) _)).below hb) | replace NY := Lib.hid ((NY.out.below (bAl (bRef _) _)).drew.below hb)); obtain ⟨bw, ow, cw, dw, rfl, hcw, hrw, hdw⟩ := hnw; obtain ⟨nw, hnw⟩ : ∃ nw, nw = dw.length := ⟨_, rfl⟩; have hlen : (nw : Int) ≤ 8 := (by have := hdw.len_le HO.out; omega); rw [← hnw]; have NW : Hid (Num _ (.slice (some ⟨bw, ow, none⟩) nw cw) (x + y)) := Lib.hid ⟨bw, ow, cw, dw, (by rw [hnw]), hcw, hrw, hdw⟩; clear hfw hcw hrw hdw hnw; (first | replace HH := HH.call hb | replace HH := HH.drew.call hb | replace HH := (HH.alloc2 _ _ _).call hb | replace HH := (HH.alloc2 _ _ _).drew.call hb | replace HH := ((HH.alloc2 _ _ _).alloc2 _ _ _).call hb); clear hb; (try clear ff); have ff := HH.facts; simp [Facts] at ff)
    | (go_at_call 16; (with_reducible refine (same_any s1 s0 _ _ hs1 hs0 _ NW.out HSS.out).mono ?_); rintro e wx ⟨rfl, hb⟩; (first | replace NX := Lib.hid (NX.out.below hb) | replace NX := Lib.hid (NX.out.drew.below hb) | replace NX := Lib.hid ((NX.out.drewN _).below hb) | replace NX := Lib.hid ((NX.out.below (bAl (bRef _) _)).below hb) | replace NX := Lib.hid ((NX.out.below (bAl (bRef _) _)).drew.below hb)); (first | replace NY := Lib.hid (NY.out.below hb) | replace NY := Lib.hid (NY.out.drew.below hb) | replace NY := Lib.hid ((NY.out.drewN _).below hb) | replace NY := Lib.hid ((NY.out.below (bAl (bRef _) _)).below hb) | replace NY := Lib.hid ((NY.out.below (bAl (bRef _) _)).drew.below hb)); (first | replace HH := HH.call hb | replace HH := HH.drew.call hb | replace HH := (HH.alloc2 _ _ _).call hb | replace HH := (HH.alloc2 _ _ _).drew.call hb | replace HH := ((HH.alloc2 _ _ _).alloc2 _ _ _).call hb); clear hb; (try clear ff); have ff := HH.facts; simp [Facts] at ff)
    | (go_at_call 17; (with_reducible refine (cmp_at NX.out NY.out (L := 8) HXL.out (by omega) HC.out).mono ?_); rintro e wx ⟨rfl, q9, rfl⟩; replace NX := Lib.hid (NX.out.drewN q9); replace NY := Lib.hid (NY.out.drewN q9); replace HH := HH.drewN q9)
    | (go_at_call 18; (with_reducible refine (HS.go _).mono ?_); rintro e wx ⟨rfl, hb⟩; (first | replace NX := Lib.hid (NX.out.below hb) | replace NX := Lib.hid (NX.out.drew.below hb) | replace NX := Lib.hid ((NX.out.drewN _).below hb) | replace NX := Lib.hid ((NX.out.below (bAl (bRef _) _)).below hb) | replace NX := Lib.hid ((NX.out.below (bAl (bRef _) _)).drew.below hb)); (first | replace NY := Lib.hid (NY.out.below hb) | replace NY := Lib.hid (NY.out.drew.below hb) | replace NY := Lib.hid ((NY.out.drewN _).below hb) | replace NY := Lib.hid ((NY.out.below (bAl (bRef _) _)).below hb) | replace NY := Lib.hid ((NY.out.below (bAl (bRef _) _)).drew.below hb)); (first | replace HH := HH.call hb | replace HH := HH.drew.call hb | replace HH := (HH.alloc2 _ _ _).call hb | replace HH := (HH.alloc2 _ _ _).drew.call hb | replace HH := ((HH.alloc2 _ _ _).alloc2 _ _ _).call hb); clear hb; (try clear ff); have ff := HH.facts; simp [Facts] at ff)
    | (go_at_call 20; (with_reducible refine (HK.go _).mono ?_); rintro e wx ⟨rfl, hb⟩; (first | replace HH := HH.call hb | replace HH := HH.drew.call hb | replace HH := (HH.alloc2 _ _ _).call hb | replace HH := (HH.alloc2 _ _ _).drew.call hb | replace HH := ((HH.alloc2 _ _ _).alloc2 _ _ _).call hb); clear hb; (try clear ff); have ff := HH.facts; simp [Facts] at ff))
  go_ret
  exact ⟨ret_b (by simp), HH.below⟩

set_option maxHeartbeats 4000000 in
theorem adds_ok_ge (a1 a0 b1 b0 x y s1 s0 d1 d0 : Nat) (c : Int) (ha1 : a1 < 18446744073709551616) (ha0 : a0 < 18446744073709551616) (hb1 : b1 < 18446744073709551616) (hb0 : b0 < 18446744073709551616)
    (hx : a1 * 18446744073709551616 + a0 = x) (hy : b1 * 18446744073709551616 + b0 = y) (hxl : x < 65536 ^ 8) (hyl : y < 65536 ^ 8) (hc : Dg.cmpN x y = c) (hcs : 0 ≤ c)
    (ho : x + y < 65536 ^ 8) (hs1 : s1 < 18446744073709551616) (hs0 : s0 < 18446744073709551616) (hs : s1 * 18446744073709551616 + s0 = x + y)
    (hyx : y ≤ x) (hd1 : d1 < 18446744073709551616) (hd0 : d0 < 18446744073709551616) (hd : d1 * 18446744073709551616 + d0 = x - y)
    (H7 : Ret 12 #[.int .u64 7] (.agg #[.int .u64 0, .int .u64 7]))
    (HA : Ret 14 #[.agg #[.int .u64 (a1 : Int), .int .u64 (a0 : Int)], .agg #[.int .u64 (b1 : Int), .int .u64 (b0 : Int)]] (.tuple #[.agg #[.int .u64 (s1 : Int), .int .u64 (s0 : Int)], .int .i64 0]))
    (HS : Ret 18 #[.agg #[.int .u64 (a1 : Int), .int .u64 (a0 : Int)], .agg #[.int .u64 (b1 : Int), .int .u64 (b0 : Int)]] (.tuple #[.agg #[.int .u64 (d1 : Int), .int .u64 (d0 : Int)], .int .i64 0]))
    (HK : Ret 20 #[.agg #[.int .u64 (a1 : Int), .int .u64 (a0 : Int)], .agg #[.int .u64 (b1 : Int), .int .u64 (b0 : Int)]] (.int .i64 c)) (w : World) :
    Calls Try.prog 3 #[.agg #[.int .u64 (a1 : Int), .int .u64 (a0 : Int)], .agg #[.int .u64 (b1 : Int), .int .u64 (b0 : Int)]] w fun e w' => e = .returned (.bool true) ∧ Below w.heap.size w w' := by
  have HH := ((St.start w).alloc2 (.int .u64 (a1 : Int)) (.int .u64 (a0 : Int)) 24).alloc2 (.int .u64 (b1 : Int)) (.int .u64 (b0 : Int)) 24
  have HPX := Lib.hid (fun W => hx ▸ pair_any a1 a0 ha1 ha0 W)
  have HPY := Lib.hid (fun W => hy ▸ pair_any b1 b0 hb1 hb0 W)
  have HC := Lib.hid hc
  have HXL := Lib.hid hxl
  have HYL := Lib.hid hyl
  have HO := Lib.hid ho
  have HSS := Lib.hid hs
  have HDD := Lib.hid hd
  clear hx hy hc hxl hyl ho hs hd
  go_enter Try.func3, Try.ntmps3
  go_wp2_with (first
    | (go_at_call 12; (with_reducible refine (H7.go _).mono ?_); rintro e wx ⟨rfl, hb⟩; (first | replace HH := HH.call hb | replace HH := HH.drew.call hb | replace HH := (HH.alloc2 _ _ _).call hb | replace HH := (HH.alloc2 _ _ _).drew.call hb | replace HH := ((HH.alloc2 _ _ _).alloc2 _ _ _).call hb); clear hb; (try clear ff); have ff := HH.facts; simp [Facts] at ff)
    | (go_at_call 13; (with_reducible refine (HPX.out _).mono ?_); rintro e wx ⟨vx, rfl, hnx, hb, hfx⟩; have NX := Lib.hid hnx; clear hnx hfx; (first | replace HH := HH.call hb | replace HH := HH.drew.call hb | replace HH := (HH.alloc2 _ _ _).call hb | replace HH := (HH.alloc2 _ _ _).drew.call hb | replace HH := ((HH.alloc2 _ _ _).alloc2 _ _ _).call hb); clear hb; (try clear ff); have ff := HH.facts; simp [Facts] at ff)
    | (go_at_call 13; (with_reducible refine (HPY.out _).mono ?_); rintro e wx ⟨vy, rfl, hny, hb, hfy⟩; have NY := Lib.hid hny; clear hny hfy; (first | replace NX := Lib.hid (NX.out.below hb) | replace NX := Lib.hid (NX.out.drew.below hb) | replace NX := Lib.hid ((NX.out.drewN _).below hb) | replace NX := Lib.hid ((NX.out.below (bAl (bRef _) _)).below hb) | replace NX := Lib.hid ((NX.out.below (bAl (bRef _) _)).drew.below hb)); (first | replace HH := HH.call hb | replace HH := HH.drew.call hb | replace HH := (HH.alloc2 _ _ _).call hb | replace HH := (HH.alloc2 _ _ _).drew.call hb | replace HH := ((HH.alloc2 _ _ _).alloc2 _ _ _).call hb); clear hb; (try clear ff); have ff := HH.facts; simp [Facts] at ff)
    | (go_at_call 14; (with_reducible refine (HA.go _).mono ?_); rintro e wx ⟨rfl, hb⟩; (first | replace NX := Lib.hid (NX.out.below hb) | replace NX := Lib.hid (NX.out.drew.below hb) | replace NX := Lib.hid ((NX.out.drewN _).below hb) | replace NX := Lib.hid ((NX.out.below (bAl (bRef _) _)).below hb) | replace NX := Lib.hid ((NX.out.below (bAl (bRef _) _)).drew.below hb)); (first | replace NY := Lib.hid (NY.out.below hb) | replace NY := Lib.hid (NY.out.drew.below hb) | replace NY := Lib.hid ((NY.out.drewN _).below hb) | replace NY := Lib.hid ((NY.out.below (bAl (bRef _) _)).below hb) | replace NY := Lib.hid ((NY.out.below (bAl (bRef _) _)).drew.below hb)); (first | replace HH := HH.call hb | replace HH := HH.drew.call hb | replace HH := (HH.alloc2 _ _ _).call hb | replace HH := (HH.alloc2 _ _ _).drew.call hb | replace HH := ((HH.alloc2 _ _ _).alloc2 _ _ _).call hb); clear hb; (try clear ff); have ff := HH.facts; simp [Facts] at ff)
    | (go_at_call 15; (with_reducible refine (add_any (NX.out.below (bAl (bRef _) _)) (NY.out.below (bAl (bRef _) _)) (L := 8) HXL.out HYL.out (by omega)).mono ?_); rintro e wx ⟨vw, rfl, hnw, hb, hfw⟩; (first | replace NX := Lib.hid (NX.out.below hb) | replace NX := Lib.hid (NX.out.drew.below hb) | replace NX := Lib.hid ((NX.out.drewN _).below hb) | replace NX := Lib.hid ((NX.out.below (bAl (bRef _) _)).below hb) | replace NX := Lib.hid ((NX.out.below (bAl (bRef _) _)).drew.below hb)); (first | replace NY := Lib.hid (NY.out.below hb) | replace NY := Lib.hid (NY.out.drew.below hb) | replace NY := Lib.hid ((NY.out.drewN _).below hb) | replace NY := Lib.hid ((NY.out.below (bAl (bRef _) _)).below hb) | replace NY := Lib.hid ((NY.out.below (bAl (bRef _) _)).drew.below hb)); obtain ⟨bw, ow, cw, dw, rfl, hcw, hrw, hdw⟩ := hnw; obtain ⟨nw, hnw⟩ : ∃ nw, nw = dw.length := ⟨_, rfl⟩; have hlen : (nw : Int) ≤ 8 := (by have := hdw.len_le HO.out; omega); rw [← hnw]; have NW : Hid (Num _ (.slice (some ⟨bw, ow, none⟩) nw cw) (x + y)) := Lib.hid ⟨bw, ow, cw, dw, (by rw [hnw]), hcw, hrw, hdw⟩; clear hfw hcw hrw hdw hnw; (first | replace HH := HH.call hb | replace HH := HH.drew.call hb | replace HH := (HH.alloc2 _ _ _).call hb | replace HH := (HH.alloc2 _ _ _).drew.call hb | replace HH := ((HH.alloc2 _ _ _).alloc2 _ _ _).call hb); clear hb; (try clear ff); have ff := HH.facts; simp [Facts] at ff)
    | (go_at_call 16; (with_reducible refine (same_any s1 s0 _ _ hs1 hs0 _ NW.out HSS.out).mono ?_); rintro e wx ⟨rfl, hb⟩; (first | replace NX := Lib.hid (NX.out.below hb) | replace NX := Lib.hid (NX.out.drew.below hb) | replace NX := Lib.hid ((NX.out.drewN _).below hb) | replace NX := Lib.hid ((NX.out.below (bAl (bRef _) _)).below hb) | replace NX := Lib.hid ((NX.out.below (bAl (bRef _) _)).drew.below hb)); (first | replace NY := Lib.hid (NY.out.below hb) | replace NY := Lib.hid (NY.out.drew.below hb) | replace NY := Lib.hid ((NY.out.drewN _).below hb) | replace NY := Lib.hid ((NY.out.below (bAl (bRef _) _)).below hb) | replace NY := Lib.hid ((NY.out.below (bAl (bRef _) _)).drew.below hb)); (first | replace HH := HH.call hb | replace HH := HH.drew.call hb | replace HH := (HH.alloc2 _ _ _).call hb | replace HH := (HH.alloc2 _ _ _).drew.call hb | replace HH := ((HH.alloc2 _ _ _).alloc2 _ _ _).call hb); clear hb; (try clear ff); have ff := HH.facts; simp [Facts] at ff)
    | (go_at_call 17; (with_reducible refine (cmp_at NX.out NY.out (L := 8) HXL.out (by omega) HC.out).mono ?_); rintro e wx ⟨rfl, q9, rfl⟩; replace NX := Lib.hid (NX.out.drewN q9); replace NY := Lib.hid (NY.out.drewN q9); replace HH := HH.drewN q9)
    | (go_at_call 18; (with_reducible refine (HS.go _).mono ?_); rintro e wx ⟨rfl, hb⟩; (first | replace NX := Lib.hid (NX.out.below hb) | replace NX := Lib.hid (NX.out.drew.below hb) | replace NX := Lib.hid ((NX.out.drewN _).below hb) | replace NX := Lib.hid ((NX.out.below (bAl (bRef _) _)).below hb) | replace NX := Lib.hid ((NX.out.below (bAl (bRef _) _)).drew.below hb)); (first | replace NY := Lib.hid (NY.out.below hb) | replace NY := Lib.hid (NY.out.drew.below hb) | replace NY := Lib.hid ((NY.out.drewN _).below hb) | replace NY := Lib.hid ((NY.out.below (bAl (bRef _) _)).below hb) | replace NY := Lib.hid ((NY.out.below (bAl (bRef _) _)).drew.below hb)); (first | replace HH := HH.call hb | replace HH := HH.drew.call hb | replace HH := (HH.alloc2 _ _ _).call hb | replace HH := (HH.alloc2 _ _ _).drew.call hb | replace HH := ((HH.alloc2 _ _ _).alloc2 _ _ _).call hb); clear hb; (try clear ff); have ff := HH.facts; simp [Facts] at ff)
    | (go_at_call 20; (with_reducible refine (HK.go _).mono ?_); rintro e wx ⟨rfl, hb⟩; (first | replace HH := HH.call hb | replace HH := HH.drew.call hb | replace HH := (HH.alloc2 _ _ _).call hb | replace HH := (HH.alloc2 _ _ _).drew.call hb | replace HH := ((HH.alloc2 _ _ _).alloc2 _ _ _).call hb); clear hb; (try clear ff); have ff := HH.facts; simp [Facts] at ff))
  have H3 : St w [(wx.heap.size, .int .u64 (d1 : Int), .int .u64 (d0 : Int)), (w.heap.size + 1, .int .u64 (b1 : Int), .int .u64 (b0 : Int)), (w.heap.size, .int .u64 (a1 : Int), .int .u64 (a0 : Int))] (wx.alloc (.cells #[.int .u64 (d1 : Int), .int .u64 (d0 : Int)] 24)) := (HH.alloc2 _ _ _).sub (by simp)
  have HNX : Hid (Num (wx.alloc (.cells #[.int .u64 (d1 : Int), .int .u64 (d0 : Int)] 24)).drew vx x) := Lib.hid ((NX.out.below (bAl (bRef _) _)).drew)
  have HNY : Hid (Num (wx.alloc (.cells #[.int .u64 (d1 : Int), .int .u64 (d0 : Int)] 24)).drew vy y) := Lib.hid ((NY.out.below (bAl (bRef _) _)).drew)
  clear HH ff
  go_region_held3 (fun W => W.cell? ⟨wx.heap.size, 0, none⟩ = some (.int .u64 (d1 : Int)) ∧ W.cell? ⟨wx.heap.size, 1, none⟩ = some (.int .u64 (d0 : Int)) ∧ W.cell? ⟨w.heap.size + 1, 0, none⟩ = some (.int .u64 (b1 : Int)) ∧ W.cell? ⟨w.heap.size + 1, 1, none⟩ = some (.int .u64 (b0 : Int)) ∧
      W.cell? ⟨w.heap.size, 0, none⟩ = some (.int .u64 (a1 : Int)) ∧ W.cell? ⟨w.heap.size, 1, none⟩ = some (.int .u64 (a0 : Int)) ∧ St w [(wx.heap.size, .int .u64 (d1 : Int), .int .u64 (d0 : Int)), (w.heap.size + 1, .int .u64 (b1 : Int), .int .u64 (b0 : Int)), (w.heap.size, .int .u64 (a1 : Int), .int .u64 (a0 : Int))] W)
    (first | exact H3.drew.three | (go_split_ands; first | exact (St.call (by assumption) hb1).three | exact (St.call (by assumption) hb2).three))
    (first | (go_at_call 19; (with_reducible refine (sub_any HNX.out HNY.out hyx (L := 8) HXL.out (by omega)).mono ?_); rintro e w1 ⟨vd, rfl, hnd, hb1, hfd⟩) | (go_at_call 16; (with_reducible refine (same_any d1 d0 _ _ hd1 hd0 _ hnd HDD.out).mono ?_); rintro e w2 ⟨rfl, hb2⟩))
  go_split_ands
  go_wp2_with (go_at_call 20; (with_reducible refine (HK.go _).mono ?_); rintro e w3 ⟨rfl, hb3⟩)
  go_ret
  exact ⟨ret_b (by simp), bTr (St.below (by assumption)) hb3⟩

theorem adds_walk (a1 a0 b1 b0 : Int) (h1 : 0 ≤ a1) (k1 : a1 < 18446744073709551616) (h2 : 0 ≤ a0) (k2 : a0 < 18446744073709551616) (h3 : 0 ≤ b1) (k3 : b1 < 18446744073709551616) (h4 : 0 ≤ b0) (k4 : b0 < 18446744073709551616) (w : World) :
    Calls Try.prog 3 #[.agg #[.int .u64 a1, .int .u64 a0], .agg #[.int .u64 b1, .int .u64 b0]] w fun e w' => e = .returned (.bool true) ∧ Below w.heap.size w w' := by
  obtain ⟨a1, rfl⟩ := Int.eq_ofNat_of_zero_le h1
  obtain ⟨a0, rfl⟩ := Int.eq_ofNat_of_zero_le h2
  obtain ⟨b1, rfl⟩ := Int.eq_ofNat_of_zero_le h3
  obtain ⟨b0, rfl⟩ := Int.eq_ofNat_of_zero_le h4
  have H7 : Ret 12 #[.int .u64 7] (.agg #[.int .u64 0, .int .u64 7]) := fun w => wOf 7 w
  obtain ⟨x, hx⟩ : ∃ x, a1 * 18446744073709551616 + a0 = x := ⟨_, rfl⟩
  obtain ⟨y, hy⟩ : ∃ y, b1 * 18446744073709551616 + b0 = y := ⟨_, rfl⟩
  have hxl : x < 65536 ^ 8 := by omega
  have hyl : y < 65536 ^ 8 := by omega
  have hK : ∃ c : Int, Dg.cmpN x y = c ∧ (x < y → c < 0) ∧ (y ≤ x → 0 ≤ c) ∧ Ret 20 #[.agg #[.int .u64 (a1 : Int), .int .u64 (a0 : Int)], .agg #[.int .u64 (b1 : Int), .int .u64 (b0 : Int)]] (.int .i64 c) := by
    rcases Nat.lt_trichotomy x y with h | h | h
    · exact ⟨-1, Dg.cmpN_lt h, fun _ => by omega, fun _ => by omega, fun w => wCmp_lt _ _ _ _ (by omega) w⟩
    · have e1 : a1 = b1 := by omega
      have e0 : a0 = b0 := by omega
      subst e1 e0
      exact ⟨0, Dg.cmpN_eq' h, fun _ => by omega, fun _ => by omega, fun w => wCmp_eq _ _ w⟩
    · exact ⟨1, Dg.cmpN_gt h, fun _ => by omega, fun _ => by omega, fun w => wCmp_gt _ _ _ _ (by omega) w⟩
  obtain ⟨c, hc, hc1, hc2, HK⟩ := hK
  have HAo : 65536 ^ 8 ≤ x + y → Ret 14 #[.agg #[.int .u64 (a1 : Int), .int .u64 (a0 : Int)], .agg #[.int .u64 (b1 : Int), .int .u64 (b0 : Int)]] (.tuple #[.agg #[.int .u64 0, .int .u64 0], .int .i64 10]) := fun ho w => wAdd_over _ _ _ _ h1 h2 h3 h4 k1 k2 k3 k4 (by omega) w
  have HAk : x + y < 65536 ^ 8 → Ret 14 #[.agg #[.int .u64 (a1 : Int), .int .u64 (a0 : Int)], .agg #[.int .u64 (b1 : Int), .int .u64 (b0 : Int)]] (.tuple #[.agg #[.int .u64 (((x + y) / 18446744073709551616 : Nat) : Int), .int .u64 (((x + y) % 18446744073709551616 : Nat) : Int)], .int .i64 0]) := fun ho w => by
    refine (wAdd_ok _ _ _ _ h1 h2 h3 h4 k1 k2 k3 k4 (by omega) w).mono fun e w' h => ⟨h.1.trans (ret_eq ?_), h.2⟩
    rw [agg2_eq (k := .u64) (j := .u64) (c := (((x + y) / 18446744073709551616 : Nat) : Int)) (d := (((x + y) % 18446744073709551616 : Nat) : Int)) (by omega) (by omega)]
  have HSl : x < y → Ret 18 #[.agg #[.int .u64 (a1 : Int), .int .u64 (a0 : Int)], .agg #[.int .u64 (b1 : Int), .int .u64 (b0 : Int)]] (.tuple #[.agg #[.int .u64 0, .int .u64 0], .int .i64 10]) := fun ho w => by
    rcases Nat.lt_or_ge a0 b0 with h | h
    · exact wSub_under _ _ _ _ 1 h1 h2 h3 h4 k1 k2 k3 k4 (by omega) (by omega) w
    · exact wSub_under _ _ _ _ 0 h1 h2 h3 h4 k1 k2 k3 k4 (by omega) (by omega) w
  have HSk : y ≤ x → Ret 18 #[.agg #[.int .u64 (a1 : Int), .int .u64 (a0 : Int)], .agg #[.int .u64 (b1 : Int), .int .u64 (b0 : Int)]] (.tuple #[.agg #[.int .u64 (((x - y) / 18446744073709551616 : Nat) : Int), .int .u64 (((x - y) % 18446744073709551616 : Nat) : Int)], .int .i64 0]) := fun ho w => by
    rcases Nat.lt_or_ge a0 b0 with h | h
    · refine (wSub_ok _ _ _ _ 1 h1 h2 h3 h4 k1 k2 k3 k4 (by omega) (by omega) w).mono fun e w' h => ⟨h.1.trans (ret_eq ?_), h.2⟩
      rw [agg2_eq (k := .u64) (j := .u64) (c := (((x - y) / 18446744073709551616 : Nat) : Int)) (d := (((x - y) % 18446744073709551616 : Nat) : Int)) (by omega) (by omega)]
    · refine (wSub_ok _ _ _ _ 0 h1 h2 h3 h4 k1 k2 k3 k4 (by omega) (by omega) w).mono fun e w' h => ⟨h.1.trans (ret_eq ?_), h.2⟩
      rw [agg2_eq (k := .u64) (j := .u64) (c := (((x - y) / 18446744073709551616 : Nat) : Int)) (d := (((x - y) % 18446744073709551616 : Nat) : Int)) (by omega) (by omega)]
  have hz1 : (x - y) / 18446744073709551616 < 18446744073709551616 := by omega
  have hz2 : (x - y) % 18446744073709551616 < 18446744073709551616 := Nat.mod_lt _ (by omega)
  have hz3 : (x - y) / 18446744073709551616 * 18446744073709551616 + (x - y) % 18446744073709551616 = x - y := Nat.div_add_mod' _ _
  have hw2 : (x + y) % 18446744073709551616 < 18446744073709551616 := Nat.mod_lt _ (by omega)
  have hw3 : (x + y) / 18446744073709551616 * 18446744073709551616 + (x + y) % 18446744073709551616 = x + y := Nat.div_add_mod' _ _
  rcases Nat.lt_or_ge (x + y) (65536 ^ 8) with ho | ho
  · have hw1 : (x + y) / 18446744073709551616 < 18446744073709551616 := by omega
    rcases Nat.lt_or_ge x y with hl | hl
    · exact adds_ok_lt a1 a0 b1 b0 x y ((x + y) / 18446744073709551616) ((x + y) % 18446744073709551616) c (by omega) (by omega) (by omega) (by omega) hx hy hxl hyl hc (hc1 hl) ho hw1 hw2 hw3 H7 (HAk ho) (HSl hl) HK w
    · exact adds_ok_ge a1 a0 b1 b0 x y ((x + y) / 18446744073709551616) ((x + y) % 18446744073709551616) ((x - y) / 18446744073709551616) ((x - y) % 18446744073709551616) c (by omega) (by omega) (by omega) (by omega) hx hy hxl hyl hc (hc2 hl) ho hw1 hw2 hw3 hl hz1 hz2 hz3 H7 (HAk ho) (HSk hl) HK w
  · rcases Nat.lt_or_ge x y with hl | hl
    · exact adds_over_lt a1 a0 b1 b0 x y c (by omega) (by omega) (by omega) (by omega) hx hy hxl hyl hc (hc1 hl) ho H7 (HAo ho) (HSl hl) HK w
    · exact adds_over_ge a1 a0 b1 b0 x y ((x - y) / 18446744073709551616) ((x - y) % 18446744073709551616) c (by omega) (by omega) (by omega) (by omega) hx hy hxl hyl hc (hc2 hl) ho hl hz1 hz2 hz3 H7 (HAo ho) (HSk hl) HK w

end Go.Proofs.Ytfohfpeeghnocaa
