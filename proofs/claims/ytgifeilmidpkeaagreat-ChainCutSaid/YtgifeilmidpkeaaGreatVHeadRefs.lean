import Derived.Test.YtgifeilmidpkeaaGreatVRefClosed
import Derived.Test.YtgifeilmidpkeaaGreatVHeadCore
import Derived.Test.YtgifeilmidpkeaaGreatVAlike
namespace Go.Proofs.YtgifeilmidpkeaaGreat.hd
open Go.RowKit mem base row rowBack fill crc crcMath ref
open super (r0 take2 sumOf)
theorem take_body (H : Hd) : (rowF 64 H.head).bs.take 60 = H.body := by
 show (H.head ++ List.replicate (64 - H.head.length) 0).take 60 = H.body
 rw [H.head_len]
 unfold Hd.body
 rw [List.take_append, H.head_len, List.take_of_length_le (by rw [H.head_len]; omega), List.take_replicate]
 rfl

set_option maxRecDepth 100000 in
theorem rbytes_new (H : Hd) (w : World) (h : H.may = true) :
  Calls Tryz.prog 79 #[H.val] w fun e w' => ∃ g, e = .returned (.tuple #[.slice (some ⟨g, 0, none⟩) 64 64, .int .i64 0]) ∧ w.heap.size ≤ g ∧ Arr w' g 64 H.bytes ∧ Kept [] w w' := by
 have HB := hide (Blk.new w 139 H.cells)
 have HK := hide ((Kept.refl [] w).alloc (.cells H.cells 139))
 have HF := hide (fits_small H h)
 unfold Hd.val
 go_enter Tryz.func79, Tryz.ntmps79
 go_wp2_with fail
 refine (rmay_any H _).mono ?_
 rintro e w1 ⟨rfl, hk⟩
 rw [h]
 have HB1 := hide (hk.blk HB.out (by simp))
 have HK1 := hide (HK.out.trans hk (by simp))
 clear hk
 have hb1 := HB1.out.lt
 obtain ⟨q, hq⟩ : ∃ q, w.heap.size = q := ⟨_, rfl⟩
 have hq2 := HK1.out.size
 rw [hq] at HB HB1 hb1 hq2 ⊢
 clear HB HK
 go_wp2_with fail
 refine (rbegun_any 64 75 72 _ (by omega) (by omega)).mono ?_
 rintro e w2 ⟨p, g, rfl, hp, hg, hr, hk⟩
 have hp2 := hr.lt
 have hg2 := hr.blt
 have HGW := hide (show q ≤ g by omega)
 have HR2 := hide hr
 have HB2 := hide (hk.blk HB1.out (by simp))
 have HK2 := hide (HK1.out.trans hk (by simp))
 clear hr hk HB1 HK1
 obtain ⟨c0, c1, c2, c3⟩ := Hd.cell_at HB2.out
 have e1 := rowF_put 64 [75, 72] 1 [H.g] rfl HF.out.1 (by simp)
 have E1 := hide e1
 clear e1
 go_wp2_with fail
 refine (rone_any p g _ _ 1 H.g _ HR2.out (congrArg Prod.snd E1.out)).mono ?_
 rintro e w4 ⟨rfl, hr, hk⟩
 have hs4 := hk.size
 have HR4 := hide hr
 have HB4 := hide (hk.blk HB2.out (by simp; omega))
 have HK4 := hide (HK2.out.trans hk (by simp; omega))
 clear hr hk c0 c1 c2 c3 HR2 HB2 HK2
 obtain ⟨c0, c1, c2, c3⟩ := Hd.cell_at HB4.out
 go_wp2_with fail
 refine (rput_at p g _ 4 (some ⟨w4.heap.size, 0, none⟩) [H.m, H.l, H.v] 3 3 _ rfl (HR4.out.kept (S := []) ((Kept.refl _ w4).alloc _) (by simp) (by simp)) (Vals.lit w4 [p, g] _ _ _ ([H.m, H.l, H.v].map I) rfl (by simp; omega)) (by omega)).mono ?_
 rintro e w5 ⟨rfl, hr, hk⟩
 rw [show ((4 : Int)) = ((4 : Nat) : Int) by rfl, rowF_put 64 _ 4 _ rfl HF.out.2 (by simp [bytesOf_length])] at *
 have HR5 : Hid (RefAt w5 p g (rowF 64 H.head)) := hide hr
 have HK5 := hide (HK4.out.lit _ hk (by simp; omega))
 clear hr hk c0 c1 c2 c3 HR4 HB4 HK4
 go_wp2_with fail
 refine (rclosed_any p g _ _ HR5.out (rowF_len 64 H.head (by rw [H.head_len]; omega))).mono ?_
 rintro e w6 ⟨rfl, ha, hk⟩
 rw [take_body] at ha
 have HA6 := hide ha
 have HK6 := hide (HK5.out.trans hk (by simp; omega))
 clear ha hk
 go_wp2
 go_ret2
 exact ⟨g, rfl, by have := HGW.out; omega, HA6.out, HK6.out⟩
end Go.Proofs.YtgifeilmidpkeaaGreat.hd
namespace Go.Proofs.YtgifeilmidpkeaaGreat.hd
open Go.RowKit mem base
end Go.Proofs.YtgifeilmidpkeaaGreat.hd
