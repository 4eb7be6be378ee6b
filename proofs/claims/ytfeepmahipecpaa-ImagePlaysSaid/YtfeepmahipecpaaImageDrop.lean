/- Package image: alike, drop, Trim, Drop, Forget, pending, Commit. -/
import Derived.Test.YtfeepmahipecpaaImageLay
import Derived.Test.YtfeepmahipecpaaImagePend
import Derived.Test.YtfeepmahipecpaaImageOps
namespace Go.Proofs.Ytfeepmahipecpaa.im
set_option linter.unusedSimpArgs false
set_option linter.unusedVariables false
open Go.RowKit Go.Proofs.Ytfeepmahipecpaa.mem Go.Proofs.Ytfeepmahipecpaa.base Go.Proofs.Ytfeepmahipecpaa.pd Go.Proofs.Ytfeepmahipecpaa.owns
attribute [local go_sem] Oper.semAt_some

theorem mkfunc (fn : Fn) (first cap : Array Value) (w : World) : (Instr.makeFunc fn first cap).run Try.prog w = .ok (.func fn first cap) w := rfl
theorem alike_fn (b n ref : Int) (w : World) :
    Calls Try.prog 43 #[.int .i64 b, .int .i64 n, .int .i64 ref] w fun e w' => e = .returned (.func (.func 68) #[] #[.pointer (some ⟨w.heap.size + 1, 0, none⟩), .pointer (some ⟨w.heap.size, 0, none⟩), .pointer (some ⟨w.heap.size + 2, 0, none⟩)]) ∧ Kept [] w w' ∧ Blk w' w.heap.size 3 #[.int .i64 b] ∧ Blk w' (w.heap.size + 1) 3 #[.int .i64 n] ∧ Blk w' (w.heap.size + 2) 3 #[.int .i64 ref] := by
  have hmf := mkfunc
  obtain ⟨z, hz⟩ : ∃ z, w.heap.size = z := ⟨_, rfl⟩
  have B0 := ((Blk.new w 3 #[.int .i64 b]).alloc (.cells #[.int .i64 n] 3)).alloc (.cells #[.int .i64 ref] 3)
  have B1 := (Blk.new (w.alloc (.cells #[.int .i64 b] 3)) 3 #[.int .i64 n]).alloc (.cells #[.int .i64 ref] 3)
  have B2 := Blk.new ((w.alloc (.cells #[.int .i64 b] 3)).alloc (.cells #[.int .i64 n] 3)) 3 #[.int .i64 ref]
  simp only [World.size_alloc] at B1 B2
  rw [hz] at B0 B1 B2 ⊢
  have HB := hide (And.intro B0 (And.intro B1 B2))
  clear B0 B1 B2
  go_enter Try.func43, Try.ntmps43
  go_wp2
  go_ret
  exact ⟨rfl, (((Kept.refl [] w).alloc _).alloc _).alloc _, HB.out⟩
theorem pending_fn (P : Option Addr) (w : World) :
    Calls Try.prog 42 #[.pointer P] w fun e w' => e = .returned (.func (.func 66) #[] #[.pointer (some ⟨w.heap.size, 0, none⟩)]) ∧ w' = w.alloc (.cells #[.pointer P] 24) := by
  have hmf := mkfunc
  go_enter Try.func42, Try.ntmps42
  go_wp2
  go_ret
  exact ⟨rfl, rfl⟩
theorem refs_fn (P : Option Addr) (w : World) :
    Calls Try.prog 59 #[.pointer P] w fun e w' => e = .returned (.func (.func 73) #[] #[.pointer (some ⟨w.heap.size, 0, none⟩)]) ∧ w' = w.alloc (.cells #[.pointer P] 24) := by
  have hmf := mkfunc
  go_enter Try.func59, Try.ntmps59
  go_wp2
  go_ret
  exact ⟨rfl, rfl⟩
theorem likes_mem {b : Nat} {ref : Int} {n : Nat} {x : Nat × Int} (h : x ∈ likes b ref n) : b ≤ x.1 ∧ x.1 < b + n ∧ x.2 = ref := by
  unfold likes at h
  rw [List.mem_map] at h
  obtain ⟨i, hi, rfl⟩ := h
  have := List.mem_range.1 hi
  exact ⟨by simp, by simpa using this, rfl⟩
/-- Refs of a table are laid over: what goes, and the table. -/
def Im.laid (M : Im) (ov : Bool) (xs : List (Nat × Int)) : Im := M.put ov ((M.tb ov).lay xs).1
def Im.gone (M : Im) (ov : Bool) (xs : List (Nat × Int)) : List Int := ((M.tb ov).lay xs).2
section
variable {w : World} {X : Ib} {M : Im}
/-- lay of like refs. -/
theorem layLike (h : IAt w X M) (ov : Bool) (b n : Nat) (ref : Int) (hn : b + n ≤ M.b.l.length) (z : Nat) (hz : z + 2 < w.heap.size) (hX : ∀ y ∈ X.all, y < z) (b0 : Blk w z 3 #[.int .i64 b]) (b1 : Blk w (z + 1) 3 #[.int .i64 n]) (b2 : Blk w (z + 2) 3 #[.int .i64 ref]) :
    Calls Try.prog 41 #[.pointer (some ⟨X.tp ov, 0, none⟩), .func (.func 68) #[] #[.pointer (some ⟨z + 1, 0, none⟩), .pointer (some ⟨z, 0, none⟩), .pointer (some ⟨z + 2, 0, none⟩)]] w fun e w' => ∃ v, e = .returned v ∧ w'.ownsRow w.heap.size 3 1 v (M.gone ov (likes b ref n)).length ((M.gone ov (likes b ref n)).map I) ∧ IAt w' X (M.laid ov (likes b ref n)) ∧ Kept [X.tv ov, X.td ov] w w' := by
  have hs := h.small
  obtain ⟨m1, m2, m3⟩ := X.tmem ov
  refine (lay_any (h.tab ov) 68 #[.pointer (some ⟨z + 1, 0, none⟩), .pointer (some ⟨z, 0, none⟩), .pointer (some ⟨z + 2, 0, none⟩)] [z, z + 1, z + 2] (likes b ref n) (enters_of Try.func68 (by kernel_rfl) rfl) (alike_seq w z (z + 1) (z + 2) b n ref (by omega) b0 b1 b2) (fun y hy => ?_) (fun x hx => ?_) (by rw [likes_length]; omega)).mono ?_
  · have h2 := hX _ m2
    have h3 := hX _ m3
    simp at hy
    omega
  · have := likes_mem hx
    rw [h.tlen]
    omega
  · rintro e w' ⟨v, rfl, ho, ht, hk⟩
    exact ⟨v, rfl, ho, h.turn ov hk ht (by rw [Tb.lay_len]), hk⟩
set_option maxRecDepth 100000 in
theorem drop_yes (h : IAt w X M) (ov : Bool) (b n : Nat) (h1 : 1 ≤ n) (hn : b + n ≤ M.b.l.length) :
    Calls Try.prog 40 #[.pointer (some ⟨X.m, 0, none⟩), .bool ov, .int .i64 b, .int .i64 n] w fun e w' => ∃ v, e = .returned (.tuple #[v, .bool true]) ∧ w'.ownsRow w.heap.size 3 1 v (M.gone ov (likes b 0 n)).length ((M.gone ov (likes b 0 n)).map I) ∧ IAt w' X (M.laid ov (likes b 0 n)) ∧ Kept [X.tv ov, X.td ov] w w' := by
  have H := hide h
  have hs := h.small
  have HH : Hid (decide (0 ≤ (b : Int) ∧ (1 : Int) ≤ n ∧ (n : Int) ≤ M.b.l.length - b) = true) := hide (decide_eq_true (by omega))
  have HN := hide hn
  clear h hn
  go_enter Try.func40, Try.ntmps40
  go_wp2_with fail
  refine (has_any H.out b n (by have := HN.out; omega)).mono ?_
  rintro e w' ⟨rfl, rfl⟩
  rw [HH.out]
  go_wp2_with fail
  refine (table_any H.out ov).mono ?_
  rintro e w' ⟨rfl, rfl⟩
  go_wp2_with fail
  refine (alike_fn b n 0 _).mono ?_
  rintro e w1 ⟨rfl, hk, b0, b1, b2⟩
  have HB := hide (And.intro b0 (And.intro b1 b2))
  have HK := hide hk
  clear hk b0 b1 b2
  go_wp2_with fail
  refine (layLike (H.out.keep HK.out) ov b n 0 HN.out w.heap.size HB.out.2.2.lt H.out.lt HB.out.1 HB.out.2.1 HB.out.2.2).mono ?_
  rintro e w2 ⟨v, rfl, ho, hi, hk⟩
  have HO := hide (own_low ho HK.out.size)
  have HI := hide hi
  have HK2 := hide ((HK.out.mono (S' := [X.tv ov, X.td ov]) (by simp)).trans hk (fun y hy => .inl hy))
  clear ho hi hk
  go_wp2
  go_ret2
  exact ⟨v, rfl, HO.out, HI.out, HK2.out⟩
theorem drop_no (h : IAt w X M) (ov : Bool) (b n : Int) (hb : b ≤ 9223372036854775807) (hn : ¬ (0 ≤ b ∧ 1 ≤ n ∧ n ≤ M.b.l.length - b)) :
    Calls Try.prog 40 #[.pointer (some ⟨X.m, 0, none⟩), .bool ov, .int .i64 b, .int .i64 n] w fun e w' => e = .returned (.tuple #[.slice none 0 0, .bool false]) ∧ w = w' := by
  have H := hide h
  have HH : Hid (decide (0 ≤ b ∧ 1 ≤ n ∧ n ≤ M.b.l.length - b) = false) := hide (decide_eq_false hn)
  clear h hn
  go_enter Try.func40, Try.ntmps40
  go_wp2_with fail
  refine (has_any H.out b n hb).mono ?_
  rintro e w' ⟨rfl, rfl⟩
  rw [HH.out]
  go_wp2
  go_ret2
  exact ⟨rfl, rfl⟩
theorem itrim_yes (h : IAt w X M) (b n : Nat) (h1 : 1 ≤ n) (hn : b + n ≤ M.b.l.length) :
    Calls Try.prog 13 #[.pointer (some ⟨X.m, 0, none⟩), .int .i64 b, .int .i64 n] w fun e w' => ∃ v, e = .returned (.tuple #[v, .bool true]) ∧ w'.ownsRow w.heap.size 3 1 v (M.gone true (likes b 0 n)).length ((M.gone true (likes b 0 n)).map I) ∧ IAt w' X (M.laid true (likes b 0 n)) ∧ Kept [X.tv true, X.td true] w w' := by
  have HP := hide (drop_yes h true b n h1 hn)
  clear h h1 hn
  go_enter Try.func13, Try.ntmps13
  go_wp2_with fail
  refine HP.out.mono ?_
  rintro e w' ⟨v, rfl, ho, hi, hk⟩
  have HO := hide ho
  have HI := hide hi
  have HK := hide hk
  clear ho hi hk
  go_wp2
  go_ret2
  exact ⟨v, rfl, HO.out, HI.out, HK.out⟩
theorem itrim_no (h : IAt w X M) (b n : Int) (hb : b ≤ 9223372036854775807) (hn : ¬ (0 ≤ b ∧ 1 ≤ n ∧ n ≤ M.b.l.length - b)) :
    Calls Try.prog 13 #[.pointer (some ⟨X.m, 0, none⟩), .int .i64 b, .int .i64 n] w fun e w' => e = .returned (.tuple #[.slice none 0 0, .bool false]) ∧ w = w' := by
  have HP := hide (drop_no h true b n hb hn)
  clear h hb hn
  go_enter Try.func13, Try.ntmps13
  go_wp2_with fail
  refine HP.out.mono ?_
  rintro e w' ⟨rfl, rfl⟩
  go_wp2
  go_ret2
  exact ⟨rfl, rfl⟩
theorem idrop_yes (h : IAt w X M) (b n : Nat) (h1 : 1 ≤ n) (hn : b + n ≤ M.b.l.length) :
    Calls Try.prog 14 #[.pointer (some ⟨X.m, 0, none⟩), .int .i64 b, .int .i64 n] w fun e w' => ∃ v, e = .returned (.tuple #[v, .bool true]) ∧ w'.ownsRow w.heap.size 3 1 v (M.gone false (likes b 0 n)).length ((M.gone false (likes b 0 n)).map I) ∧ IAt w' X (M.laid false (likes b 0 n)) ∧ Kept [X.tv false, X.td false] w w' := by
  have HP := hide (drop_yes h false b n h1 hn)
  clear h h1 hn
  go_enter Try.func14, Try.ntmps14
  go_wp2_with fail
  refine HP.out.mono ?_
  rintro e w' ⟨v, rfl, ho, hi, hk⟩
  have HO := hide ho
  have HI := hide hi
  have HK := hide hk
  clear ho hi hk
  go_wp2
  go_ret2
  exact ⟨v, rfl, HO.out, HI.out, HK.out⟩
theorem idrop_no (h : IAt w X M) (b n : Int) (hb : b ≤ 9223372036854775807) (hn : ¬ (0 ≤ b ∧ 1 ≤ n ∧ n ≤ M.b.l.length - b)) :
    Calls Try.prog 14 #[.pointer (some ⟨X.m, 0, none⟩), .int .i64 b, .int .i64 n] w fun e w' => e = .returned (.tuple #[.slice none 0 0, .bool false]) ∧ w = w' := by
  have HP := hide (drop_no h false b n hb hn)
  clear h hb hn
  go_enter Try.func14, Try.ntmps14
  go_wp2_with fail
  refine HP.out.mono ?_
  rintro e w' ⟨rfl, rfl⟩
  go_wp2
  go_ret2
  exact ⟨rfl, rfl⟩
/-- All of the over is untouched. -/
def Im.forget (M : Im) : Im := M.laid true (likes 0 (-1) M.b.l.length)
def Im.forgot (M : Im) : List Int := M.gone true (likes 0 (-1) M.b.l.length)
/-- What is pending stands. -/
def Im.stood (M : Im) : Im := M.laid false (pendL M.o.l)
def Im.commit (M : Im) : Im := M.stood.forget
def Im.went (M : Im) : List Int := M.gone false (pendL M.o.l)
set_option maxRecDepth 100000 in
theorem forget_any (h : IAt w X M) :
    Calls Try.prog 18 #[.pointer (some ⟨X.m, 0, none⟩)] w fun e w' => ∃ v, e = .returned v ∧ w'.ownsRow w.heap.size 3 1 v M.forgot.length (M.forgot.map I) ∧ IAt w' X M.forget ∧ Kept [X.U, X.E] w w' := by
  have H := hide h
  clear h
  go_enter Try.func18, Try.ntmps18
  go_wp2_with fail
  refine (table_over H.out).mono ?_
  rintro e w' ⟨rfl, rfl⟩
  go_wp2_with fail
  refine (blocks_any H.out).mono ?_
  rintro e w' ⟨rfl, rfl⟩
  go_wp2_with fail
  refine (alike_fn 0 M.b.l.length (-1) _).mono ?_
  rintro e w1 ⟨rfl, hk, b0, b1, b2⟩
  have HB := hide (And.intro b0 (And.intro b1 b2))
  have HK := hide hk
  clear hk b0 b1 b2
  go_wp2_with fail
  refine (layLike (H.out.keep HK.out) true 0 M.b.l.length (-1) (by omega) w.heap.size HB.out.2.2.lt H.out.lt HB.out.1 HB.out.2.1 HB.out.2.2).mono ?_
  rintro e w2 ⟨v, rfl, ho, hi, hk⟩
  have HO := hide (own_low ho HK.out.size)
  have HI := hide hi
  have HK2 := hide ((HK.out.mono (S' := [X.U, X.E]) (by simp)).trans hk (fun y hy => .inl hy))
  clear ho hi hk
  go_wp2
  go_ret
  exact ⟨v, rfl, HO.out, HI.out, HK2.out⟩
set_option maxRecDepth 100000 in
theorem commit_any (h : IAt w X M) :
    Calls Try.prog 16 #[.pointer (some ⟨X.m, 0, none⟩)] w fun e w' => ∃ v, e = .returned v ∧ w'.ownsRow w.heap.size 3 1 v M.went.length (M.went.map I) ∧ IAt w' X M.commit ∧ Kept [X.V, X.D, X.U, X.E] w w' := by
  have H := hide h
  clear h
  go_enter Try.func16, Try.ntmps16
  go_wp2_with fail
  refine (table_base H.out).mono ?_
  rintro e w' ⟨rfl, rfl⟩
  go_wp2_with fail
  refine (pending_fn _ _).mono ?_
  rintro e w1 ⟨rfl, hw⟩
  have hk : Kept [] w w1 := by rw [hw]; exact (Kept.refl [] w).alloc _
  have HB : Hid (Blk w1 w.heap.size 24 #[.pointer (some ⟨X.m, 0, none⟩)]) := hide (by rw [hw]; exact Blk.new w _ _)
  have HI := hide (H.out.keep hk)
  have HK := hide hk
  clear hw hk
  have HC : Hid (Calls Try.prog 41 #[.pointer (some ⟨X.p, 0, none⟩), .func (.func 66) #[] #[.pointer (some ⟨w.heap.size, 0, none⟩)]] w1 fun e w' => ∃ v, e = .returned v ∧ w'.ownsRow w1.heap.size 3 1 v M.went.length (M.went.map I) ∧ IAt w' X M.stood ∧ Kept [X.V, X.D] w1 w') := hide (by
    have ha := HI.out.apart
    simp only [Ib.all, List.nodup_cons, List.mem_cons, List.not_mem_nil, or_false, not_or] at ha
    obtain ⟨⟨a1, a2, a3, a4, a5, a6⟩, ⟨c1, c2, c3, c4, c5⟩, ⟨d1, d2, d3, d4⟩, ⟨e1, e2, e3⟩, ⟨f1, f2⟩, g1, _⟩ := ha
    obtain ⟨m1, m2, m3, m4, m5, m6, m7⟩ := X.mem
    have hlt := H.out.lt
    have q3 := hlt _ m3
    have q4 := hlt _ m4
    have hlt1 := HI.out.lt
    refine (lay_any HI.out.base 66 #[.pointer (some ⟨w.heap.size, 0, none⟩)] [w.heap.size, X.m, X.q, X.U] (pendL M.o.l) (enters_of Try.func66 (by kernel_rfl) rfl) (pend_seq w1 w.heap.size X M HI.out HB.out) (fun y hy => ?_) (fun x hx => ?_) (by have := pendL_length M.o.l; have := HI.out.len; have := HI.out.small; omega)).mono ?_
    · simp only [List.mem_cons, List.not_mem_nil, or_false] at hy
      rcases hy with rfl | rfl | rfl | rfl
      · exact ⟨by omega, by omega, HB.out.lt⟩
      · exact ⟨a2, a3, hlt1 _ m1⟩
      · exact ⟨fun e => d2 e.symm, fun e => e1 e.symm, hlt1 _ m5⟩
      · exact ⟨fun e => d3 e.symm, fun e => e2 e.symm, hlt1 _ m6⟩
    · have := pendL_mem hx
      have := HI.out.len
      omega
    · rintro e w' ⟨v, rfl, ho, ht, hk⟩
      exact ⟨v, rfl, ho, HI.out.turn false hk ht (by rw [Tb.lay_len]), hk⟩)
  go_wp2_with fail
  refine HC.out.mono ?_
  rintro e w2 ⟨v, rfl, ho, hi, hk⟩
  have HO := hide (own_low ho HK.out.size)
  have HI2 := hide hi
  have HK2 := hide ((HK.out.mono (S' := [X.V, X.D, X.U, X.E]) (by simp)).trans hk (fun y hy => .inl (by simp at hy ⊢; rcases hy with h | h <;> simp [h])))
  clear ho hi hk
  go_wp2_with fail
  refine (forget_any HI2.out).mono ?_
  rintro e w3 ⟨v2, rfl, ho, hi, hk⟩
  have HO3 := hide (own_keep HO.out hk (fun i hi hm => by
    have h1 := (own_blk HO.out i hm).1
    obtain ⟨m1, m2, m3, m4, m5, m6, m7⟩ := X.mem
    have h2 := H.out.lt _ m6
    have h3 := H.out.lt _ m7
    simp at hi
    omega))
  have HI3 := hide hi
  have HK3 := hide (HK2.out.trans hk (fun y hy => .inl (by simp at hy ⊢; rcases hy with h | h <;> simp [h])))
  clear ho hi hk
  go_wp2
  go_ret
  exact ⟨v, rfl, HO3.out, HI3.out, HK3.out⟩
end
end Go.Proofs.Ytfeepmahipecpaa.im
