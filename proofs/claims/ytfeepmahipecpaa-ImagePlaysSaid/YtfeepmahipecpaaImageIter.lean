/- The iterators that package image goes through: a table's places, a table's dirty pages, like refs from a block on. -/
import Derived.Test.YtfeepmahipecpaaImageSmall
namespace Go.Proofs.Ytfeepmahipecpaa.im
set_option linter.unusedSimpArgs false
set_option linter.unusedVariables false
open Go.RowKit Go.Proofs.Ytfeepmahipecpaa.mem Go.Proofs.Ytfeepmahipecpaa.base Go.Proofs.Ytfeepmahipecpaa.pd Go.Proofs.Ytfeepmahipecpaa.owns
attribute [local go_sem] Oper.semAt_some

/-- A block and a ref, as they are told. -/
def two (x : Nat × Int) : Array Value := #[.int .i64 (x.1 : Int), .int .i64 x.2]
def one (x : Nat) : Array Value := #[.int .i64 (x : Int)]

set_option maxRecDepth 100000 in
set_option maxHeartbeats 2000000 in
theorem all_seq (w : World) (Bn p V D : Nat) (t : Tb) (h : ImT w p V D t) (hb : Blk w Bn 57 #[.pointer (some ⟨p, 0, none⟩)]) :
    SeqT Try.prog 76 #[.pointer (some ⟨Bn, 0, none⟩)] two (placed t.l t.l.length) [Bn, p, V] w := by
  intro lp J Jx C0 W hk hJ hJx hB hR hY h0
  have HY : Hid (YieldsT Try.prog lp two (placed t.l t.l.length) J Jx C0 W) := hide (yields_of hY)
  have H0 : Hid (Run J C0 W [] W) := hide (Run.start h0)
  have HP := hide (h.keep hk)
  have HB := hide (hk.blk hb (by simp))
  have hRn : Bn ∉ C0 ∧ p ∉ C0 ∧ V ∉ C0 := ⟨hR _ (by simp), hR _ (by simp), hR _ (by simp)⟩
  have HR := hide hRn
  have hm2 := h.n2
  rw [List.length_map] at hm2
  have HL : Hid (Calls Try.prog 37 #[.pointer (some ⟨p, 0, none⟩)] W fun e w' => e = .returned (.int .i64 t.l.length) ∧ W = w') := hide (by have := len_int (h.keep hk); rwa [List.length_map] at this)
  have c0 := HB.out.cell 0
  clear h hb hk hJ hJx hB hR hY h0 hRn
  refine wide_all fun n => ?_
  refine callsIn_of_wp Try.func76 rfl trivial ?_ rfl
  simp only [Try.ntmps76, List.size_toArray, List.length_cons, List.length_nil, Nat.reduceAdd, Nat.reduceSub, Array.replicate_succ, Array.replicate_zero, List.push_toArray, List.append_toArray, List.nil_append, List.cons_append]
  gi_wp2_with (refine ⟨trivial, (by intro h; cases h), ?_⟩; gi_at_call 37; refine (callsIn_wide.2 HL.out).mono ?_; rintro e w' ⟨rfl, rfl⟩)
  gi_loopw [6] (fun i wr => ∃ k : Nat, k ≤ t.l.length ∧ i = .int .i64 k ∧ Hid (Run J C0 W (placed t.l k) wr)) (fun i _ => t.l.length - (intOf i).toNat)
  case atStart => exact ⟨0, Nat.zero_le _, rfl, H0⟩
  case round =>
    obtain ⟨k, hk, rfl, HJ⟩ := hrel
    by_cases hlt : k < t.l.length
    · obtain ⟨x, hx⟩ : ∃ x, t.l[k]? = some x := ⟨_, List.getElem?_eq_getElem hlt⟩
      have hc : wr.cell? ⟨Bn, 0, none⟩ = some (.pointer (some ⟨p, 0, none⟩)) := (HJ.out.old HB.out HR.out.1).cell 0
      have c0 : wr.cell? ⟨p, 0, none⟩ = some (.slice (some ⟨V, 0, none⟩) t.l.length t.l.length) := by have := (HJ.out.old HP.out.cells HR.out.2.1).cell 0; simpa using this
      have cm : wr.cell? ⟨V, k, none⟩ = some (.int .i64 x) := by have := (HJ.out.old HP.out.vals HR.out.2.2).cell k; rw [this]; simp [hx, I]
      have hk0 : (0 : Int) ≤ k := by omega
      have hk1 : (k : Int) < (t.l.length : Int) := by omega
      have HN := hide (placed_succ t.l k x hx)
      clear hx
      obtain ⟨fn, tmps, assign, body, hy, hR⟩ := yield_lv (m' := n - 1) (HY.out (placed t.l k) (k, x) wr HJ.out (by rw [← HN.out]; exact placed_prefix _ _ _ hlt))
      unfold two at hy
      dsimp only at hy
      gi_wp2
      refine ⟨(by intro h; cases h), ?_⟩
      refine hR.mono ?_
      rintro e W3 (⟨rfl, hJ3⟩ | ⟨rfl, hJx3⟩)
      · have HJ3 := hide hJ3
        clear hJ3
        gi_wp2
        go_roundw
        case rel => exact ⟨k + 1, by omega, by go_num, by rw [HN.out]; exact HJ3⟩
        case measure => simp [intOf]; omega
      · have HJ3 := hide hJx3
        clear hJx3
        gi_wp2
        refine bodyPost_ret (results_none rfl _ _ _) rfl ?_
        obtain ⟨C', hc'⟩ := HJ3.out.out
        exact ⟨⟨_, rfl⟩, C', .inr ⟨_, by rw [← HN.out]; exact placed_prefix _ _ _ hlt, hc'⟩⟩
    · obtain rfl : k = t.l.length := by omega
      gi_wp2
      go_end0
      obtain ⟨C', hc'⟩ := HJ.out.out
      exact ⟨⟨_, rfl⟩, C', .inl hc'⟩

set_option maxRecDepth 100000 in
set_option maxHeartbeats 2000000 in
theorem all_seq_nil (w : World) (Bn : Nat) (hb : Blk w Bn 57 #[.pointer none]) :
    SeqT Try.prog 76 #[.pointer (some ⟨Bn, 0, none⟩)] two [] [Bn] w := by
  intro lp J Jx C0 W hk hJ hJx hB hR hY h0
  have H0 := hide h0
  have c0 := (hk.blk hb (by simp)).cell 0
  clear hb hk hJ hJx hB hR hY h0
  refine wide_all fun n => ?_
  refine callsIn_of_wp Try.func76 rfl trivial ?_ rfl
  simp only [Try.ntmps76, List.size_toArray, List.length_cons, List.length_nil, Nat.reduceAdd, Nat.reduceSub, Array.replicate_succ, Array.replicate_zero, List.push_toArray, List.append_toArray, List.nil_append, List.cons_append]
  gi_wp2_with (refine ⟨trivial, (by intro h; cases h), ?_⟩; gi_at_call 37; refine (callsIn_wide.2 (len_int_nil _)).mono ?_; rintro e w' ⟨rfl, rfl⟩)
  gi_loopw [6] (fun i wr => i = .int .i64 0 ∧ Hid (J [] C0 wr)) (fun _ _ => 0)
  case atStart => exact ⟨rfl, H0⟩
  case round =>
    obtain ⟨rfl, HJ⟩ := hrel
    gi_wp2
    go_end0
    exact ⟨⟨_, rfl⟩, C0, .inl HJ.out⟩

/-- The pages that are marked, the first k. -/
def marked (ds : List Bool) (k : Nat) : List Nat := (List.range k).filter fun i => ds.getD i false
theorem marked_yes (ds : List Bool) (k : Nat) (h : ds[k]? = some true) : marked ds (k + 1) = marked ds k ++ [k] := by simp [marked, List.range_succ, List.filter_append, h]
theorem marked_no (ds : List Bool) (k : Nat) (h : ds[k]? = some false) : marked ds (k + 1) = marked ds k := by simp [marked, List.range_succ, List.filter_append, h]
theorem marked_length (ds : List Bool) (k : Nat) : (marked ds k).length ≤ k := Nat.le_trans (List.length_filter_le _ _) (by simp)
theorem marked_prefix (ds : List Bool) (k n : Nat) (h : k ≤ n) : marked ds k <+: marked ds n := by
  obtain ⟨m, rfl⟩ : ∃ m, n = k + m := ⟨n - k, by omega⟩
  unfold marked
  rw [List.range_add, List.filter_append]
  exact List.prefix_append _ _

set_option maxRecDepth 100000 in
set_option maxHeartbeats 2000000 in
theorem dirt_seq (w : World) (Bn p V D : Nat) (t : Tb) (h : ImT w p V D t) (hb : Blk w Bn 57 #[.pointer (some ⟨p, 0, none⟩)]) :
    SeqT Try.prog 79 #[.pointer (some ⟨Bn, 0, none⟩)] one (marked t.d t.d.length) [Bn, p, D] w := by
  intro lp J Jx C0 W hk hJ hJx hB hR hY h0
  have HY : Hid (YieldsT Try.prog lp one (marked t.d t.d.length) J Jx C0 W) := hide (yields_of hY)
  have H0 : Hid (Run J C0 W [] W) := hide (Run.start h0)
  have HP := hide (h.keep hk)
  have HB := hide (hk.blk hb (by simp))
  have hRn : Bn ∉ C0 ∧ p ∉ C0 ∧ D ∉ C0 := ⟨hR _ (by simp), hR _ (by simp), hR _ (by simp)⟩
  have HR := hide hRn
  have hm2 := h.m2
  have HL := hide (pages_int (h.keep hk))
  have c0 := HB.out.cell 0
  clear h hb hk hJ hJx hB hR hY h0 hRn
  refine wide_all fun n => ?_
  refine callsIn_of_wp Try.func79 rfl trivial ?_ rfl
  simp only [Try.ntmps79, List.size_toArray, List.length_cons, List.length_nil, Nat.reduceAdd, Nat.reduceSub, Array.replicate_succ, Array.replicate_zero, List.push_toArray, List.append_toArray, List.nil_append, List.cons_append]
  gi_wp2_with (refine ⟨trivial, (by intro h; cases h), ?_⟩; gi_at_call 78; refine (callsIn_wide.2 HL.out).mono ?_; rintro e w' ⟨rfl, rfl⟩)
  gi_loopw [6] (fun i wr => ∃ k : Nat, k ≤ t.d.length ∧ i = .int .i64 k ∧ Hid (Run J C0 W (marked t.d k) wr)) (fun i _ => t.d.length - (intOf i).toNat)
  case atStart => exact ⟨0, Nat.zero_le _, rfl, H0⟩
  case round =>
    obtain ⟨k, hk, rfl, HJ⟩ := hrel
    by_cases hlt : k < t.d.length
    · obtain ⟨b, hb⟩ : ∃ b, t.d[k]? = some b := ⟨_, List.getElem?_eq_getElem hlt⟩
      have hc : wr.cell? ⟨Bn, 0, none⟩ = some (.pointer (some ⟨p, 0, none⟩)) := (HJ.out.old HB.out HR.out.1).cell 0
      have c2 : wr.cell? ⟨p, 2, none⟩ = some (.slice (some ⟨D, 0, none⟩) t.d.length t.d.length) := by have := (HJ.out.old HP.out.cells HR.out.2.1).cell 2; simpa using this
      have cm : wr.cell? ⟨D, k, none⟩ = some (.bool b) := by have := (HJ.out.old HP.out.marks HR.out.2.2).cell k; rw [this]; simp [hb, bv]
      have hk0 : (0 : Int) ≤ k := by omega
      have hk1 : (k : Int) < (t.d.length : Int) := by omega
      cases b with
      | false =>
        have HN := hide (marked_no t.d k hb)
        clear hb
        gi_wp2
        refine ⟨fun _ h => (by cases h), ?_⟩
        gi_wp2
        go_roundw
        case rel => exact ⟨k + 1, by omega, by go_num, by rw [HN.out]; exact HJ⟩
        case measure => simp [intOf]; omega
      | true =>
        have HN := hide (marked_yes t.d k hb)
        clear hb
        obtain ⟨fn, tmps, assign, body, hy, hR⟩ := yield_lv (m' := n - 1) (HY.out (marked t.d k) k wr HJ.out (by rw [← HN.out]; exact marked_prefix _ _ _ hlt))
        unfold one at hy
        gi_wp2
        refine ⟨(by intro h; cases h), ?_⟩
        refine hR.mono ?_
        rintro e W3 (⟨rfl, hJ3⟩ | ⟨rfl, hJx3⟩)
        · have HJ3 := hide hJ3
          clear hJ3
          gi_wp2
          go_roundw
          case rel => exact ⟨k + 1, by omega, by go_num, by rw [HN.out]; exact HJ3⟩
          case measure => simp [intOf]; omega
        · have HJ3 := hide hJx3
          clear hJx3
          gi_wp2
          refine bodyPost_ret (results_none rfl _ _ _) rfl ?_
          obtain ⟨C', hc'⟩ := HJ3.out.out
          exact ⟨⟨_, rfl⟩, C', .inr ⟨_, by rw [← HN.out]; exact marked_prefix _ _ _ hlt, hc'⟩⟩
    · obtain rfl : k = t.d.length := by omega
      gi_wp2
      go_end0
      obtain ⟨C', hc'⟩ := HJ.out.out
      exact ⟨⟨_, rfl⟩, C', .inl hc'⟩

/-- n blocks from b on, each with that ref; the first k. -/
def likes (b : Nat) (ref : Int) (k : Nat) : List (Nat × Int) := (List.range k).map fun i => (b + i, ref)
theorem likes_succ (b : Nat) (ref : Int) (k : Nat) : likes b ref (k + 1) = likes b ref k ++ [(b + k, ref)] := by simp [likes, List.range_succ]
theorem likes_length (b : Nat) (ref : Int) (k : Nat) : (likes b ref k).length = k := by simp [likes]
theorem likes_prefix (b : Nat) (ref : Int) (k n : Nat) (h : k ≤ n) : likes b ref k <+: likes b ref n := by
  obtain ⟨m, rfl⟩ : ∃ m, n = k + m := ⟨n - k, by omega⟩
  unfold likes
  rw [List.range_add, List.map_append]
  exact List.prefix_append _ _

set_option maxRecDepth 100000 in
set_option maxHeartbeats 2000000 in
theorem alike_seq (w : World) (Bb Bn Br : Nat) (b n : Nat) (ref : Int) (hbn : b + n ≤ 100000) (h1 : Blk w Bb 3 #[.int .i64 b]) (h2 : Blk w Bn 3 #[.int .i64 n]) (h3 : Blk w Br 3 #[.int .i64 ref]) :
    SeqT Try.prog 68 #[.pointer (some ⟨Bn, 0, none⟩), .pointer (some ⟨Bb, 0, none⟩), .pointer (some ⟨Br, 0, none⟩)] two (likes b ref n) [Bb, Bn, Br] w := by
  intro lp J Jx C0 W hk hJ hJx hB hR hY h0
  have HY : Hid (YieldsT Try.prog lp two (likes b ref n) J Jx C0 W) := hide (yields_of hY)
  have H0 : Hid (Run J C0 W [] W) := hide (Run.start h0)
  have H1 := hide (hk.blk h1 (by simp))
  have H2 := hide (hk.blk h2 (by simp))
  have H3 := hide (hk.blk h3 (by simp))
  have hRn : Bb ∉ C0 ∧ Bn ∉ C0 ∧ Br ∉ C0 := ⟨hR _ (by simp), hR _ (by simp), hR _ (by simp)⟩
  have HR := hide hRn
  have c0 := H2.out.cell 0
  clear h1 h2 h3 hk hJ hJx hB hR hY h0 hRn
  refine wide_all fun lv => ?_
  refine callsIn_of_wp Try.func68 rfl trivial ?_ rfl
  simp only [Try.ntmps68, List.size_toArray, List.length_cons, List.length_nil, Nat.reduceAdd, Nat.reduceSub, Array.replicate_succ, Array.replicate_zero, List.push_toArray, List.append_toArray, List.nil_append, List.cons_append]
  gi_wp2
  gi_loopw [7] (fun i wr => ∃ k : Nat, k ≤ n ∧ i = .int .i64 k ∧ Hid (Run J C0 W (likes b ref k) wr)) (fun i _ => n - (intOf i).toNat)
  case atStart => exact ⟨0, Nat.zero_le _, rfl, H0⟩
  case round =>
    obtain ⟨k, hk, rfl, HJ⟩ := hrel
    by_cases hlt : k < n
    · have cb : wr.cell? ⟨Bb, 0, none⟩ = some (.int .i64 b) := (HJ.out.old H1.out HR.out.1).cell 0
      have cr : wr.cell? ⟨Br, 0, none⟩ = some (.int .i64 ref) := (HJ.out.old H3.out HR.out.2.2).cell 0
      have HN := hide (likes_succ b ref k)
      obtain ⟨fn, tmps, assign, body, hy, hR⟩ := yield_lv (m' := lv - 1) (HY.out (likes b ref k) (b + k, ref) wr HJ.out (by rw [← HN.out]; exact likes_prefix _ _ _ _ hlt))
      unfold two at hy
      have hbk : ((b + k : Nat) : Int) = (b : Int) + (k : Int) := by omega
      rw [hbk] at hy
      clear hbk
      gi_wp2
      refine ⟨(by intro h; cases h), ?_⟩
      refine hR.mono ?_
      rintro e W3 (⟨rfl, hJ3⟩ | ⟨rfl, hJx3⟩)
      · have HJ3 := hide hJ3
        clear hJ3
        gi_wp2
        go_roundw
        case rel => exact ⟨k + 1, by omega, by go_num, by rw [HN.out]; exact HJ3⟩
        case measure => simp [intOf]; omega
      · have HJ3 := hide hJx3
        clear hJx3
        gi_wp2
        refine bodyPost_ret (results_none rfl _ _ _) rfl ?_
        obtain ⟨C', hc'⟩ := HJ3.out.out
        exact ⟨⟨_, rfl⟩, C', .inr ⟨_, by rw [← HN.out]; exact likes_prefix _ _ _ _ hlt, hc'⟩⟩
    · obtain rfl : k = n := by omega
      gi_wp2
      go_end0
      obtain ⟨C', hc'⟩ := HJ.out.out
      exact ⟨⟨_, rfl⟩, C', .inl hc'⟩
end Go.Proofs.Ytfeepmahipecpaa.im
