/- The given statement ChainPlaysSaid is proved: whatever the arguments are, the law returns true and leaves its input as it was. No conditions. -/
import Derived.Test.YtjkmahmoclobmaaGreatYChainPlaysW
import Derived.Test.YtjkmahmoclobmaaGreatYChainParts
import Derived.Test.YtjkmahmoclobmaaGreatYShapes
import Derived.WalkKit
import Derived.ProofKit
import Derived.OpenShut
import Derived.ShutString
import Derived.ChangeOld
import Derived.Below
namespace Go.Proofs.YtjkmahmoclobmaaGreat.chainPlays
open Go.ChangeShapes Go.WideShapes Go.ChangeAt Go.RowKit
open Go.ChangeMaps (open_string shut_string)
open mem base sc
set_option linter.unusedVariables false
theorem own:ownKnob Tryz.prog.godebug=none:=by kernel_rfl
theorem laidOut:laidOutB Tryz.prog=true:=by kernel_rfl

theorem walk (a0_0 a0_1 a0_2:Int)(a1_0 a1_1 a1_2 a1_3 a1_4:Int)(v2:Value)(a3:Int)(a4:Int)(w:World)(h2:PartsIn14 w v2):
  Calls Tryz.prog 4 #[.agg #[.int .i64 a0_0,.int .i64 a0_1,.int .i64 a0_2],.agg #[.int .i64 a1_0,.int .i64 a1_1,.int .i64 a1_2,.int .i64 a1_3,.int .i64 a1_4],v2,.int .i64 a3,.int .i64 a4] w fun e w'=>e= .returned (.bool true)∧Below w.heap.size w w':=by
 obtain⟨A,ts,c,vs,rfl,hb,hv,hk⟩:=h2
 exact(cplays_any a0_0 a0_1 a0_2 ⟨a1_0,a1_1,a1_2,a1_3,a1_4⟩ A ts.length c ts vs a3 a4 w rfl hb hv hk).mono fun e w' ⟨he,hk⟩=>⟨he,hk.below (by simp)⟩

set_option maxRecDepth 100000 in
theorem lifted (os:Os)(started:os.Started)(H:Type)(enc:TypeId×Value→H):
  ReturnsInHanded {} Tryz.checked os 4 .any (Rows.chainPlaysSpec.pre6 enc Tryz.prog Tryz.f4 Rows.chainPlaysRow.domain false) (Rows.chainPlaysSpec.post enc Tryz.prog Tryz.f4 false true false false):=by
 refine returnsInHanded_of_change (C:=Tryz.checked) own started (by kernel_rfl) Tryz.func4
  (ChangeSpec.witness6 (enc:=enc) (C:=Tryz.checked) false ⟨#[],#[.agg #[.int .i64 0,.int .i64 0,.int .i64 0],.agg #[.int .i64 0,.int .i64 0,.int .i64 0,.int .i64 0,.int .i64 0],.slice none 0 0,.int .i64 0,.int .i64 0],[]⟩ 8 (by kernel_rfl) (by kernel_rfl) (by kernel_rfl) (by kernel_rfl)) ?_
 intro W base args ds gs before hval0 hW hcnd _;have hval:∀ (j:Nat) t v,Tryz.f4.params[j]? = some t→args[j]? = some v→Value.okWide Tryz.prog W .any base t v:=hval0;have hW':=hW;obtain⟨p,q,hA0,hV,rfl,hfz,hnd⟩:=hW;have hA:DataW.TrodAll enc Tryz.prog W 0 (fun _=>true) true Tryz.f4.params.toList args.toList ds p:=hA0;rw[Tryz.params4]at hA hval;obtain⟨v0,vs0,d0,ds0,p0,q0,hargs,rfl,rfl,h0,r0⟩:=trodAll_cons hA;obtain⟨v1,vs1,d1,ds1,p1,q1,rfl,rfl,rfl,h1,r1⟩:=trodAll_cons r0;obtain⟨v2,vs2,d2,ds2,p2,q2,rfl,rfl,rfl,h2,r2⟩:=trodAll_cons r1;obtain⟨v3,vs3,d3,ds3,p3,q3,rfl,rfl,rfl,h3,r3⟩:=trodAll_cons r2;obtain⟨v4,vs4,d4,ds4,p4,q4,rfl,rfl,rfl,h4,r4⟩:=trodAll_cons r3;obtain⟨rfl,rfl,rfl⟩:=trodAll_nil r4
 obtain rfl:args=#[v0,v1,v2,v3,v4]:=by cases args;simp_all
 obtain⟨rfl,rfl⟩:=trodVars_none hV;have k0:=h0
 have lt0:∀ x∈p0,x.block<W.heap.size:=by obtain⟨m,hm⟩:=k0;exact DataW.trod_lt m _ _ _ hm
 obtain⟨xs0,rfl,hl0,hx0⟩:=agg_ints (ts:=List.replicate 3 3) (n:=3) (by kernel_rfl) (by kernel_rfl) (fun u hu=>by rw[List.eq_of_mem_replicate hu];exact Tryz.underlying3) (by kernel_rfl) (hval 0 22 v0 rfl rfl);obtain⟨a0_0,a0_1,a0_2,rfl⟩:=list3 hl0;have w0_0:=hx0 a0_0 (by simp);have w0_1:=hx0 a0_1 (by simp);have w0_2:=hx0 a0_2 (by simp);have k1:=h1
 have lt1:∀ x∈p1,x.block<W.heap.size:=by obtain⟨m,hm⟩:=k1;exact DataW.trod_lt m _ _ _ hm
 obtain⟨xs1,rfl,hl1,hx1⟩:=agg_ints (ts:=List.replicate 5 3) (n:=5) (by kernel_rfl) (by kernel_rfl) (fun u hu=>by rw[List.eq_of_mem_replicate hu];exact Tryz.underlying3) (by kernel_rfl) (hval 1 24 v1 rfl rfl);obtain⟨a1_0,a1_1,a1_2,a1_3,a1_4,rfl⟩:=list5 hl1;have w1_0:=hx1 a1_0 (by simp);have w1_1:=hx1 a1_1 (by simp);have w1_2:=hx1 a1_2 (by simp);have w1_3:=hx1 a1_3 (by simp);have w1_4:=hx1 a1_4 (by simp);obtain⟨b2,len2,cap2,rfl⟩:=okWide_slice Tryz.underlying62 (hval 2 62 v2 rfl rfl);have k2:=h2
 have lt2:∀ x∈p2,x.block<W.heap.size:=by obtain⟨m,hm⟩:=k2;exact DataW.trod_lt m _ _ _ hm
 have w2:PartsIn14 W (.slice b2 len2 cap2):=by
  obtain⟨fuel,hf⟩:=h2;exact parts_of14 hf
 obtain⟨a3,rfl,rfl,rfl,w3⟩:=open_int Tryz.underlying3 (hval 3 3 v3 rfl rfl) h3;obtain⟨a4,rfl,rfl,rfl,w4⟩:=open_int Tryz.underlying3 (hval 4 3 v4 rfl rfl) h4;clear hA0 hval0;refine(walk a0_0 a0_1 a0_2 a1_0 a1_1 a1_2 a1_3 a1_4 (.slice b2 len2 cap2) a3 a4 W w2).mono fun e W' ⟨he,bel⟩=> ?_;subst he;exact⟨_,rfl,_,_,_,[],_,[],hW',trodAll_mk1 (shut_bool Tryz.underlying4 _),(trodAll_cons_mk (Below.trod laidOut (by kernel_rfl) (of_decide_eq_true (by kernel_rfl)) k0 bel lt0) (trodAll_cons_mk (Below.trod laidOut (by kernel_rfl) (of_decide_eq_true (by kernel_rfl)) k1 bel lt1) (trodAll_cons_mk (Below.trod laidOut (by kernel_rfl) (of_decide_eq_true (by kernel_rfl)) k2 bel lt2) (trodAll_cons_mk (shut_int Tryz.underlying3 w3) (trodAll_cons_mk (shut_int Tryz.underlying3 w4) trodAll_mk0))))),rfl,bel.frame _,fun h=>by cases h⟩

theorem over:Rows.chainPlaysRow.holds Tryz.pinned (OpenSpec.ofChange Rows.chainPlaysSpec):=
 OpenClaim.holds_of_wide 4 Tryz.f4 rfl rfl rfl rfl rfl rfl rfl ⟨rfl,rfl,rfl,rfl,rfl⟩ rfl rfl rfl rfl rfl (by kernel_rfl) Tryz.func4 (by kernel_rfl)
  (of_decide_eq_true (by kernel_rfl)) (by unfold Func.isWrapper;first|(rw[if_pos (by decide +kernel)];kernel_rfl)|(rw[if_neg (by decide +kernel)];exact⟨rfl,rfl⟩))
  (fun os started H enc _=>lifted os started H enc)
theorem proved:Rows.ChainPlaysSaid:=over
#print axioms proved
end Go.Proofs.YtjkmahmoclobmaaGreat.chainPlays
