import Derived.Test.YtjkmahmoclobmaaGreatYHeld
namespace Go.Proofs.YtjkmahmoclobmaaGreat.base
open Go.RowKit mem
section
variable {P:Program}{ops:Array Oper}{Q:Exit→Act→World→Prop}{md:Region.Mode}{S:World→Prop}{z:Nat}
def HoldX (P:Program)(md:Region.Mode)(ops:Array Oper)(Q:Exit→Act→World→Prop)(S:World→Prop)(z:Nat):Nat→Array Bool→Act→World→Prop
 | 0=>fun l a w=>Region.ready md ops l=[]∧Q .normal a w
 | n+1=>fun l a w=>(Region.ready md ops l=[]→Q .normal a w)∧∀ k∈Region.ready md ops l,wpOp P ops Q k (fun b v=>(k≠z→S v)∧HoldX P md ops Q S z n (l.setIfInBounds k true) b v) a w
theorem HoldX.any:∀ (n:Nat) (l:Array Bool) (a:Act) (w:World),HoldX P md ops Q S z n l a w→wpAny P md ops Q n l a w
 | 0=>fun _ _ _ h=>h
 | n+1=>fun _ _ _ h=>⟨h.1,fun k hk=>wpOp_mono (fun b v hb=>HoldX.any n _ b v hb.2) (h.2 k hk)⟩
def waits (md:Region.Mode)(ops:Array Oper)(z i:Nat):Bool:=match ops[z]? with
 | some o=>o.after.any fun e=>Region.binds md e&&e.on==i
 | none=>true
theorem HoldX.ahead {i:Nat}{oi:Oper}{x:Value}(hi:ops[i]? = some oi)(hns:∀ (j:Nat) (o:Oper) cs b,ops[j]? = some o→o.op≠ .select cs b)
  (hQ:∀ c a w,Q (.panic c) (a.put oi.dst x) w→Q (.panic c) a w) (hz:waits md ops z i=true):
  ∀ (n:Nat) (l:Array Bool) (a:Act) (w:World),(∀ j oj,ops[j]? = some oj→j≠i→l.getD j true=false→(∀ e∈oj.after,Region.binds md e=true→e.on≠i)→oi.apart ops oj=true)→
   i∈Region.ready md ops l→YieldsIf P ops S oi x a→S w→HoldX P md ops Q S z n (l.setIfInBounds i true) (a.put oi.dst x) w→HoldX P md ops Q S z (n+1) l a w
 | n,l,a,w,hf,hr,hy,hS,H=>by
  refine⟨fun h0=>(by rw[h0]at hr;cases hr),fun j hj=> ?_⟩
  by_cases hji:j=i
  ·rw[hji];exact hy.wpOp hi hS ⟨fun _=>hS,H⟩
  ·have hj2:=ready_mono hj hji
   cases n with
   | zero=>rw[H.1]at hj2;cases hj2
   | succ n=>
    obtain⟨hjl,oj,hoj,hall⟩:=mem_ready.1 hj
    have hno:∀ e∈oj.after,Region.binds md e=true→e.on≠i:=by
     intro e he hb heq;have t1:=hall e he hb;have t0:=(mem_ready.1 hr).1;rw[heq]at t1
     by_cases hlt:i<l.size
     ·simp [hlt]at t0 t1
      rw[t0]at t1;cases t1
     ·rw[Array.getD_eq_getD_getElem?,Array.getElem?_eq_none (by omega)]at t1;cases t1
    have hjz:j≠z:=by
     rintro rfl;unfold waits at hz;rw[hoj]at hz;obtain⟨e,he,hb⟩:=Array.any_eq_true'.1 hz;simp only[Bool.and_eq_true,beq_iff_eq]at hb;exact hno e he hb.1 hb.2
    have h2:=wpOp_putIf hoj (hf j oj hoj hji hjl hno) (fun cs b=>hns i oi cs b hi) (fun cs b=>hns j oj cs b hoj) hQ hy (H.2 j hj2);refine wpOp_mono (fun b v h3=>⟨h3.2.1,HoldX.ahead hi hns hQ hz n (l.setIfInBounds j true) b v (fun k ok hk hki hkl hkn=>hf k ok hk hki ?_ hkn) (ready_mono hr (Ne.symm hji)) h3.1 (h3.2.1 hjz) ?_⟩) h2
    ·by_cases hjk:j=k
     ·subst hjk;exact hjl
     ·rwa [getD_set_ne true hjk]at hkl
    ·rw[Array.setIfInBounds_comm _ _ hji];exact h3.2.2
theorem takeX {i:Nat}{oi:Oper}{x:Value}{n:Nat}{l:Array Bool}{a:Act}{w:World}(hi:ops[i]? = some oi)(hs:Region.noSelect ops=true)(hf:Region.free md ops l i=true)(hz:waits md ops z i=true)(hr:(Region.ready md ops l).contains i=true)
  (hQ:∀ c a w,Q (.panic c) (a.put oi.dst x) w→Q (.panic c) a w) (hy:YieldsIf P ops S oi x a) (hS:S w)
  (h:HoldX P md ops Q S z n (l.setIfInBounds i true) (a.put oi.dst x) w):HoldX P md ops Q S z (n+1) l a w:=
 HoldX.ahead hi (Region.noSelect_spec hs) hQ hz n l a w (Region.free_spec hi hf) (by simpa using hr) hy hS h
theorem oneX {n:Nat}{l:Array Bool}{a:Act}{w:World}{i:Nat}{o:Oper}(ho:ops[i]? = some o)(hr:Region.ready md ops l=[i])(hw:Region.wanted o (yielded ops a.tmps)=true)
  (h:∀ K:Act→World→Prop,Shut (∀ b v,S v→(S v→HoldX P md ops Q S z n (l.setIfInBounds i true) b v)→K b v)→Oper.wp P o a w K Q):HoldX P md ops Q S z (n+1) l a w:=by
 refine⟨fun h0=>(by rw[hr]at h0;cases h0),fun j hj=> ?_⟩;rw[hr,List.mem_singleton]at hj;subst hj;unfold wpOp;simp only[ho,hw,if_true];exact .inl (h _ (fun _ _ h1 h2=>⟨fun _=>h1,h2 h1⟩))
theorem lastX {n:Nat}{l:Array Bool}{a:Act}{w:World}{o:Oper}(ho:ops[z]? = some o)(hr:Region.ready md ops l=[z])(hw:Region.wanted o (yielded ops a.tmps)=true)(hd:Region.ready md ops (l.setIfInBounds z true)=[])
  (h:∀ K:Act→World→Prop,Shut (∀ b v,Q .normal b v→K b v)→Oper.wp P o a w K Q):HoldX P md ops Q S z (n+1) l a w:=by
 refine⟨fun h0=>(by rw[hr]at h0;cases h0),fun j hj=> ?_⟩;rw[hr,List.mem_singleton]at hj;subst hj;unfold wpOp;simp only[ho,hw,if_true];refine .inl (h _ (fun b v hq=>⟨fun hn=>absurd rfl hn,?_⟩))
 cases n with
 | zero=>exact⟨hd,hq⟩
 | succ n=>exact⟨fun _=>hq,fun k hk=>(by rw[hd]at hk;cases hk)⟩
theorem beginX {id:Nat}{a:Act}{w:World}(z:Nat)(S:World→Prop)(hm:P.follows .mixedOrders=true)(hS:S w.drew)(h:S w.drew→HoldX P .any ops Q S z ops.size (Array.replicate ops.size false) a w.drew):(Code.region id ops true).wp P Q a w:=
 wp_region_any hm (HoldX.any _ _ _ _ (h hS))
end
end Go.Proofs.YtjkmahmoclobmaaGreat.base
