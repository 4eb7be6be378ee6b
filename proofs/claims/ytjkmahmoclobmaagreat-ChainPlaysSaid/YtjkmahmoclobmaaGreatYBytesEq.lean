import Derived.Test.YtjkmahmoclobmaaGreatYFar
import Derived.Laws.BytesArg
import Derived.Laws.Cells
namespace Go.Proofs.YtjkmahmoclobmaaGreat.base
open Go.RowKit mem
theorem conv_str (A:Option Addr)(n c:Nat)(xs:List UInt8)(w:World)(hv:Vals w [] A (xs.map B))(hl:xs.length=n):
  (convert 41 9 (.slice A n c)).run Tryz.prog w= .ok (.string ⟨xs.toArray⟩) w:=by
 subst hl;rw[run_convert_bytes_string w _ _ 5 _ _ c Tryz.underlying41 Tryz.underlying5 Tryz.underlying9]
 cases A with
 | none=>
  have:xs=[]:=by
   cases xs with
   | nil=>rfl
   | cons x xs=>obtain⟨ad,h,_⟩:=hv 0 _ rfl;cases h
  subst this
  rfl
 | some a=>
  have e:xs.map B=(xs.map fun x=>(x.toNat:Int)).map (Value.int .u8):=by rw[List.map_map];rfl
  have hl:=run_loadCells_list (P:=Tryz.prog) w a (xs.map B) (fun j v hj=>by
   obtain⟨ad,h,_,hc⟩:=hv j v hj;cases h
   exact hc)
  rw[List.length_map,e]at hl;rw[run_bytesToString w a xs.length c _ hl,foldl_push_bytes]
  have:(xs.map fun x=>(x.toNat:Int)).map (fun n=>UInt8.ofNat n.toNat)=xs:=by
   rw[List.map_map]
   conv=>rhs;rw[←List.map_id xs]
   exact List.map_congr_left fun x _=>by simp
  rw[this]
  simp [ByteArray.empty,ByteArray.emptyWithCapacity]
  rfl

theorem bytesEqual_any (A1 A2:Option Addr)(n1 n2 c1 c2:Nat)(xs ys:List UInt8)(w:World)(hn1:xs.length=n1)(hn2:ys.length=n2)(h1:Vals w [] A1 (xs.map B))(h2:Vals w [] A2 (ys.map B)):
  Calls Tryz.prog 231 #[.slice A1 n1 c1,.slice A2 n2 c2] w fun e w'=>e= .returned (.bool (decide (xs=ys)))∧w=w':=by
 have q1:=conv_str A1 n1 c1 xs w h1 hn1;have q2:=conv_str A2 n2 c2 ys w h2 hn2;go_enter Tryz.func231,Tryz.ntmps231;go_wp2;go_ret;refine⟨?_,rfl⟩;show Ending.returned (.bool (xs==ys))=_
 by_cases h:xs=ys
 ·simp [h]
 ·simp [h]
end Go.Proofs.YtjkmahmoclobmaaGreat.base
