/- LkCut -/
import Derived.Test.YtddkjkockbcamaaGreatDoorHw17
import Derived.Test.YtddkjkockbcamaaGreatDoorHw13
import Derived.Lib.IndexAny
import Derived.Deep.QuietTactic
import Derived.BigQuiet
set_option maxHeartbeats 16000000
set_option maxRecDepth 100000
namespace Go.Proofs.YtddkjkockbcamaaGreatDoor
open Go.RowKit
theorem index_spec (l:List UInt8) (c:UInt8):(Lib.indexByte l c = -1∧l.contains c=false∧l.takeWhile (· != c)=l) ∨
  (∃ i:Nat,Lib.indexByte l c=(i:Int)∧i<l.length∧l.contains c=true∧l.takeWhile (· != c)=l.take i):=by
 by_cases h:Lib.indexByte l c = -1
 ·left
  have hn:=Lib.indexByte_none h;have hno:∀ b∈l,b≠c:=by
   intro b hb he;obtain ⟨k,hk,rfl⟩:=List.mem_iff_getElem.1 hb;exact hn k (by rw [List.getElem?_eq_getElem hk,he])
  refine ⟨h,?_,?_⟩
  ·rw [← Bool.not_eq_true,List.contains_iff_mem];exact fun hc=>hno c hc rfl
  ·have h2:=List.takeWhile_append_of_pos (p:=(· != c)) (l₁:=l) (l₂:=[]) (fun b hb=>by simpa using hno b hb)
   simpa using h2
 ·right
  have hge:=Lib.indexByte_ge l c;obtain ⟨i,hi⟩:∃ i:Nat,Lib.indexByte l c=(i:Int):=⟨(Lib.indexByte l c).toNat,by omega⟩
  obtain ⟨h1,h2⟩:=Lib.indexByte_some hi;obtain ⟨hl,he⟩:=List.getElem?_eq_some_iff.1 h1;refine ⟨i,hi,hl,?_,?_⟩
  ·rw [List.contains_iff_mem,← he];exact List.getElem_mem hl
  ·have e:l=l.take i++c::l.drop (i+1):=by rw [← he,← List.drop_eq_getElem_cons hl,List.take_append_drop]
   conv=>lhs;rw [e]
   rw [List.takeWhile_append_of_pos (fun b hb=>by
    obtain ⟨k,hk,rfl⟩:=List.mem_iff_getElem.1 hb;rw [List.length_take] at hk;rw [List.getElem_take];have:=h2 k (by omega);rw [List.getElem?_eq_getElem (by omega)] at this;simpa using this)]
   simp
theorem iS {S:List UInt8}{i:Nat}{v:Int}(h:i≤S.length) (hv:v=(i:Int)) (w:World) :
  (Instr.slice 9 (.string (bs S)) (some (.int .i64 v)) none none).run Tryz.prog w=.ok (.string (bs (S.drop i))) w:=by subst hv;exact cB h w
theorem Rt (l:List UInt8) (c:UInt8) (hs:l.length≤140737488355328) (w:World) :
  Calls Tryz.prog 47 #[.string (bs l),.string ⟨#[c]⟩] w fun e w'=>(∃ a:List UInt8,e=.returned (.tuple #[.string (bs (l.takeWhile (· != c))),.string (bs a),.bool (l.contains c)]))∧Below w.heap.size w w':=by
 have hsz:=au l;have q:=fun w=>Tryz.stringslite_Index_one (bs l) c w;have hbl:(bs l).data.toList=l:=by simp [bs]
 rw [hbl] at q;rcases index_spec l c with ⟨h1,h2,h3⟩ | ⟨i,h1,h2,h3,h4⟩
 ·rw [h1] at q
  rw [h2,h3];clear h1 h2 h3;go_enter Tryz.func47,Tryz.ntmps47;go_wp2_with fail;refine (q _).mono ?_;rintro e w1 ⟨rfl,rfl⟩;go_wp2;go_ret3;exact ⟨⟨[],rfl⟩,Below.refl _ _⟩
 ·rw [h1] at q
  rw [h3,h4];have hc1:=fun w=>oS (S:=l) (i:=i) (by omega) w;have hc2:=fun w=>iS (S:=l) (i:=i+1) (v:=(i:Int)+1) (by omega) (by omega) w;clear h1 h3 h4;go_enter Tryz.func47,Tryz.ntmps47;go_wp2_with fail;refine (q _).mono ?_;rintro e w1 ⟨rfl,rfl⟩;go_wp2_with fail;go_quiet (fail);go_wp2;go_ret3;exact ⟨⟨l.drop (i+1),rfl⟩,below_drewN (Below.refl _ _) _⟩
theorem VW (l:List UInt8) (c:UInt8) (hs:l.length≤140737488355328) (w:World) :
  Calls Tryz.prog 34 #[.string (bs l),.string ⟨#[c]⟩] w fun e w'=>(∃ a:List UInt8,e=.returned (.tuple #[.string (bs (l.takeWhile (· != c))),.string (bs a),.bool (l.contains c)]))∧Below w.heap.size w w':=by
 have q:=Rt l c hs w;obtain ⟨T,hT⟩:∃ T,T=l.takeWhile (· != c):=⟨_,rfl⟩
 obtain ⟨o,ho⟩:∃ o,o=l.contains c:=⟨_,rfl⟩
 rw [← hT,← ho] at q ⊢;clear hT ho;go_enter Tryz.func34,Tryz.ntmps34;go_wp2_with fail;refine q.mono ?_;rintro e w1 ⟨⟨a,rfl⟩,hb⟩;go_wp2;go_ret3;exact ⟨⟨a,rfl⟩,hb⟩
theorem lP (l:List UInt8) (c:UInt8) (hc:c≠0) (w:World) :
  Calls Tryz.prog 36 #[.string (bs l),.string ⟨#[c]⟩] w fun e w'=>e=.returned (.bool (l.getD 0 0==c))∧w'=w:=by
 have h:=Tryz.strings_HasPrefix (bs l) ⟨#[c]⟩ w;rwa [show Lib.hasPrefix (bs l).data.toList (⟨#[c]⟩:ByteArray).data.toList=(l.getD 0 0==c) from by
  cases l with
  | nil=>simp [bs,Lib.hasPrefix];exact hc.symm
  | cons b r=>rw [Bool.eq_iff_iff];simp [bs,Lib.hasPrefix,List.isPrefixOf];exact eq_comm] at h
theorem CW (l:List UInt8) (w:World) (hl:l.length≤140737488355328) :
  Calls Tryz.prog 158 #[.string (bs l)] w fun e w'=>e=.returned (.string (bs l))∧Below w.heap.size w w':=by
 go_enter Tryz.func158,Tryz.ntmps158;go_wp2_with (go_at_call 185;refine (Tryz.stringslite_Clone (bs l) _ (by rw [au];omega)).mono ?_;rintro e w' ⟨rfl,hb⟩);go_ret;exact ⟨rfl,hb⟩
end Go.Proofs.YtddkjkockbcamaaGreatDoor
