/- Byts CdMem CdProg -/
import Derived.Test.YtddkjkockbcamaaGreatDoorHw03
import Derived.Test.YtddkjkockbcamaaGreatDoorRows
import Derived.Lib.ConvBytes
import Derived.Laws.OwnMore
set_option maxHeartbeats 16000000
set_option maxRecDepth 100000
namespace Go.Proofs.YtddkjkockbcamaaGreatDoor
open Go.RowKit
theorem BU (l:List UInt8) (w:World) :
  (convert 9 27 (.string (bs l))).run Tryz.prog w=.ok (.slice (some ⟨w.heap.size,0,none⟩) l.length (grownCap w l.length 0 5)) (Lib.bytesWorld w 5 (bs l)):=by
 have:=Lib.run_convert_string_bytes (P:=Tryz.prog) w 9 27 5 (bs l) Tryz.underlying9 Tryz.underlying27 Tryz.underlying5;rwa [au] at this
theorem vT (w:World) (s:ByteArray):Below w.heap.size w (Lib.bytesWorld w 5 s):=by
 refine ⟨?_,?_,?_,by rw [Lib.bytesWorld_size];omega,fun k hk=>Lib.bytesWorld_at_old w _ s k hk⟩
 all_goals
  unfold Lib.bytesWorld World.freeze
  split<;>rfl
theorem Nn (w:World) (l:List UInt8):Row (Lib.bytesWorld w 5 (bs l)) (Lib.bytesWorld w 5 (bs l)).heap.size 1 (some ⟨w.heap.size,0,none⟩) l.length (ai l):=by
 refine ⟨by simp [ai],fun _=>⟨w.heap.size,0,rfl,by rw [Lib.bytesWorld_size];omega,fun j u hu=>?_⟩⟩;have hj:j<l.length:=by have:=(List.getElem?_eq_some_iff.1 hu).1;simpa [ai] using this
 rw [Nat.zero_add,Lib.bytesWorld_cell w _ _ j (by rw [au];exact hj)];simp [ai,bv,List.getElem?_eq_getElem hj] at hu;simp [bs,List.getD,List.getElem?_eq_getElem hj,← hu]
def oa (w:World) (g:Nat) (l:List UInt8):Prop :=
 ∃ cur:Array Value,w.heap[g]? = some (.cells cur 5 (cur.size,cur.size+1))∧l.length≤cur.size∧cur.toList.take l.length=ai l
theorem oa.lt {w:World}{g:Nat}{l:List UInt8}(h:oa w g l):g<w.heap.size:=by
 obtain ⟨cur,hg,_,_⟩:=h;exact (Array.getElem?_eq_some_iff.1 hg).1
theorem oa.cell {w:World}{g:Nat}{l:List UInt8}(h:oa w g l) {j:Nat}(hj:j<l.length):w.cell? ⟨g,j,none⟩=some (.int .u8 (l[j].toNat:Int)):=by
 obtain ⟨cur,hg,hl,ht⟩:=h;rw [cell_of_row w g j cur _ _ hg];have h1:(cur.toList.take l.length)[j]? = (ai l)[j]? := by rw [ht]
 rw [List.getElem?_take,if_pos hj] at h1;simpa [ai,bv,List.getElem?_eq_getElem hj] using h1
theorem oa.frozen {w:World}{g:Nat}{l:List UInt8}(h:oa w g l) {j:Nat}(hj:j<l.length):w.frozen? ⟨g,j,none⟩=false:=by
 obtain ⟨cur,hg,hl,ht⟩:=h;simp only [World.frozen?,hg,Bool.and_eq_false_iff,decide_eq_false_iff_not];left;omega
theorem oa.set {w:World}{g:Nat}{l:List UInt8}(h:oa w g l) (j:Nat) (b:UInt8):oa (w.setCell ⟨g,j,none⟩ (.int .u8 (b.toNat:Int))) g (l.set j b):=by
 obtain ⟨cur,hg,hl,ht⟩:=h;refine ⟨cur.setIfInBounds j (.int .u8 (b.toNat:Int)),?_,by simpa using hl,?_⟩
 ·rw [setCell_eq_setRow w g j cur _ _ _ hg,setRow_heap w g cur _ _ _ hg]
  simp
 ·rw [Array.toList_setIfInBounds,List.length_set,List.take_set,ht]
  simp [ai,List.map_set,bv]
theorem oa.new (w:World) (l:List UInt8):oa (Lib.bytesWorld w 5 (bs l)) w.heap.size l:=by
 refine ⟨_,Lib.bytesWorld_at_new w _ _,?_,?_⟩
 ·simp only [Lib.bytesCells,Array.size_append,Array.size_map,Array.size_replicate]
  have:=au l;simp only [ByteArray.size] at this;omega
 ·simp only [Lib.bytesCells,Array.toList_append,Array.toList_map]
  rw [List.take_append_of_le_length (by simp [bs])];simp [bs,ai,bv,List.take_of_length_le]
theorem oa.row {w:World}{g:Nat}{l:List UInt8}(h:oa w g l):Row w w.heap.size 1 (some ⟨g,0,none⟩) l.length (ai l):=by
 refine ⟨by simp [ai],fun _=>⟨g,0,rfl,h.lt,fun j u hu=>?_⟩⟩;have hj:j<l.length:=by have:=(List.getElem?_eq_some_iff.1 hu).1;simpa [ai] using this
 rw [Nat.zero_add,h.cell hj];simpa [ai,bv,List.getElem?_eq_getElem hj] using hu
theorem Tt (l:List UInt8) (b:UInt8):l.count b<l.length↔l.all (·==b)=false:=by
 have h:=List.count_le_length (a:=b) (l:=l);have he:=List.count_eq_length (a:=b) (l:=l);rw [← Bool.not_eq_true,List.all_eq_true];constructor
 ·intro hlt hall
  have:=he.2 fun x hx=>by have:=hall x hx;simp at this;exact this.symm
  omega
 ·intro hn
  rcases Nat.lt_or_eq_of_le h with h1 | h1
  ·exact h1
  ·exact absurd (fun x hx=>by have:=he.1 h1 x hx;simp [this]) hn
theorem sK (l:List UInt8) (at_:Int) (c:UInt8) (w:World) (hl:l.length≤140737488355328) :
  Calls Tryz.prog 219 #[.string (bs l),.int .i64 at_,.int .u8 (c.toNat:Int)] w fun e w'=>e=.returned (.int .i64 (wu c l at_:Nat))∧w=w':=by
 have hsz:=au l
 by_cases h0:at_<0
 ·have hv:wu c l at_=0:=by unfold wu;rw [if_pos h0]
  rw [hv];go_enter Tryz.func219,Tryz.ntmps219;go_wp2;go_ret;exact ⟨rfl,rfl⟩
 ·obtain ⟨a,rfl⟩:∃ a:Nat,at_=(a:Int):=⟨at_.toNat,by omega⟩
  rw [kL]
  by_cases hle:a≤l.length
  ·go_enter Tryz.func219,Tryz.ntmps219
   go_wp2_with fail
   go_loop [7] (fun u=>∃ k:Nat,a≤k∧k≤l.length∧u=.int .i64 (k:Int)∧Hid (k+Fn.run c (l.drop k)=a+Fn.run c (l.drop a))) (fun u=>l.length-(intOf u).toNat)
   case atStart=>exact ⟨a,by omega,hle,rfl,Lib.hid rfl⟩
   case round =>
    obtain ⟨k,jq,hk,rfl,hf⟩:=hrel
    by_cases hlt:k<l.length
    ·have hx:=bG hlt w
     by_cases hc:l[k]=c
     ·have ht:=jK hc
      have hf2:Hid (k+1+Fn.run c (l.drop (k+1))=a+Fn.run c (l.drop a)):=Lib.hid (by have:=hf.out;rw [Fn.jS hlt hc] at this;omega);clear hc;go_wp2
      go_round
      case rel=>exact ⟨k+1,by omega,by omega,by go_num,hf2⟩
      case measure=>simp [intOf];omega
     ·have ht:=gz hc
      have aP:=Lib.hid (show k=a+Fn.run c (l.drop a) from by have:=hf.out;rw [Fn.qM hlt hc] at this;omega);clear hc;go_wp2;go_returns;exact ⟨by refine nr ?_;have:=aP.out;omega,rfl⟩
    ·have aP:=Lib.hid (show k=a+Fn.run c (l.drop a) from by have:=hf.out;rw [Fn.jF hlt] at this;omega)
     go_wp2;go_returns;exact ⟨by refine nr ?_;have:=aP.out;omega,rfl⟩
  ·rw [Fn.jF (by omega)]
   go_enter Tryz.func219,Tryz.ntmps219;go_wp2_with fail
   go_loop [7] (fun u=>u=.int .i64 (a:Int)) (fun _=>0)
   case atStart=>rfl
   case round =>
    subst hrel;go_wp2;go_returns;exact ⟨by refine nr ?_;omega,rfl⟩
theorem L9 (l:List UInt8) (at_:Int) (c:UInt8) (w:World) (hl:l.length≤140737488351232) (_:at_≤9223372036854775807) :
  Calls Tryz.prog 219 #[.string (bs l),.int .i64 at_,.int .u8 (c.toNat:Int)] w fun e w'=>e=.returned (.int .i64 (wu c l at_:Nat))∧w=w':=sK l at_ c w (by omega)
def Jq:Option Nat→Value
 | none=>.tuple #[.int .i64 0,.bool false]
 | some p=>.tuple #[.int .i64 (p:Int),.bool true]
theorem Dn (l:List UInt8) (a n:Nat) (w:World) (hs:l.length≤140737488351232) (ha:a≤l.length) (hn:n≤l.length) :
  Calls Tryz.prog 232 #[.string (bs l),.int .i64 (a:Int),.int .i64 (n:Int)] w fun e w'=>e=.returned (Jq (Cd.find l n a))∧w=w':=by
 have hsz:=au l;have q:=Lib.hid (fun (i:Nat) (hi:(i:Int)≤9223372036854775807) w=>L9 l i 96 w (by omega) hi);obtain ⟨R,hR⟩:∃ R,R=Cd.find l n a:=⟨_,rfl⟩
 rw [← hR];replace hR:=Lib.hid hR;go_enter Tryz.func232,Tryz.ntmps232;go_wp2_with fail
 go_loop [8,9] (fun u _=>∃ i:Nat,i≤l.length∧u=.int .i64 i∧Hid (Cd.find l n a=Cd.find l n i)) (fun u _=>l.length-(intOf u).toNat)
 case atStart=>exact ⟨a,ha,rfl,Lib.hid rfl⟩
 case round =>
  obtain ⟨i,hi,rfl,hf⟩:=hrel
  by_cases hil:i<l.length
  ·have q2:=q.out i (by omega)
   rw [kL] at q2;have hyes:=Cd.SL (n:=n) hil;have hno:=Cd.Ui (n:=n) hil;have hml:=Fn.gE 96 (l.drop i);rw [List.length_drop] at hml;obtain ⟨m,hm⟩:∃ m,m=Fn.run 96 (l.drop i):=⟨_,rfl⟩
   rw [← hm] at q2 hyes hno hml;clear hm
   by_cases hmn:m=n
   ·subst hmn
    have hres:R=some i:=by rw [hR.out,hf.out,hyes rfl]
    subst hres;clear hR hf hyes hno;go_wp2_with fail;refine (q2 _).mono ?_;rintro e w1 ⟨rfl,rfl⟩;go_wp2;go_ret2;exact ⟨rfl,rfl⟩
   ·have hne:((m:Int)==(n:Int))=false:=by simp;omega
    have hf2:Hid (Cd.find l n a=Cd.find l n (i+max m 1)):=Lib.hid (by rw [hf.out,hno hmn]);have hlm:i+max m 1≤l.length:=by omega
    clear hyes hno hmn hf;go_wp2_with fail;refine (q2 _).mono ?_;rintro e w1 ⟨rfl,rfl⟩;go_wp2_with fail
    go_round
    case rel=>exact ⟨i+max m 1,hlm,by go_num,hf2⟩
    case measure=>simp [intOf];omega
  ·have hres:R=none:=by rw [hR.out,hf.out,Cd.Qq (by omega)]
   subst hres;clear hR hf;go_wp2;go_ret2;exact ⟨rfl,rfl⟩
def nC (k:Nat) (l:List UInt8):List UInt8:=Cd.flat (l.take k)++l.drop k
theorem lV {k:Nat}{l:List UInt8}(h:k≤l.length):(nC k l).length=l.length:=by simp [nC,Cd.flat];omega
theorem OS (l:List UInt8):nC 0 l=l:=by simp [nC,Cd.flat]
theorem Tn (l:List UInt8):nC l.length l=Cd.flat l:=by simp [nC]
theorem K2 {k:Nat}{l:List UInt8}(h:k<l.length) (h':k<(nC k l).length):(nC k l)[k]=l[k]:=by
 have hl:(Cd.flat (l.take k)).length=k:=by rw [Cd.lW,List.length_take];omega
 have:(nC k l)[k]? = some l[k]:=by
  unfold nC;rw [List.getElem?_append_right (by omega),hl,Nat.sub_self,List.getElem?_drop,Nat.add_zero,List.getElem?_eq_getElem h]
 rw [List.getElem?_eq_getElem h'] at this;injection this
theorem FM {k:Nat}{l:List UInt8}(h:k<l.length):(nC k l).set k (Cd.nl l[k])=nC (k+1) l:=by
 have hl:(Cd.flat (l.take k)).length=k:=by rw [Cd.lW,List.length_take];omega
 unfold nC;rw [List.set_append_right _ _ (by omega),hl,Nat.sub_self,Cd.qg h,List.append_assoc];congr 1;rw [List.drop_eq_getElem_cons h]
 rfl
theorem MY {k:Nat}{l:List UInt8}(h:k<l.length) (hn:Cd.nl l[k]=l[k]):nC (k+1) l=nC k l:=by
 rw [← FM h,hn,← K2 h (by rw [lV (by omega)];exact h)];exact List.set_getElem_self _
theorem SY {k:Nat}{l:List UInt8}(h:k<l.length):(Cd.flat (l.take (k+1))).count 32=(Cd.flat (l.take k)).count 32+(if Cd.nl l[k]=32 then 1 else 0):=by
 rw [Cd.qg h,List.count_append];congr 1
 by_cases hn:Cd.nl l[k]=32
 ·rw [if_pos hn,hn];rfl
 ·rw [if_neg hn]
  have:¬ (Cd.nl l[k]==32)=true:=by simpa using hn
  simp [List.count_cons,this]
theorem Um (w:World):(sizeOf (Tryz.prog.elem 27)).run Tryz.prog w=.ok 1 w:=by kernel_rfl
theorem UW:Tryz.prog.underlying 27=some (.slice (Tryz.prog.elem 27)):=by kernel_rfl
theorem oa.mid {w:World}{g:Nat}{l:List UInt8}(h:oa w g l) {i j c:Nat}(h1:i≤j) (h2:j≤l.length) (h3:l.length≤c):Row w w.heap.size 1 (wv 1 (some ⟨g,0,none⟩) c i) (j-i) (ai (mid l i j)):=by
 have:=h.row.cut h1 h2 h3;rw [Nat.mul_one,Nat.mul_one] at this;unfold Go.Proofs.YtddkjkockbcamaaGreatDoor.mid ai;rw [List.map_take,List.map_drop];exact this
theorem YW {A:Option Addr}{n c i j:Nat}{v u:Int}(h1:i≤j) (h2:j≤c) (hv:v=(i:Int)) (hu:u=(j:Int)) (w:World) :
  (Instr.slice 27 (.slice A n c) (some (.int .i64 v)) (some (.int .i64 u)) none).run Tryz.prog w=.ok (.slice (wv 1 A c i) (j-i) (c-i)) w:=by
 subst hv hu;exact Lg UW 1 Um A n c i j h1 h2 w
theorem YF {D:List UInt8}(hb:Cd.blanks D=false) (h0:0<D.length) (f:D[0]=32):2≤D.length:=by
 match D,hb,h0,f with
 | [x],hb,_,f=>simp at f;subst f;simp [Cd.blanks] at hb
 | _::_::_,_,_,_=>simp
theorem I6 (l:List UInt8) (w:World) (hs:l.length≤140737488351232) :
  Calls Tryz.prog 233 #[.string (bs l)] w fun e w'=>e=.returned (.string (bs (Cd.clean l)))∧Below w.heap.size w w':=by
 have hrb:=BU l w;have kr:=vT w (bs l);have hnew:=oa.new w l;have hcl:l.length≤grownCap w l.length 0 5:=grownCap_ge w _ _ _;obtain ⟨w1,hw1⟩:∃ w1,w1=Lib.bytesWorld w 5 (bs l):=⟨_,rfl⟩
 rw [← hw1] at hrb kr hnew;clear hw1;obtain ⟨c,hc⟩:∃ c,c=grownCap w l.length 0 5:=⟨_,rfl⟩
 rw [← hc] at hrb hcl;clear hc;obtain ⟨g,hg⟩:∃ g,g=w.heap.size:=⟨_,rfl⟩
 rw [← hg] at hrb hnew;have FG:=hnew.lt;have mh:w.heap.size≤g:=by omega
 clear hg;obtain ⟨C,hC⟩:∃ C,C=Cd.clean l:=⟨_,rfl⟩
 rw [← hC];replace hC:=Lib.hid hC;replace hnew:=Lib.hid hnew;go_enter Tryz.func233,Tryz.ntmps233;go_wp2_with fail
 go_loopw [12,4,5,6] (fun i n _ _ wr=>∃ (k m:Nat),k≤l.length∧i=.int .i64 k∧n=.int .i64 m∧m≤k∧Hid (m=(Cd.flat (l.take k)).count 32)∧Hid (oa wr g (nC k l))∧Below w.heap.size w wr) (fun i _ _ _ _=>l.length-(intOf i).toNat)
 case atStart=>exact ⟨0,0,Nat.zero_le _,rfl,rfl,Nat.le_refl _,Lib.hid rfl,Lib.hid (by rw [OS];exact hnew.out),kr⟩
 case round =>
  obtain ⟨k,m,hk,rfl,rfl,hmk,hm,hB,hb⟩:=hrel;have hml:=lV hk;have hgr:=hB.out.lt;clear hrb kr hnew
  by_cases hp:k<l.length
  ·have hx:=hB.out.cell (j:=k) (by omega)
   rw [K2 hp] at hx;have hfz:=hB.out.frozen (j:=k) (by omega);have nX:=SY hp;rw [← hm.out] at nX;have hst:=FM hp;have hsm:=MY hp;obtain ⟨b,kr⟩:∃ b,b=l[k]:=⟨_,rfl⟩
   rw [← kr] at hx nX hst hsm;clear kr
   by_cases h10:b=10
   ·have ht:((b.toNat:Int)==10)=true:=fQ (n:=10) (by omega) h10
    have hn:Cd.nl b=32:=by rw [h10];rfl
    rw [hn] at hst;rw [hn,if_pos rfl] at nX;have hB2:oa (wr.setCell ⟨g,k,none⟩ (.int .u8 32)) g (nC (k+1) l):=by rw [← hst];exact hB.out.set k 32
    have hx2:(wr.setCell ⟨g,k,none⟩ (.int .u8 32)).cell? ⟨g,k,none⟩=some (.int .u8 32):=by
     have h:=hB2.cell (j:=k) (by rw [lV (by omega)];exact hp);have e:(nC (k+1) l)[k]'(by rw [lV (by omega)];exact hp)=32:=by
      have h3:(nC (k+1) l)[k]? = some 32:=by rw [← hst,List.getElem?_set_self (by rw [lV (by omega)];exact hp)]
      rw [List.getElem?_eq_getElem (by rw [lV (by omega)];exact hp)] at h3;injection h3
     rw [e] at h;exact h
    replace hB2:=Lib.hid hB2;replace nX:=Lib.hid nX;clear h10 hn hst hsm hB hm;go_wp2
    go_roundw
    case rel=>exact ⟨k+1,m+1,hp,by go_num,by go_num,by omega,Lib.hid nX.out.symm,hB2,hb.setCell (by simp;omega) _⟩
    case measure=>simp [intOf];omega
   ·have ht:((b.toNat:Int)==10)=false:=dw (n:=10) (by omega) h10
    have hn:Cd.nl b=b:=by unfold Cd.nl;rw [if_neg h10]
    have hB2:=Lib.hid hB.out;rw [← hsm hn] at hB2;rw [hn] at nX;clear h10 hn hst hsm hB hm
    by_cases h32:b=32
    ·have ZZ:((b.toNat:Int)==32)=true:=fQ (n:=32) (by omega) h32
     rw [if_pos h32] at nX;replace nX:=Lib.hid nX;clear h32;go_wp2
     go_roundw
     case rel=>exact ⟨k+1,m+1,hp,by go_num,by go_num,by omega,Lib.hid nX.out.symm,hB2,hb⟩
     case measure=>simp [intOf];omega
    ·have ZZ:((b.toNat:Int)==32)=false:=dw (n:=32) (by omega) h32
     rw [if_neg h32] at nX;replace nX:=Lib.hid nX;clear h32;go_wp2
     go_roundw
     case rel=>exact ⟨k+1,m,hp,by go_num,rfl,by omega,Lib.hid (by have:=nX.out;omega),hB2,hb⟩
     case measure=>simp [intOf];omega
  ·obtain rfl:k=l.length:=by omega
   have hB2:=Lib.hid hB.out;rw [Tn] at hB2;have hm2:=hm.out;rw [List.take_length] at hm2;clear hB hm hml hp;have hDl:=Cd.lW l;have hcd:C=if Cd.blanks (Cd.flat l)=false∧(Cd.flat l).getD 0 0=32∧(Cd.flat l).getD ((Cd.flat l).length-1) 0=32 then mid (Cd.flat l) 1 ((Cd.flat l).length-1) else Cd.flat l:=hC.out;clear hC;obtain ⟨D,hD⟩:∃ D,D=Cd.flat l:=⟨_,rfl⟩
   rw [← hD] at hB2 hm2 hDl hcd;clear hD;have SN:=Tt D 32;rw [← hm2,hDl] at SN;rw [hDl] at hcd;have hcv:=me (c:=c) hB2.out.row 27 5 9 Tryz.underlying27 Tryz.underlying5 Tryz.underlying9;rw [hDl] at hcv
   by_cases hlt:m<l.length
   ·have hbl:Cd.blanks D=false:=SN.1 hlt
    have h0D:0<D.length:=by omega
    have h1D:l.length-1<D.length:=by omega
    have hx0:=hB2.out.cell h0D;have hx1:=hB2.out.cell h1D;have g0:D.getD 0 0=D[0]:=by simp [List.getD,List.getElem?_eq_getElem h0D]
    have g1:D.getD (l.length-1) 0=D[l.length-1]:=by simp [List.getD,List.getElem?_eq_getElem h1D]
    rw [g0,g1] at hcd;clear g0 g1 SN hm2
    by_cases f0:D[0]=32
    ·have t0:((D[0].toNat:Int)==32)=true:=fQ (n:=32) (by omega) f0
     by_cases f1:D[l.length-1]=32
     ·have t1:((D[l.length-1].toNat:Int)==32)=true:=fQ (n:=32) (by omega) f1
      have h2:2≤l.length:=by have:=YF hbl h0D f0;omega
      rw [if_pos ⟨hbl,f0,f1⟩] at hcd;have qm:=YW (A:=some ⟨g,0,none⟩) (n:=l.length) (c:=c) (i:=1) (j:=l.length-1) (v:=1) (u:=(l.length:Int)-1) (by omega) (by omega) rfl (by omega) wr;have aew:=me (c:=c-1) (hB2.out.mid (i:=1) (j:=l.length-1) (c:=c) (by omega) (by omega) (by omega)) 27 5 9 Tryz.underlying27 Tryz.underlying5 Tryz.underlying9;rw [← hcd] at aew;clear hbl f0 f1 hcd hcv;go_wp2;go_ret;exact ⟨rfl,hb⟩
     ·have t1:((D[l.length-1].toNat:Int)==32)=false:=dw (n:=32) (by omega) f1
      rw [if_neg (fun h=>f1 h.2.2)] at hcd;subst hcd;clear hbl f0 f1;go_wp2;go_ret;exact ⟨rfl,hb⟩
    ·have t0:((D[0].toNat:Int)==32)=false:=dw (n:=32) (by omega) f0
     rw [if_neg (fun h=>f0 h.2.1)] at hcd;subst hcd;clear hbl f0 hx1;go_wp2;go_ret;exact ⟨rfl,hb⟩
   ·have hbl:¬ Cd.blanks D=false:=fun h=>hlt (SN.2 h)
    rw [if_neg (fun h=>hbl h.1)] at hcd;subst hcd;clear hbl SN hm2;go_wp2;go_ret;exact ⟨rfl,hb⟩
theorem pK (l:List UInt8) (at_:Int) (hs:l.length≤140737488351232)
  (ho:wu 96 l at_=0∨(∃ n:Nat,wu 96 l at_=n∧1≤n∧n≤l.length∧0<at_∧∃ h:at_.toNat-1<l.length,((l[at_.toNat-1].toNat:Int)==96)=true)) (w:World) :
  Calls Tryz.prog 218 #[.string (bs l),.int .i64 at_] w fun e w'=>e=.returned (gq none)∧Below w.heap.size w w':=by
 have hsz:=au l;have q:=sK l at_ 96 w (by omega);rcases ho with hn | ⟨n,hn,h1,h1l,h0,jq,hb1⟩
 ·rw [hn] at q
  go_enter Tryz.func218,Tryz.ntmps218;go_wp2_with fail;refine q.mono ?_;rintro e w1 ⟨rfl,rfl⟩;go_wp2;go_ret3;exact ⟨rfl,Below.refl _ _⟩
 ·rw [hn] at q
  have Yv:=ec (i:=at_.toNat-1) (v:=at_-1) (S:=l) jq (by omega) w;clear hn;go_enter Tryz.func218,Tryz.ntmps218;go_wp2_with fail;refine q.mono ?_;rintro e w1 ⟨rfl,rfl⟩;go_wp2;go_ret3;exact ⟨rfl,Below.refl _ _⟩
theorem Rn (l:List UInt8) (k:Nat) (hk:k<l.length) (hs:l.length≤140737488351232) (kV:l[k]=96) (hb:k=0∨∃ h:k-1<l.length,l[k-1]≠96) (w:World) :
  Calls Tryz.prog 218 #[.string (bs l),.int .i64 (k:Int)] w fun e w'=>e=.returned (gq (Cd.span l (k:Int)))∧Below w.heap.size w w':=by
 have hsz:=au l;have ho:=ML hk kV hb;have uR:=Cd.Bc ho;have hsp:=Cd.KZ (n:=Fn.run 96 (l.drop k)) ho rfl;rw [show ((k:Int)).toNat=k from by omega] at uR hsp;obtain ⟨R,hR⟩:∃ R,R=Cd.span l (k:Int):=⟨_,rfl⟩
 rw [← hR] at hsp ⊢;clear ho kV hR;have hnl:=Fn.gE 96 (l.drop k);rw [List.length_drop] at hnl;have q:=fun w=>L9 l k 96 w (by omega) (by omega);rw [kL] at q;obtain ⟨n,hn⟩:∃ n,n=Fn.run 96 (l.drop k):=⟨_,rfl⟩
 rw [← hn] at uR hnl q hsp;clear hn;have q2:=fun w=>Dn l (k+n) n w hs (by omega) (by omega);rw [Int.natCast_add] at q2;have hb':(k≤0∧Hid True)∨(0<k∧∃ h:k-1<l.length,((l[k-1].toNat:Int)==96)=false):=by
  rcases hb with hb | ⟨h,hb⟩
  ·exact .inl ⟨by omega,Lib.hid trivial⟩
  ·rcases Nat.eq_zero_or_pos k with h0 | h0
   ·exact .inl ⟨by omega,Lib.hid trivial⟩
   ·exact .inr ⟨h0,h,dw (n:=96) (by omega) hb⟩
 clear hb;cases hf:Cd.find l n (k+n) with
 | none =>
  rw [hf] at hsp q2;simp only [Option.map_none] at hsp;subst hsp;simp only [Jq] at q2;clear hf;rcases hb' with ⟨hk0,_⟩ | ⟨hk0,jq,hb1⟩
  ·go_enter Tryz.func218,Tryz.ntmps218
   go_wp2_with fail;refine (q _).mono ?_;rintro e w1 ⟨rfl,rfl⟩;go_wp2_with fail;refine (q2 _).mono ?_;rintro e w1 ⟨rfl,rfl⟩;go_wp2;go_ret3;exact ⟨rfl,Below.refl _ _⟩
  ·have Yv:=ec (i:=k-1) (v:=(k:Int)-1) (S:=l) jq (by omega) w
   go_enter Tryz.func218,Tryz.ntmps218;go_wp2_with fail;refine (q _).mono ?_;rintro e w1 ⟨rfl,rfl⟩;go_wp2_with fail;refine (q2 _).mono ?_;rintro e w1 ⟨rfl,rfl⟩;go_wp2;go_ret3;exact ⟨rfl,Below.refl _ _⟩
 | some p =>
  rw [hf] at hsp q2;simp only [Option.map_some] at hsp;subst hsp;simp only [Jq] at q2;obtain ⟨HI,hp2,_⟩:=Cd.find_spec uR _ _ _ hf;clear hf;have hcut:=iG (S:=l) (i:=k+n) (j:=p) (v:=(k:Int)+n) (u:=(p:Int)) HI (by omega) (by omega) rfl w;have adP:(mid l (k+n) p).length≤140737488351232:=by rw [ep (by omega)];omega
  have q3:=fun w=>I6 (mid l (k+n) p) w adP;obtain ⟨X,hX⟩:∃ X,X=Cd.clean (mid l (k+n) p):=⟨_,rfl⟩
  rw [← hX] at q3 ⊢;clear hX;rcases hb' with ⟨hk0,_⟩ | ⟨hk0,jq,hb1⟩
  ·go_enter Tryz.func218,Tryz.ntmps218
   go_wp2_with fail;refine (q _).mono ?_;rintro e w1 ⟨rfl,rfl⟩;go_wp2_with fail;refine (q2 _).mono ?_;rintro e w1 ⟨rfl,rfl⟩;go_wp2_with fail;refine (q3 _).mono ?_;rintro e w1 ⟨rfl,hb1⟩;go_wp2;go_ret3;exact ⟨rfl,hb1⟩
  ·have Yv:=ec (i:=k-1) (v:=(k:Int)-1) (S:=l) jq (by omega) w
   go_enter Tryz.func218,Tryz.ntmps218;go_wp2_with fail;refine (q _).mono ?_;rintro e w1 ⟨rfl,rfl⟩;go_wp2_with fail;refine (q2 _).mono ?_;rintro e w1 ⟨rfl,rfl⟩;go_wp2_with fail;refine (q3 _).mono ?_;rintro e w1 ⟨rfl,hb1⟩;go_wp2;go_ret3;exact ⟨rfl,hb1⟩
theorem Vx (c:UInt8) (l:List UInt8) (at_:Int):wu c l at_≤l.length:=by
 unfold wu
 split
 ·omega
 ·have:=Fn.gE c (l.drop at_.toNat);rw [List.length_drop] at this;omega
theorem uI (l:List UInt8) (at_:Int) (hs:l.length≤140737488351232) (w:World) :
  Calls Tryz.prog 218 #[.string (bs l),.int .i64 at_] w fun e w'=>e=.returned (gq (Cd.span l at_))∧Below w.heap.size w w':=by
 by_cases h0:at_<0
 ·rw [Cd.jW (l5 (.inl h0))]
  exact pK l at_ hs (.inl (by unfold wu;rw [if_pos h0])) w
 ·obtain ⟨k,rfl⟩:∃ k:Nat,at_=(k:Int):=⟨at_.toNat,by omega⟩
  by_cases h1:l.length≤k
  ·rw [Cd.jW (l5 (.inr (.inl (by omega))))]
   exact pK l k hs (.inl (by rw [kL,Fn.jF (by omega)])) w
  ·have hl:k<l.length:=by omega
   by_cases h2:l[k]=96
   ·by_cases h3:0<k∧l[k-1]=96
    ·rw [Cd.jW (l5 (.inr (.inr (.inr ⟨by omega,by simpa using (show k-1<l.length by omega),by simpa using h3.2⟩))))]
     refine pK l k hs (.inr ⟨wu 96 l k,rfl,?_,Vx _ _ _,by omega,by simpa using (show k-1<l.length by omega),fQ (n:=96) (by omega) (by simpa using h3.2)⟩) w;rw [kL,Fn.jS hl h2];omega
    ·refine Rn l k hl hs h2 ?_ w
     rcases Nat.eq_zero_or_pos k with hk | hk
     ·exact .inl hk
     ·exact .inr ⟨by omega,fun h=>h3 ⟨hk,h⟩⟩
   ·rw [Cd.jW (l5 (.inr (.inr (.inl ⟨by simpa using hl,by simpa using h2⟩))))]
    exact pK l k hs (.inl (by rw [kL,Fn.qM hl h2])) w
end Go.Proofs.YtddkjkockbcamaaGreatDoor
