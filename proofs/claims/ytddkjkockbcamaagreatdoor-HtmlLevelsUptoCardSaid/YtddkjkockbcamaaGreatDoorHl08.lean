/- Line Split Ref -/
import Derived.Test.YtddkjkockbcamaaGreatDoorHl03
import Derived.Deep.QuietTactic
import Derived.BigQuiet
import Derived.Handy
set_option maxHeartbeats 16000000
set_option maxRecDepth 100000
namespace Go.Proofs.YtddkjkockbcamaaGreatDoor
open Go.RowKit
theorem drop_at {l:List UInt8} {k:Nat} (h:k<l.length):l.drop k=l[k]::l.drop (k+1):=List.drop_eq_getElem_cons h
theorem vL {b:UInt8} {n:Nat} (hn:n<256) (h:b=UInt8.ofNat n):((b.toNat:Int)==(n:Int))=true:=by
 subst h; simp; omega
theorem kW {b:UInt8} {n:Nat} (hn:n<256) (h:b≠UInt8.ofNat n):((b.toNat:Int)==(n:Int))=false:=by
 rw [beq_eq_false_iff_ne]; intro he; apply h;have:b.toNat=n:=by omega
 subst this; simp
theorem zT {l:List UInt8} {w:World} {B:Nat} {A:Option Addr} (h:Row w B 1 A l.length (aj l)) (hn:0<l.length) :
  ∃ b o,A=some ⟨b,o,none⟩∧b<B∧∀ k,(hk:k<l.length)→w.cell? ⟨b,o+k,none⟩=some (.int .u8 (l[k].toNat:Int)):=by
 obtain ⟨b,o,e,hb,hc⟩:=h.Yo hn;exact ⟨b,o,e,hb,fun k hk=>by rw [hc k hk]; simp [aj,bv]⟩
theorem rm (l:List UInt8) (A:Option Addr) (c:Nat) (w:World) :
  Calls Tryz.prog 115 #[.slice A l.length c,.int .i64 l.length] w fun e w'=>e=.returned (.int .i64 0)∧w=w':=by
 go_enter Tryz.func115,Tryz.ntmps115;go_wp2;go_ret;exact ⟨rfl,rfl⟩
theorem Bw (l:List UInt8) (A:Option Addr) (c k:Nat) (w:World) (B:Nat) (h:Row w B 1 A l.length (aj l)) (hk:k<l.length) (hl:l.length≤1000000000000) :
  Calls Tryz.prog 115 #[.slice A l.length c,.int .i64 k] w fun e w'=>e=.returned (.int .i64 (Ln.dN (l.drop k):Nat))∧w=w':=by
 obtain ⟨b,o,rfl,hb,hc⟩:=zT h (by omega);have h0:=hc k hk;have hne:((k:Int)==(l.length:Int))=false:=by rw [beq_eq_false_iff_ne]; omega
 by_cases LN:l[k]=13
 ·have t13:((l[k].toNat:Int)==(13:Int))=true:=vL (n:=13) (by omega) LN
  by_cases hlt:k+1<l.length
  ·have h1:=hc (k+1) hlt
   by_cases h10:l[k+1]=10
   ·have t10:((l[k+1].toNat:Int)==(10:Int))=true:=vL (n:=10) (by omega) h10
    have aL:=Lib.hid (show Ln.dN (l.drop k)=2 from by rw [drop_at hk,drop_at hlt,LN,h10]; rfl);clear hc h LN h10;go_enter Tryz.func115,Tryz.ntmps115;go_wp2;go_ret;exact ⟨by rw [aL.out]; rfl,rfl⟩
   ·have t10:((l[k+1].toNat:Int)==(10:Int))=false:=kW (n:=10) (by omega) h10
    have aL:=Lib.hid (show Ln.dN (l.drop k)=1 from by rw [drop_at hk,drop_at hlt,LN]; exact Ln.Ki _ h10);clear hc h LN h10;go_enter Tryz.func115,Tryz.ntmps115;go_wp2;go_ret;exact ⟨by rw [aL.out]; rfl,rfl⟩
  ·have aL:=Lib.hid (show Ln.dN (l.drop k)=1 from by rw [drop_at hk,List.drop_of_length_le (by omega),LN]; rfl)
   clear hc h LN;go_enter Tryz.func115,Tryz.ntmps115;go_wp2;go_ret;exact ⟨by rw [aL.out]; rfl,rfl⟩
 ·have t13:((l[k].toNat:Int)==(13:Int))=false:=kW (n:=13) (by omega) LN
  have aL:=Lib.hid (show Ln.dN (l.drop k)=1 from by rw [drop_at hk]; exact Ln.Dx _ LN);clear hc h LN;go_enter Tryz.func115,Tryz.ntmps115;go_wp2;go_ret;exact ⟨by rw [aL.out]; rfl,rfl⟩
theorem xP (l:List UInt8) (A:Option Addr) (c k:Nat) (w:World) (B:Nat) (h:Row w B 1 A l.length (aj l)) (hk:k≤l.length) (hl:l.length≤1000000000000) :
  Calls Tryz.prog 115 #[.slice A l.length c,.int .i64 k] w fun e w'=>e=.returned (.int .i64 (Ln.dN (l.drop k):Nat))∧w=w':=by
 rcases Nat.lt_or_eq_of_le hk with h1 | rfl
 ·exact Bw l A c k w B h h1 hl
 ·rw [List.drop_length]; exact rm l A c w
theorem Ls {x:UInt8} (h:Ln.oK x=true):((x.toNat:Int) != (10:Int))=false∨((x.toNat:Int) != (10:Int))=true∧((x.toNat:Int) != (13:Int))=false:=by
 simp only [Ln.oK,Bool.or_eq_true,beq_iff_eq] at h;rcases h with rfl | rfl
 ·exact .inl rfl
 ·exact .inr ⟨rfl,rfl⟩
theorem Cz {x:UInt8} (h:¬ Ln.oK x=true):((x.toNat:Int) != (10:Int))=true∧((x.toNat:Int) != (13:Int))=true:=by
 simp only [Ln.oK,Bool.or_eq_true,beq_iff_eq,not_or] at h;have h1:=kW (n:=10) (by omega) h.1;have h2:=kW (n:=13) (by omega) h.2;exact ⟨by simpa using h1,by simpa using h2⟩
theorem Uc {l:List UInt8} {k j:Nat} (h:Ln.nI l k=j):Ending.returned (.agg #[.int .i64 k,.int .i64 j,.int .i64 ((j:Int)+(Ln.dN (l.drop j):Nat))])=.returned (.agg #[.int .i64 k,.int .i64 (Ln.nI l k:Nat),.int .i64 (Ln.xS l k:Nat)]):=by
 unfold Ln.xS; rw [h]; simp
theorem FM {l:List UInt8} {k:Nat} (h:Ln.nI l k=l.length):Ending.returned (.agg #[.int .i64 k,.int .i64 l.length,.int .i64 l.length])=.returned (.agg #[.int .i64 k,.int .i64 (Ln.nI l k:Nat),.int .i64 (Ln.xS l k:Nat)]):=by
 unfold Ln.xS; rw [h]; simp [Ln.dN]
theorem Bp (l:List UInt8) (A:Option Addr) (c k:Nat) (w:World) (h:Row w w.heap.size 1 A l.length (aj l)) (hk:k≤l.length) (hl:l.length≤1000000000000) :
  Calls Tryz.prog 77 #[.slice A l.length c,.int .i64 k] w fun e w' =>
   e=.returned (.agg #[.int .i64 k,.int .i64 (Ln.nI l k:Nat),.int .i64 (Ln.xS l k:Nat)])∧Below w.heap.size w w':=by
 have hL0:=h.alloc (Nat.le_refl _) (.cells #[.int .i64 0,.int .i64 0,.int .i64 0] 131);have hL:=Lib.hid hL0;clear hL0;go_enter Tryz.func77,Tryz.ntmps77;go_wp2_with fail
 go_loop [5] (fun v=>∃ j:Nat,k≤j∧j≤l.length∧v=.int .i64 j∧Hid (Ln.nI l j=Ln.nI l k)) (fun v=>l.length - (intOf v).toNat)
 case atStart=>exact ⟨k,Nat.le_refl _,hk,rfl,Lib.hid rfl⟩
 case round =>
  obtain ⟨j,hkj,hj,rfl,Wm⟩:=hrel;have hjn:j+Ln.dN (l.drop j)≤l.length:=by have:=Ln.zu (l.drop j); rw [List.length_drop] at this; omega
  rcases Nat.lt_or_eq_of_le hj with hlt | rfl
  ·obtain ⟨b,o,rfl,hb,hc⟩:=zT h (by omega)
   have h0:=hc j hlt
   by_cases Jl:Ln.oK l[j]=true
   ·have Qt:=Lib.hid (show Ln.nI l k=j from by rw [← Wm.out]; exact Ln.RR hlt Jl)
    have h1:=Ls Jl;clear hc Jl h;rcases h1 with h10 | ⟨h10,LN⟩
    all_goals
     go_wp2_with fail;refine (xP l _ c j _ w.heap.size hL.out (by omega) hl).mono ?_;rintro e w' ⟨rfl,rfl⟩;go_wp2;go_returns;exact ⟨Uc Qt.out,by go_grown⟩
   ·have Qt:=Lib.hid (show Ln.nI l (j+1)=Ln.nI l k from by rw [← Wm.out]; exact Ln.P4 hlt (by simpa using Jl))
    obtain ⟨h10,LN⟩:=Cz Jl;clear hc Jl h;go_wp2
    go_round
    case rel=>exact ⟨j+1,by omega,by omega,by go_num,Qt⟩
    case measure=>simp [intOf]; omega
  ·have Qt:=Lib.hid (show Ln.nI l k=l.length from by rw [← Wm.out]; exact Ln.UI l)
   clear h;go_wp2_with fail;refine (rm l _ c _).mono ?_;rintro e w' ⟨rfl,rfl⟩;go_wp2;go_returns;exact ⟨FM Qt.out,by go_grown⟩
end Go.Proofs.YtddkjkockbcamaaGreatDoor

set_option maxHeartbeats 16000000
set_option maxRecDepth 100000
namespace Go.Proofs.YtddkjkockbcamaaGreatDoor
open Go.RowKit
theorem T9 (w:World):(sizeOf (Tryz.prog.elem 27)).run Tryz.prog w=.ok 1 w:=by kernel_rfl
theorem Uf:Tryz.prog.underlying 27=some (.slice (Tryz.prog.elem 27)):=by kernel_rfl
theorem Ms:EI Tryz.prog 39 9 1 16:=EI.mk' (z:=.string ⟨#[]⟩) Tryz.underlying39 (by kernel_rfl) rfl (by omega)
theorem O6:EI Tryz.prog 27 5 1 1:=EI.mk' (z:=.int .u8 0) Tryz.underlying27 (by kernel_rfl) rfl (by omega)
theorem TA:(Tryz.prog.info? 5).map (fun i=>i.zero)=some (some (.int .u8 0)):=by kernel_rfl
theorem Ju (l:List UInt8) (A:Option Addr) (c:Nat) (w:World) (h:Row w w.heap.size 1 A l.length (aj l)) (hlc:l.length≤c) (hl:l.length≤1000000000000) :
  Calls Tryz.prog 50 #[.slice A l.length c] w fun e w' =>
   ∃ v,e=.returned v∧w'.ownsRow w.heap.size 9 1 v (Ln.texts l 0).length (bp (Ln.texts l 0))∧Below w.heap.size w w':=by
 have hR:=Lib.hid h;clear h;go_enter Tryz.func50,Tryz.ntmps50;go_wp2_with fail
 go_loopw [3,4] (fun v i wr=>∃ (k:Nat) (d:List (List UInt8)),k≤l.length∧i=.int .i64 k∧Hid (d++Ln.texts l k=Ln.texts l 0)∧d.length≤k∧wr.ownsRow w.heap.size 9 1 v d.length (bp d)∧Below w.heap.size w wr)
  (fun _ i _=>l.length - (intOf i).toNat)
 case atStart=>exact ⟨0,[],Nat.zero_le _,rfl,Lib.hid rfl,Nat.zero_le _,World.ownsRow_nil _ _ _ _,Below.refl _ _⟩
 case round =>
  obtain ⟨k,d,hk,rfl,hd,hdl,hown,hb⟩:=hrel;rcases Nat.lt_or_eq_of_le hk with hlt | rfl
  ·have hRr:=Lib.hid ((hR.out.below hb).more hb.size)
   have he1:=Ln.MJ l k;have TG:=Ln.Nv hk;have oH:=IN Uf 1 T9 A l.length c _ _ he1 (Nat.le_trans TG hlc);go_wp2_with fail;refine (Bp l _ c k _ hRr.out hk hl).mono ?_;rintro e w1 ⟨rfl,hb1⟩;have hown1:=bO hown hb1;have hz:=hb.size;have hz1:=hb1.size;have hcv:=j9 (c:=c - k) ((((hRr.out.below hb1).more hb1.size).alloc (Nat.le_refl _) (.cells #[.int .i64 k,.int .i64 (Ln.nI l k),.int .i64 (Ln.xS l k)] 131)).sub he1 TG hlc) 27 5 9 Tryz.underlying27 Tryz.underlying5 Tryz.underlying9;go_wp2_with (at_builtin; refine mS rfl (.tmp 13) (.tmp 21) rfl Ms rfl (hown1.alloc _) rfl ?hg rfl ?hone ?hn ?hby ?hba ?_)
   case hg=>simp
   case hone=>rfl
   case hn=>omega
   case hby=>omega
   case hba=>simp; omega
   intro v2 w2 hown2 X4 hb2;have hcell:w2.cell? ⟨w1.heap.size,2,none⟩=some (.int .i64 (Ln.xS l k:Nat)):=(G5 X4.out (by simp) (UE hown1 (Nat.le_refl _))).trans (World.cell?_alloc_at _ _ _ _ rfl);have uc:=Ln.BU hlt;have hn2:=Ln.L8 hk;have yW:=Lib.hid (show (d++[mid l k (Ln.nI l k)])++Ln.texts l (Ln.xS l k)=Ln.texts l 0 from by rw [← hd.out,Ln.FI hlt]; simp);have hbz:Below w.heap.size w w2:=(hb.trans ((hb1.mono hz).trans ((Below.refl _ _).alloc (by omega) _))).trans hb2;clear hb hb1 hb2 X4 hown hown1 hcv oH;go_wp2
   go_roundw
   case rel=>exact ⟨Ln.xS l k,d++[mid l k (Ln.nI l k)],hn2,rfl,yW,by simp; omega,by simpa [bp] using hown2,hbz⟩
   case measure=>simp [intOf]; omega
  ·have aL:d=Ln.texts l 0:=by rw [← hd.out,Ln.J0 (by omega)]; simp
   subst aL;go_wp2;go_returns;exact ⟨_,rfl,hown,hb⟩
theorem ld {ls:List (List UInt8)} {w:World} {B:Nat} {A:Option Addr} (h:Row w B 1 A ls.length (bp ls)) (hn:0<ls.length) :
  ∃ b o,A=some ⟨b,o,none⟩∧b<B∧∀ k,(hk:k<ls.length)→w.cell? ⟨b,o+k,none⟩=some (.string (bs ls[k])):=by
 obtain ⟨b,o,e,hb,hc⟩:=h.Yo hn;exact ⟨b,o,e,hb,fun k hk=>by rw [hc k hk]; simp [bp]⟩
theorem LZ (ls:List (List UInt8)) (en:List UInt8) (A:Option Addr) (c:Nat) (w:World) (h:Row w w.heap.size 1 A ls.length (bp ls)) (hls:ls.length≤1000000000000) (hl:(Ln.join ls en).length≤1000000000000) :
  Calls Tryz.prog 128 #[.slice A ls.length c,.string (bs en)] w fun e w' =>
   ∃ v,e=.returned v∧w'.ownsRow w.heap.size 5 1 v (Ln.join ls en).length (aj (Ln.join ls en))∧Below w.heap.size w w':=by
 have hR:=Lib.hid h;clear h;go_enter Tryz.func128,Tryz.ntmps128;go_wp2_with fail
 go_loopw [5,10] (fun v i wr=>∃ (k:Nat),k≤ls.length∧i=.int .i64 k∧wr.ownsRow w.heap.size 5 1 v (Ln.join (ls.take k) en).length (aj (Ln.join (ls.take k) en))∧Below w.heap.size w wr)
  (fun _ i _=>ls.length - (intOf i).toNat)
 case atStart=>exact ⟨0,Nat.zero_le _,rfl,World.ownsRow_nil _ _ _ _,Below.refl _ _⟩
 case round =>
  obtain ⟨k,hk,rfl,hown,hb⟩:=hrel;rcases Nat.lt_or_eq_of_le hk with hlt | rfl
  ·obtain ⟨b,o,rfl,jD,hc⟩:=ld hR.out (by omega)
   have h0:wr.cell? ⟨b,o+k,none⟩=some (.string (bs ls[k])):=(hb.cell jD).trans (hc k hlt);have hz:=hb.size;have hj:=Lib.hid (Ln.KJ en hlt);have hjl:=Ln.AG ls (k+1) en;have TZ:(Ln.join (ls.take k) en).length+ls[k].length+en.length≤1000000000000:=by
    have:=congrArg List.length hj.out; simp at this; omega
   clear hc;go_wp2_with (first | (at_builtin; refine iH rfl (.tmp 14) (.tmp 15) rfl O6 TA Tryz.underlying9 rfl hown rfl (by omega) hz ?_; intro v1 w1 hown1 hg1 hb1; have hz1:=hb1.size) | (at_builtin; refine iH rfl (.tmp 17) (.tmp 18) rfl O6 TA Tryz.underlying9 rfl hown1 rfl (by omega) (Nat.le_trans hz hz1) ?_; intro v2 w2 hown2 hg2 hb2));have fD:w2.ownsRow w.heap.size 5 1 v2 (Ln.join (ls.take (k+1)) en).length (aj (Ln.join (ls.take (k+1)) en)):=by
    rw [hj.out]; simpa [Nat.add_assoc] using hown2
   have hbz:=(hb.trans hb1).trans hb2;clear hown hown1 hown2 hb hb1 hb2
   go_roundw
   case rel=>exact ⟨k+1,by omega,by go_num,fD,hbz⟩
   case measure=>simp [intOf]; omega
  ·rw [List.take_length] at hown
   go_wp2;go_returns;exact ⟨_,rfl,hown,hb⟩
end Go.Proofs.YtddkjkockbcamaaGreatDoor

set_option maxHeartbeats 16000000
set_option maxRecDepth 100000
namespace Go.Proofs.YtddkjkockbcamaaGreatDoor
open Go.RowKit
end Go.Proofs.YtddkjkockbcamaaGreatDoor
