import Derived.Test.YtlnbmmgbfgmboaaDoorQ17
import Derived.Test.YtlnbmmgbfgmboaaDoorQ18
import Derived.Test.YtlnbmmgbfgmboaaDoorSm2G
import Derived.Test.YtlnbmmgbfgmboaaDoorQ22
import Derived.Test.YtlnbmmgbfgmboaaDoorQ3
import Derived.Deep.RegionHeld3
namespace Go.Proofs.YtlnbmmgbfgmboaaDoor
open Go.RowKit
theorem zf8 {p:Pg} {s:List UInt8} (h:zaQ p=s) (hx:(Tk.lex s).2.2=0):fmtT p=s:=by
 unfold fmtT
 rw[h,if_pos hx]
set_option maxRecDepth 100000 in
set_option maxHeartbeats 4000000 in
theorem zf2 (xs:List Int) (hC:ProgC xs) (A:Option Addr) (cap:Nat) (w:World) (hR:IntR w A xs) (hc:xs.length≤cap) (hm:xs.length≤9223372036854775807) (hS:SgT w) :
  Calls Tryd.prog 3 #[.slice A xs.length cap] w fun e w'=>e=.returned (.bool true)∧Below w.heap.size w w':=by
 have HS:=Lib.hid hS
 have HC:=Lib.hid (hC A cap w hR hc hm)
 clear hC hR hc hm hS
 go_enter Tryd.func3,Tryd.ntmps3
 go_wp2_with fail
 refine HC.out.mono ?_
 rintro e w1 ⟨P,AG,AM,AF,cG,cM,cF,H,rfl,hP,hM,hb⟩
 have hmd:=hP.md
 obtain⟨p1,p2,p3,p4⟩:=Rt.made_parts hP
 have HFf:Hid (∀W,Below w1.heap.size w1 W→Calls Tryd.prog 6 #[.agg #[.slice none 0 0,.slice none 0 0,.slice AF P.fs.length cF]] W fun e w'=>e=.returned (.string ⟨(catT zb6 P.fs).toArray⟩)∧Below W.heap.size W w'):=fun W hb=>by
  have h1:=zbO ⟨[],[],P.fs⟩ ⟨by simp,by simp,hmd.fl,fun i hi=>absurd hi (by simp),fun i hi=>absurd hi (by simp),hmd.f⟩ none none AF 0 0 cF H W (PgM.later ⟨fun i hi=>absurd hi (by simp),fun i hi=>absurd hi (by simp),hM.f,hM.ps,hM.bd⟩ hb)
  rw[zf8 (p:=⟨[],[],P.fs⟩) (s:=catT zb6 P.fs) (by simp[zaQ,catT]) p1] at h1
  exact h1
 have HFm:Hid (∀W,Below w1.heap.size w1 W→Calls Tryd.prog 6 #[.agg #[.slice none 0 0,.slice AM P.ms.length cM,.slice none 0 0]] W fun e w'=>e=.returned (.string ⟨(catT zaR P.ms).toArray⟩)∧Below W.heap.size W w'):=fun W hb=>by
  have h1:=zbO ⟨[],P.ms,[]⟩ ⟨by simp,hmd.ml,by simp,fun i hi=>absurd hi (by simp),hmd.m,fun i hi=>absurd hi (by simp)⟩ none AM none 0 cM 0 H W (PgM.later ⟨fun i hi=>absurd hi (by simp),hM.m,fun i hi=>absurd hi (by simp),fun i hi=>absurd hi (by simp),fun i hi=>absurd hi (by simp)⟩ hb)
  rw[zf8 (p:=⟨[],P.ms,[]⟩) (s:=catT zaR P.ms) (by simp[zaQ,catT]) p2] at h1
  exact h1
 have HFg:Hid (∀W,Below w1.heap.size w1 W→Calls Tryd.prog 6 #[.agg #[.slice AG P.gs.length cG,.slice none 0 0,.slice none 0 0]] W fun e w'=>e=.returned (.string ⟨(catT zaN P.gs).toArray⟩)∧Below W.heap.size W w'):=fun W hb=>by
  have h1:=zbO ⟨P.gs,[],[]⟩ ⟨hmd.gl,by simp,by simp,hmd.g,fun i hi=>absurd hi (by simp),fun i hi=>absurd hi (by simp)⟩ AG none none cG 0 0 H W (PgM.later ⟨hM.g,fun i hi=>absurd hi (by simp),fun i hi=>absurd hi (by simp),fun i hi=>absurd hi (by simp),fun i hi=>absurd hi (by simp)⟩ hb)
  rw[zf8 (p:=⟨P.gs,[],[]⟩) (s:=catT zaN P.gs) (by simp[zaQ,catT]) p3] at h1
  exact h1
 have HV:=Lib.hid (Rt.made_order hP)
 have HPB:Hid (PgB P):=by
  have:=ziC (zaQ P) (by have:=hmd.text;omega)
  rw[(Rt.made_round hP).1] at this
  exact this
 have HB1:=Lib.hid (hb.alloc hb.size (.cells #[.slice AG P.gs.length cG,.slice AM P.ms.length cM,.slice AF P.fs.length cF] 27))
 have HM:=Lib.hid (hM.later ((Below.refl _ _).alloc (Nat.le_refl _) (.cells #[.slice AG P.gs.length cG,.slice AM P.ms.length cM,.slice AF P.fs.length cF] 27)))
 have HX:=Lib.hid (heap_alloc_new w1 (.cells #[.slice AG P.gs.length cG,.slice AM P.ms.length cM,.slice AF P.fs.length cF] 27))
 have hz:Below w1.heap.size w1 (w1.alloc (.cells #[.slice AG P.gs.length cG,.slice AM P.ms.length cM,.slice AF P.fs.length cF] 27)):=(Below.refl _ _).alloc (Nat.le_refl _) _
 clear hmd hP hM hb HC p1 p2 p3
 generalize catT zb6 P.fs=tF at *
 generalize catT zaR P.ms=tM at *
 generalize catT zaN P.gs=tG at *
 have s1:=fun W=>zao tF tM (by omega) W
 have s2:=fun W=>zao (tF++tM) tG (by simp;omega) W
 go_wp2_with fail
 obtain⟨X,hX⟩:∃X,X=w1.heap.size:=⟨_,rfl⟩
 rw[←hX] at HX ⊢
 have HXX:=Lib.hid hX
 clear hX
 obtain⟨x0,x1,x2,-,-⟩:=blk3 HX.out
 generalize w1.alloc (.cells #[.slice AG P.gs.length cG,.slice AM P.ms.length cM,.slice AF P.fs.length cF] 27)=W1 at *
 have HZ:=Lib.hid hz
 have hbz:Below W1.heap.size W1 W1:=Below.refl _ _
 clear hz
 go_region_held3 (fun w'=>w'.cell? ⟨X,0,none⟩=some (.slice AG P.gs.length cG)∧w'.cell? ⟨X,1,none⟩=some (.slice AM P.ms.length cM)∧w'.cell? ⟨X,2,none⟩=some (.slice AF P.fs.length cF)∧Below W1.heap.size W1 w')
  (refine⟨?_,?_,?_,?_⟩<;>first|assumption|(simp[*];done)|(refine Below.drew ?_;assumption))
  (first
   | (go_at_call 6;obtain⟨k0,k1,k2,hbw⟩:=‹_∧_∧_∧Below W1.heap.size W1 _›;refine(HFf.out _ (HZ.out.trans (hbw.mono HZ.out.size))).mono ?_;rintro e wf ⟨rfl,hb⟩;have r0:=cell_later hb k0;have r1:=cell_later hb k1;have r2:=cell_later hb k2;have rb:=za1 hbw hb;clear k0 k1 k2 hbw hb)
   | (go_at_call 6;obtain⟨k0,k1,k2,hbw⟩:=‹_∧_∧_∧Below W1.heap.size W1 _›;refine(HFm.out _ (HZ.out.trans (hbw.mono HZ.out.size))).mono ?_;rintro e wm ⟨rfl,hb⟩;have r0:=cell_later hb k0;have r1:=cell_later hb k1;have r2:=cell_later hb k2;have rb:=za1 hbw hb;clear k0 k1 k2 hbw hb)
   | (go_at_call 6;obtain⟨k0,k1,k2,hbw⟩:=‹_∧_∧_∧Below W1.heap.size W1 _›;refine(HFg.out _ (HZ.out.trans (hbw.mono HZ.out.size))).mono ?_;rintro e wg ⟨rfl,hb⟩;have r0:=cell_later hb k0;have r1:=cell_later hb k1;have r2:=cell_later hb k2;have rb:=za1 hbw hb;clear k0 k1 k2 hbw hb))
 clear s1 s2 r0 r1 r2
 have HB2:=Lib.hid (za1 HB1.out rb)
 have HM2:=Lib.hid (HM.out.later rb)
 have HX2:=Lib.hid ((rb.block X (lt_of_block HX.out)).trans HX.out)
 clear rb HM HX HB1 HFf HFm HFg HZ x0 x1 x2
 obtain⟨S,hSe⟩:∃S,S=tF++(tM++tG):=⟨_,rfl⟩
 have hSl:S.length≤101000:=by rw[hSe];simp;omega
 rw[←hSe] at HV ⊢
 clear hSe
 obtain⟨c5,W6,hcv5,hB6,hc5,hb7⟩:=zcp S wg
 have HB7:=Lib.hid (za1 HB2.out hb7)
 have HP2:=Lib.hid (zdv P S (some ⟨wg.heap.size,0,none⟩) c5 W6 HV.out hB6 (by omega) hc5 (HS.out.later HB7.out))
 have HM7:=Lib.hid (HM2.out.later hb7)
 have HX7:=Lib.hid ((hb7.block X (lt_of_block HX2.out)).trans HX2.out)
 clear hB6 hc5 hb7 HM2 HX2
 go_wp2_with fail
 refine HP2.out.mono ?_
 rintro e w7 ⟨AG2,AM2,AF2,cG2,cM2,cF2,H2,rfl,hM2,hb8⟩
 have HB8:=Lib.hid (za1 HB7.out hb8)
 have HM8:=Lib.hid (HM7.out.later hb8)
 have hx:=(hb8.block X (lt_of_block HX7.out)).trans HX7.out
 have hxl:=lt_of_block hx
 obtain⟨x0,x1,x2,-,-⟩:=blk3 hx
 have HM9:=Lib.hid hM2
 clear hM2 hb8 hx hcv5 HM7 HX7 HP2
 have HSM:=Lib.hid (fun W (h1:PgM W P AG AM AF H) (h2:PgM W P AG2 AM2 AF2 H2)=>zfy P HPB.out AG AM AF AG2 AM2 AF2 cG cM cF cG2 cM2 cF2 H H2 W h1 h2)
 go_wp2_with fail
 refine(HSM.out _ (HM8.out.later ((Below.refl _ _).alloc (Nat.le_refl _) _)) (HM9.out.later ((Below.refl _ _).alloc (Nat.le_refl _) _))).mono ?_
 rintro e w8 ⟨rfl,hb9⟩
 have HB9:=Lib.hid (za1 (HB8.out.alloc HB8.out.size _) hb9)
 clear hb9
 go_wp2_with fail
 refine(zeR _ (HS.out.later HB9.out)).mono ?_
 rintro e w9 ⟨rfl,hb10⟩
 have HB10:=Lib.hid (za1 HB9.out hb10)
 clear hb10
 go_wp2_with fail
 go_ret
 exact⟨rfl,HB10.out⟩
end Go.Proofs.YtlnbmmgbfgmboaaDoor

namespace Go.Proofs.YtlnbmmgbfgmboaaDoor
open Go.RowKit
theorem zee (xs:List Int) (A:Option Addr) (cap:Nat) (w:World) (hR:IntR w A xs) (hc:xs.length≤cap) (hm:xs.length≤9223372036854775807) (hS:SgT w) :
  Calls Tryd.prog 3 #[.slice A xs.length cap] w fun e w'=>e=.returned (.bool true)∧Below w.heap.size w w':=zf2 xs (zdE xs) A cap w hR hc hm hS
end Go.Proofs.YtlnbmmgbfgmboaaDoor
