import Derived.Test.YtlnbmmgbfgmboaaGreatDoorQa
import Derived.Test.YtlnbmmgbfgmboaaGreatDoorQ3
import Derived.Test.YtlnbmmgbfgmboaaGreatDoorRefLinesG
import Derived.Test.YtlnbmmgbfgmboaaGreatDoorQ8
import Derived.Test.YtlnbmmgbfgmboaaGreatDoorQ1
namespace Go.Proofs.YtlnbmmgbfgmboaaGreatDoor
open Go.RowKit
def zbr (g:Gl):List UInt8:=[118,97,114,32]++(g.name++((if g.init=0 then [] else [32,61,32]++zbG g.init)++[59,10]))
def zbC (m:Mx):List UInt8:=(if m.re then [114] else [])++([109,117,116,101,120,32]++(m.name++((if m.size=0 then [] else [91]++(zbG (m.size:Int)++[93]))++[59,10])))
def zeF (p:Pm):List UInt8:=(if p.m then [109,117,116,101,120,32] else [])++p.name
def zcg (l:List Pm):Nat→List UInt8
 | 0=>[]
 | k+1=>zcg l k++((if 0<k then [44,32] else [])++(l[k]?.map zeF).getD [])
theorem ze9 (l:List Pm) (k:Nat) (h:k<l.length):zcg l (k+1)=zcg l k++((if 0<k then [44,32] else [])++zeF l[k]):=by
 rw[zcg,List.getElem?_eq_getElem h];rfl
theorem zgq (l:List Pm) (k n:Nat) (h:k≤n):(zcg l k).length≤(zcg l n).length:=by
 induction n with
 | zero =>
  have:k=0:=by omega
  subst this;exact lR _
 | succ n ih =>
  by_cases hk:k=n+1
  ·
   subst hk;exact lR _
  ·
   have:=ih (by omega);rw[zcg,List.length_append];omega
def ziM (f:Fn):List UInt8:=[102,117,110,99,32]++(f.name++([40]++zcg f.ps f.ps.length))
def zcL (f:Fn):List UInt8:=ziM f++([41,32,123,10]++(zab f.body [9]++[125,10]))
def catT {α:Type} (F:α→List UInt8):List α→List UInt8
 | []=>[]
 | a::r=>F a++catT F r
theorem zha {α:Type} (F:α→List UInt8) (a b:List α):catT F (a++b)=catT F a++catT F b:=by
 induction a with
 | nil=>rfl
 | cons x r ih=>rw[List.cons_append,catT,catT,ih,List.append_assoc]
theorem zek {α:Type} (F:α→List UInt8) (l:List α) (m:Nat) (h:m<l.length):catT F (l.take (m+1))=catT F (l.take m)++F l[m]:=by
 rw[←List.take_append_getElem h,zha,catT,catT,List.append_nil]
theorem zel {α:Type} (F:α→List UInt8) (l:List α) (k:Nat):(catT F (l.take k)).length≤(catT F l).length:=by
 have h:=List.take_append_drop k l
 have:catT F l=catT F (l.take k)++catT F (l.drop k):=by rw[←zha,h]
 rw[this,List.length_append];omega
theorem zfk {α:Type} (F:α→List UInt8) (K:Nat) (l:List α) (h:∀a∈l,(F a).length≤K):(catT F l).length≤l.length*K:=by
 induction l with
 | nil=>simp[catT]
 | cons x r ih =>
  have h1:=h x (by simp);have h2:=ih fun a ha=>h a (by simp[ha]);rw[catT,List.length_append,List.length_cons,Nat.add_mul];omega
def zch (p:Pg):List UInt8:=catT zbr p.gs++(catT zbC p.ms++catT zcL p.fs)
structure PgT (p:Pg):Prop where
 gl:p.gs.length≤1000000
 ml:p.ms.length≤1000000
 fl:p.fs.length≤1000000
 g:∀i (h:i<p.gs.length),-9223372036854775808≤p.gs[i].init∧p.gs[i].init≤9223372036854775807
 m:∀i (h:i<p.ms.length),p.ms[i].size≤9223372036854775807
 f:∀i (h:i<p.fs.length),p.fs[i].ps.length≤1000000∧∀j (h':j<p.fs[i].body.length),StOk p.fs[i].body[j]
 t:(zch p).length≤1000000000
theorem gl_len {g:Gl} (h:zax g.name=true):(zbr g).length≤60:=by
 have:=(zaP h).2
 have:=zdc g.init;unfold zbr;split<;>simp<;>omega
theorem mx_len {m:Mx} (h:zax m.name=true):(zbC m).length≤60:=by
 have:=(zaP h).2
 have:=zdc (m.size:Int);unfold zbC;split<;>split<;>simp<;>omega
theorem pm_len {p:Pm} (h:zax p.name=true):(zeF p).length≤22:=by
 have:=(zaP h).2;unfold zeF;split<;>simp<;>omega
theorem pms_len (l:List Pm) (h:∀j (h:j<l.length),zax l[j].name=true) (k:Nat) (hk:k≤l.length):(zcg l k).length≤k*24:=by
 induction k with
 | zero=>simp[zcg]
 | succ k ih =>
  have h1:=ih (by omega);have h2:=pm_len (h k (by omega));rw[ze9 l k (by omega),List.length_append,List.length_append];split<;>simp<;>omega
theorem fn_len {f:Fn} (hn:zax f.name=true) (hl:f.ps.length≤2) (hp:∀j (h:j<f.ps.length),zax f.ps[j].name=true) (hb:∀j (h:j<f.body.length),MdS 2 f.body[j]) (hs:stNs f.body≤48):(zcL f).length≤25000:=by
 have h0:=(zaP hn).2;have h1:=pms_len f.ps hp f.ps.length (lR _);have h2:=zdd f.body [9] _ (fun i hi=>st_bound (hb i hi) [9]);have h3:(zab f.body [9]).length≤48*509:=Nat.le_trans h2 (Nat.mul_le_mul hs (by simp));have h4:f.ps.length*24≤48:=by omega
 unfold zcL ziM;simp;omega
theorem MdP.text {P:Pg} (h:MdP P):(zch P).length≤101000:=by
 have h1:=zfk zbr 60 P.gs fun a ha=>by
  obtain⟨i,hi,rfl⟩:=List.mem_iff_getElem.1 ha;exact gl_len (h.g i hi).1
 have h2:=zfk zbC 60 P.ms fun a ha=>by
  obtain⟨i,hi,rfl⟩:=List.mem_iff_getElem.1 ha;exact mx_len (h.m i hi).1
 have h3:=zfk zcL 25000 P.fs fun a ha=>by
  obtain⟨i,hi,rfl⟩:=List.mem_iff_getElem.1 ha;obtain⟨a1,a2,a3,a4,a5⟩:=h.f i hi;exact fn_len a1 a2 a3 a4 a5
 have:=h.gl
 have:=h.ml
 have:=h.fl;unfold zch;rw[List.length_append,List.length_append];omega
theorem MdP.t {P:Pg} (h:MdP P):PgT P:=by
 have hx:=h.text;refine⟨by have:=h.gl;omega,by have:=h.ml;omega,by have:=h.fl;omega,fun i hi=>by have:=h.g i hi;omega,fun i hi=>by have:=h.m i hi;omega,fun i hi=>⟨by have:=(h.f i hi).2.1;omega,fun j hj=>((h.f i hi).2.2.2.1 j hj).ok⟩,by omega⟩
set_option maxRecDepth 100000 in
set_option maxHeartbeats 8000000 in
theorem zd7 (p:Pg) (hT:PgT p) (AG AM AF:Option Addr) (cG cM cF:Nat) (H:Nat→FnG) (w:World) (hM:PgM w p AG AM AF H) :
  Calls Tryz.prog 30 #[.agg #[.slice AG p.gs.length cG,.slice AM p.ms.length cM,.slice AF p.fs.length cF]] w fun e w'=>e=.returned (.string ⟨(zch p).toArray⟩)∧Below w.heap.size w w':=by
 obtain⟨W,hW⟩:∃W,W=w.alloc (.cells #[.slice AG p.gs.length cG,.slice AM p.ms.length cM,.slice AF p.fs.length cF] 45):=⟨_,rfl⟩;have hn1:=heap_alloc_new w (.cells #[.slice AG p.gs.length cG,.slice AM p.ms.length cM,.slice AF p.fs.length cF] 45);rw[←hW] at hn1;have HX:=zH hn1;have HBW:Hid (Below w.heap.size w W):=by rw[hW];exact(Below.refl _ _).alloc (lR _) _
 have HM:=zH (hM.later HBW.out);have hg:=hT.gl;have hm:=hT.ml;have hf:=hT.fl;have HT:=zH hT;have HW:=zH hW;have htt:=hT.t;unfold zch at htt;rw[List.length_append,List.length_append] at htt;have HL1:Hid (∀k,(catT zbr (p.gs.take k)).length≤1000000000):=fun k=>by have h1:=zel zbr p.gs k;omega
 have HL2:Hid (∀k,(catT zbr p.gs++catT zbC (p.ms.take k)).length≤1000000000):=fun k=>by have h1:=zel zbC p.ms k;rw[List.length_append];omega
 have HL3:Hid (∀k,(catT zbr p.gs++(catT zbC p.ms++catT zcL (p.fs.take k))).length≤1000000000):=fun k=>by have h1:=zel zcL p.fs k;rw[List.length_append,List.length_append];omega
 clear hn1 hM hT hW htt;have happ:=bapp;go_enter Tryz.func30,Tryz.ntmps30;go_wp2_with fail;rw[←HW.out];clear HW
 go_loopw [3,4] (fun v i wr=>∃(k:Nat) (t:List UInt8),k≤p.gs.length∧i=.int .i64 k∧v=.string ⟨t.toArray⟩∧Hid (t=catT zbr (p.gs.take k))∧Hid (Below W.heap.size W wr)) (fun _ i _=>p.gs.length-(intOf i).toNat)
 case atStart=>exact⟨0,[],Nat.zero_le _,rfl,rfl,rfl,Below.refl _ _⟩
 case round =>
  obtain⟨k,t,hk,rfl,rfl,ht,HBk⟩:=hrel;obtain⟨x0,-,-,-,hxl⟩:=blk3 ((HBk.out.block _ (lt_of_block HX.out)).trans HX.out);by_cases hlt:k<p.gs.length
  ·
   obtain⟨b,rfl,a0,a1⟩:=(HM.out.later HBk.out).g k hlt;have HST:=zH (zek zbr p.gs k hlt);have HIN:=zH (HT.out.g k hlt);have hlen:=HL1.out (k+1);rw[HST.out,←ht.out,zbr] at hlen;generalize p.gs[k]=gl at *;have i0:(0:Int)≤(k:Int):=by omega
   have i1:(k:Int)<(p.gs.length:Int):=by omega
   have dlt:decide ((k:Int)<(p.gs.length:Int))=true:=decide_eq_true (by omega);by_cases h0:gl.init=0
   ·
    have c0:=nF h0;have HFT:Hid (zbr gl=[118,97,114,32]++(gl.name++([]++[59,10]))):=by show _=_;rw[zbr,if_pos h0]
    rw[if_pos h0] at hlen;simp only[List.length_append,List.length_cons,List.length_nil] at hlen;clear h0;go_wp2_with fail;go_roundw
    case rel =>
     refine⟨k+1,t++([118,97,114,32]++(gl.name++[59,10])),by omega,by go_num,?_,?_,HBk⟩
     ·
      simp
     ·
      show _=_;rw[HST.out,HFT.out,ht.out];rfl
    case measure=>simp[intOf];omega
   ·
    have c0:=nT h0;have HFT:Hid (zbr gl=[118,97,114,32]++(gl.name++(([32,61,32]++zbG gl.init)++[59,10]))):=by show _=_;rw[zbr,if_neg h0]
    rw[if_neg h0] at hlen;simp only[List.length_append,List.length_cons,List.length_nil] at hlen;clear h0;go_wp2_with fail;refine(zcm gl.init _ HIN.out.1 HIN.out.2).mono ?_;rintro e w1 ⟨rfl,hb1⟩;have HB1:=zH (za3 HBk.out hb1);clear hb1;generalize zbG gl.init=T at *;go_wp2_with fail;go_roundw
    case rel =>
     refine⟨k+1,t++([118,97,114,32]++(gl.name++(([32,61,32]++T)++[59,10]))),by omega,by go_num,?_,?_,HB1⟩
     ·
      simp
     ·
      show _=_;rw[HST.out,HFT.out,ht.out]
    case measure=>simp[intOf];omega
  ·
   have dlt:decide ((k:Int)<(p.gs.length:Int))=false:=decide_eq_false (by omega);have ht0:Hid (t=catT zbr p.gs++catT zbC (p.ms.take 0)):=by show _=_;rw[ht.out,List.take_of_length_le (by omega)];simp[catT]
   go_wp2_with fail;clear x0 hxl
   go_loopw [3,5,6] (fun v i _ wr=>∃(k:Nat) (t:List UInt8),k≤p.ms.length∧i=.int .i64 k∧v=.string ⟨t.toArray⟩∧Hid (t=catT zbr p.gs++catT zbC (p.ms.take k))∧Hid (Below W.heap.size W wr)) (fun _ i _ _=>p.ms.length-(intOf i).toNat)
   case atStart=>exact⟨0,t,Nat.zero_le _,rfl,rfl,ht0,HBk⟩
   case round =>
    clear HBk hlt dlt ht ht0 hk;obtain⟨k2,t2,hk2,rfl,rfl,ht,HBk⟩:=hrel;obtain⟨-,x1,-,-,hxl⟩:=blk3 ((HBk.out.block _ (lt_of_block HX.out)).trans HX.out);by_cases hlt:k2<p.ms.length
    ·
     obtain⟨b,rfl,a0,a1,a2⟩:=(HM.out.later HBk.out).m k2 hlt;have HST:=zH (zek zbC p.ms k2 hlt);have HIN:=zH (HT.out.m k2 hlt);have hlen:=HL2.out (k2+1);rw[HST.out,←List.append_assoc,←ht.out,zbC] at hlen;generalize p.ms[k2]=mx at *;have i0:(0:Int)≤(k2:Int):=by omega
     have i1:(k2:Int)<(p.ms.length:Int):=by omega
     have dlt:decide ((k2:Int)<(p.ms.length:Int))=true:=decide_eq_true (by omega);cases hre:mx.re
     all_goals
      rw[hre] at a1 hlen;by_cases h0:mx.size=0
      ·
       have d0:¬0<mx.size:=by omega
       have HFT:Hid (zbC mx=(if mx.re then [114] else [])++([109,117,116,101,120,32]++(mx.name++([]++[59,10])))):=by show _=_;rw[zbC,if_pos h0]
       rw[hre] at HFT;rw[if_pos h0] at hlen;simp only[List.length_append,List.length_cons,List.length_nil,if_true,Bool.false_eq_true,if_false] at hlen;clear h0;go_wp2_with fail;go_roundw
       case rel =>
        refine⟨k2+1,t2++zbC mx,by omega,by go_num,?_,?_,HBk.out.alloc (Nat.le_trans (by simp) HBk.out.size) _⟩
        ·
         rw[HFT.out];simp
        ·
         show _=_;rw[HST.out,ht.out,List.append_assoc]
       case measure=>simp[intOf];omega
      ·
       have d0:0<mx.size:=by omega
       have HFT:Hid (zbC mx=(if mx.re then [114] else [])++([109,117,116,101,120,32]++(mx.name++(([91]++(zbG (mx.size:Int)++[93]))++[59,10])))):=by show _=_;rw[zbC,if_neg h0]
       rw[hre] at HFT;rw[if_neg h0] at hlen;simp only[List.length_append,List.length_cons,List.length_nil,if_true,Bool.false_eq_true,if_false] at hlen;clear h0;go_wp2_with fail;refine(zcm (mx.size:Int) _ (by omega) (by have:=HIN.out;omega)).mono ?_;rintro e w1 ⟨rfl,hb1⟩;have HB1:=zH (za3 (HBk.out.alloc (Nat.le_trans (by simp) HBk.out.size) _) hb1);clear hb1;generalize zbG (mx.size:Int)=T at *;go_wp2_with fail;go_roundw
       case rel =>
        refine⟨k2+1,t2++zbC mx,by omega,by go_num,?_,?_,HB1⟩
        ·
         rw[HFT.out];simp
        ·
         show _=_;rw[HST.out,ht.out,List.append_assoc]
       case measure=>simp[intOf];omega
    ·
     have dlt:decide ((k2:Int)<(p.ms.length:Int))=false:=decide_eq_false (by omega);have ht0:Hid (t2=catT zbr p.gs++(catT zbC p.ms++catT zcL (p.fs.take 0))):=by show _=_;rw[ht.out,List.take_of_length_le (by omega)];simp[catT]
     go_wp2_with fail;clear x1 hxl
     go_loopw [3,7,8,9] (fun v i _ _ wr=>∃(k:Nat) (t:List UInt8),k≤p.fs.length∧i=.int .i64 k∧v=.string ⟨t.toArray⟩∧Hid (t=catT zbr p.gs++(catT zbC p.ms++catT zcL (p.fs.take k)))∧Hid (Below W.heap.size W wr)) (fun _ i _ _ _=>p.fs.length-(intOf i).toNat)
     case atStart=>exact⟨0,t2,Nat.zero_le _,rfl,rfl,ht0,HBk⟩
     case round =>
      clear HBk hlt dlt ht ht0 hk2;obtain⟨k3,t3,hk3,rfl,rfl,ht,HBk⟩:=hrel;obtain⟨-,-,x2,-,hxl⟩:=blk3 ((HBk.out.block _ (lt_of_block HX.out)).trans HX.out);by_cases hlt:k3<p.fs.length
      ·
       obtain⟨b,rfl,a0,a1,a2⟩:=(HM.out.later HBk.out).f k3 hlt;have HST:=zH (zek zcL p.fs k3 hlt);have HFO:=zH (HT.out.f k3 hlt);have HPs:=zH ((HM.out.later HBk.out).ps k3 hlt);have HBd:=zH ((HM.out.later HBk.out).bd k3 hlt);have hlen:=HL3.out (k3+1);rw[HST.out,←List.append_assoc,←List.append_assoc,List.append_assoc (catT zbr p.gs),←ht.out,zcL,ziM] at hlen;generalize p.fs[k3]=fn at *;generalize H k3=G at *;have i0:(0:Int)≤(k3:Int):=by omega
       have i1:(k3:Int)<(p.fs.length:Int):=by omega
       have dlt:decide ((k3:Int)<(p.fs.length:Int))=true:=decide_eq_true (by omega);simp only[List.length_append,List.length_cons,List.length_nil] at hlen;have hpl:=HFO.out.1;obtain⟨V,hV⟩:∃V,V=wr.alloc (.cells #[.string ⟨fn.name.toArray⟩,.slice G.A fn.ps.length G.c,.slice G.B fn.body.length G.d] 52):=⟨_,rfl⟩;have hf3:=heap_alloc_new wr (.cells #[.string ⟨fn.name.toArray⟩,.slice G.A fn.ps.length G.c,.slice G.B fn.body.length G.d] 52);rw[←hV] at hf3;have HBV:Hid (Below wr.heap.size wr V):=by rw[hV];exact(Below.refl _ _).alloc (lR _) _
       have HV:=zH hV;have HF3:=zH hf3;clear hV hf3;go_wp2_with fail;rw[←HV.out];clear HV;obtain⟨X,hX⟩:∃X,X=wr.heap.size:=⟨_,rfl⟩;rw[←hX] at HF3 ⊢;clear hX x2 hxl a0 a1 a2;have HPv:=zH (HPs.out.later HBV.out);have HBv:Hid (StsM V (fun _=>True) fn.body G.B):=HBd.out.keep fun b _ hl=>HBV.out.block b hl;have HBW3:=zH (za3 HBk.out HBV.out);clear HPs HBd HBV
       go_loopw [3,9] (fun v i wr=>∃(q:Nat) (s:List UInt8),q≤fn.ps.length∧i=.int .i64 q∧v=.string ⟨s.toArray⟩∧Hid (s=t3++([102,117,110,99,32]++(fn.name++([40]++zcg fn.ps q))))∧Hid (Below V.heap.size V wr)) (fun _ i _=>fn.ps.length-(intOf i).toNat)
       case atStart=>exact⟨0,t3++([102,117,110,99,32]++(fn.name++[40])),Nat.zero_le _,rfl,by simp,by show _=_;rfl,Below.refl _ _⟩
       case round =>
        clear dlt i0 i1;obtain⟨q,s,hq,rfl,rfl,hs,HBq⟩:=hrel;obtain⟨-,u1,u2,-,hul⟩:=blk3 ((HBq.out.block _ (lt_of_block HF3.out)).trans HF3.out);have hsl:Hid (s.length=t3.length+(5+(fn.name.length+(1+(zcg fn.ps q).length)))):=by show _=_;rw[hs.out];simp;omega
        by_cases hql:q<fn.ps.length
        ·
         obtain⟨ba,oa,hA,-,m0,m1⟩:=(HPv.out.later HBq.out) q hql;rw[hA] at u1;have HSP:=zH (ze9 fn.ps q hql);have hmo:=zgq fn.ps (q+1) fn.ps.length hql;have hsl':=hsl.out;rw[HSP.out,zeF] at hmo;simp only[List.length_append] at hmo;have HPT:Hid (zeF fn.ps[q]=(if fn.ps[q].m then [109,117,116,101,120,32] else [])++fn.ps[q].name):=rfl;generalize fn.ps[q]=pm at *;have i2:(0:Int)≤(q:Int):=by omega
         have i3:(q:Int)<(fn.ps.length:Int):=by omega
         have djl:decide ((q:Int)<(fn.ps.length:Int))=true:=decide_eq_true (by omega);clear hA u2;by_cases hq0:0<q
         all_goals
          cases hmm:pm.m
          all_goals
           rw[hmm] at m1 HPT hmo;have dq:decide ((q:Int)>0)=decide (0<q):=by simp
           simp only[hq0,decide_true,decide_false,if_true,if_false,Bool.false_eq_true,List.length_cons,List.length_nil] at dq hmo HSP HPT;have hle:s.length+(2+(6+pm.name.length))≤1000000100:=by omega
           clear hsl hsl' hmo hlen;go_wp2_with fail;go_roundw
           case rel =>
            refine⟨q+1,t3++([102,117,110,99,32]++(fn.name++([40]++zcg fn.ps (q+1)))),by omega,by go_num,?_,rfl,HBq⟩;rw[HSP.out,HPT.out,hs.out];simp
           case measure=>simp[intOf];omega
        ·
         have djl:decide ((q:Int)<(fn.ps.length:Int))=false:=decide_eq_false (by omega);have hqe:q=fn.ps.length:=by omega
         subst hqe;have hsl':=hsl.out;clear hsl;go_wp2_with fail;refine(zhA (SizeOf.sizeOf fn.body+1) fn.body G.B G.d [9] _ (Nat.lt_succ_self _) (HBv.out.keep fun b _ hl=>HBq.out.block b hl) HFO.out.2 (by omega)).mono ?_;rintro e w1 ⟨rfl,hb1⟩;have HB1:=zH (za3 HBW3.out (za3 HBq.out hb1));clear hb1;have HFT:Hid (zcL fn=[102,117,110,99,32]++(fn.name++([40]++zcg fn.ps fn.ps.length))++([41,32,123,10]++(zab fn.body [9]++[125,10]))):=rfl;generalize zab fn.body [9]=T at *;go_wp2_with fail;go_roundw
         case rel =>
          refine⟨k3+1,t3++zcL fn,by omega,by go_num,?_,?_,HB1⟩
          ·
           rw[HFT.out,hs.out];simp
          ·
           show _=_;rw[HST.out,ht.out];simp
         case measure=>simp[intOf];omega
      ·
       have dlt:decide ((k3:Int)<(p.fs.length:Int))=false:=decide_eq_false (by omega);have ht0:Hid (t3=zch p):=by show _=_;rw[ht.out,List.take_of_length_le (by omega)];rfl
       go_wp2_with fail;go_ret;exact⟨by rw[ht0.out];rfl,za3 HBW.out HBk.out⟩
theorem Byt.sub {w:World} {b off:Nat} {l:List UInt8} (h:Byt w (some ⟨b,off,none⟩) l) (k m:Nat):Byt w (some ⟨b,off+k,none⟩) ((l.drop k).take (m-k)):=by
 intro i hi;have hi':k+i<l.length:=by simp at hi;omega
 obtain⟨b',off',e,hc⟩:=h (k+i) hi';injection e with e;injection e with e1 e2;subst e1 e2;refine⟨_,_,rfl,?_⟩;rw[Nat.add_assoc,hc];simp
def zeI:Option Nat→Int
 | none=>-1
 | some n=>n
theorem numD_at (ds:List UInt8) (m n:Nat) (h:m<ds.length):Tk.numVal n (ds.drop m)=if n>(9223372036854775807-(ds[m].toNat-48)) / 10 then none else Tk.numVal (10*n+(ds[m].toNat-48)) (ds.drop (m+1)):=by
 rw[List.drop_eq_getElem_cons h];rfl
set_option maxHeartbeats 1000000 in
theorem zhz (ds:List UInt8) (ao:Option Addr) (cap:Nat) (w:World) (hB:Byt w ao ds) (hd:∀c∈ds,Tk.isDig c=true) (hl:ds.length≤1000000) :
  Calls Tryz.prog 22 #[.slice ao ds.length cap] w fun e w'=>e=.returned (.int .i64 (zeI (Tk.numVal 0 ds)))∧w=w':=by
 have HB:=zH hB;have HD:=zH hd;clear hB hd;go_enter Tryz.func22,Tryz.ntmps22;go_wp2
 go_loop [3,4,5] (fun j i _=>∃m n:Nat,m≤ds.length∧n≤9223372036854775807∧i=.int .i64 m∧j=.int .i64 n∧Hid (Tk.numVal n (ds.drop m)=Tk.numVal 0 ds)) (fun _ i _=>ds.length-(intOf i).toNat)
 case atStart=>exact⟨0,0,by omega,by omega,rfl,rfl,rfl⟩
 case round =>
  obtain⟨m,n,hm,hn,rfl,rfl,hval⟩:=hrel;by_cases hlt:m<ds.length
  ·
   obtain⟨b,off,rfl,hc⟩:=HB.out m hlt;have hD:=HD.out ds[m] (List.getElem_mem hlt);have hd1:48≤(ds[m].toNat:Int)∧(ds[m].toNat:Int)≤57:=by simp[Tk.isDig] at hD;omega
   clear hD;obtain⟨hd1,hd2⟩:=hd1;have HN:=zH (numD_at ds m n hlt);go_wp2
   ·
    go_ret;refine⟨zaz ?_,rfl⟩;rw[←hval.out,HN.out,if_pos (by omega)];rfl
   ·
    go_round
    case rel =>
     refine⟨m+1,10*n+(ds[m].toNat-48),by omega,by omega,by go_num,?_,?_⟩
     ·
      congr 1;omega
     ·
      have h2:=HN.out;rw[if_neg (by omega)] at h2;exact(h2.symm.trans hval.out:_=_)
    case measure=>simp[intOf];omega
  ·
   go_wp2;go_ret;refine⟨zaz ?_,rfl⟩;rw[←hval.out,List.drop_eq_nil_of_le (by omega)];rfl
def sgn (l:List UInt8) (k:Nat):Nat :=
 if k+2≤l.length∧hasB Tk.signs2 ((l.drop k).take 2)=true then 2 else if hasB Tk.signs1 ((l.drop k).take 1)=true then 1 else 0
theorem sgn_two (l:List UInt8) (k:Nat) (h:k+2≤l.length) (h2:hasB Tk.signs2 ((l.drop k).take 2)=true):sgn l k=2:=if_pos ⟨h,h2⟩
theorem zhZ (l:List UInt8) (k:Nat) (h:¬(k+2≤l.length∧hasB Tk.signs2 ((l.drop k).take 2)=true)) (h1:hasB Tk.signs1 ((l.drop k).take 1)=true):sgn l k=1:=by
 unfold sgn;rw[if_neg h,if_pos h1]
theorem zgR (l:List UInt8) (k:Nat) (h:¬(k+2≤l.length∧hasB Tk.signs2 ((l.drop k).take 2)=true)) (h1:hasB Tk.signs1 ((l.drop k).take 1)=false):sgn l k=0:=by
 unfold sgn;rw[if_neg h,if_neg (by rw[h1];simp)]
theorem has2_any (s:List UInt8) (w:World):Calls Tryz.prog 44 #[.slice (some ⟨w.heap.size,0,none⟩) 6 6,.string ⟨s.toArray⟩] (w.alloc (.cells #[.string ⟨#[60,61]⟩,.string ⟨#[62,61]⟩,.string ⟨#[61,61]⟩,.string ⟨#[33,61]⟩,.string ⟨#[38,38]⟩,.string ⟨#[124,124]⟩] 9)) fun e w'=>e=.returned (.bool (hasB Tk.signs2 s))∧(w.alloc (.cells #[.string ⟨#[60,61]⟩,.string ⟨#[62,61]⟩,.string ⟨#[61,61]⟩,.string ⟨#[33,61]⟩,.string ⟨#[38,38]⟩,.string ⟨#[124,124]⟩] 9))=w' :=
 zgE Tk.signs2 s (some ⟨w.heap.size,0,none⟩) 6 _ (zeY w Tk.signs2 9) (by decide)
theorem zh5 (s:List UInt8) (w:World) (g:Nat) (hg:g=w.heap.size):Calls Tryz.prog 44 #[.slice (some ⟨g,0,none⟩) 17 17,.string ⟨s.toArray⟩] (w.alloc (.cells #[.string ⟨#[40]⟩,.string ⟨#[41]⟩,.string ⟨#[123]⟩,.string ⟨#[125]⟩,.string ⟨#[91]⟩,.string ⟨#[93]⟩,.string ⟨#[44]⟩,.string ⟨#[59]⟩,.string ⟨#[61]⟩,.string ⟨#[43]⟩,.string ⟨#[45]⟩,.string ⟨#[42]⟩,.string ⟨#[47]⟩,.string ⟨#[37]⟩,.string ⟨#[60]⟩,.string ⟨#[62]⟩,.string ⟨#[33]⟩] 9)) fun e w'=>e=.returned (.bool (hasB Tk.signs1 s))∧(w.alloc (.cells #[.string ⟨#[40]⟩,.string ⟨#[41]⟩,.string ⟨#[123]⟩,.string ⟨#[125]⟩,.string ⟨#[91]⟩,.string ⟨#[93]⟩,.string ⟨#[44]⟩,.string ⟨#[59]⟩,.string ⟨#[61]⟩,.string ⟨#[43]⟩,.string ⟨#[45]⟩,.string ⟨#[42]⟩,.string ⟨#[47]⟩,.string ⟨#[37]⟩,.string ⟨#[60]⟩,.string ⟨#[62]⟩,.string ⟨#[33]⟩] 9))=w' :=
 hg▸zgE Tk.signs1 s (some ⟨w.heap.size,0,none⟩) 17 _ (zeY w Tk.signs1 9) (by decide)
set_option maxRecDepth 100000 in
set_option maxHeartbeats 1000000 in
theorem sign_any (l:List UInt8) (ao:Option Addr) (cap k:Nat) (w:World) (hB:Byt w ao l) (hk:k<l.length) (hl:l.length≤1000000) (hcap:l.length≤cap) :
  Calls Tryz.prog 23 #[.slice ao l.length cap,.int .i64 (k:Int)] w fun e w'=>e=.returned (.int .i64 (sgn l k:Int))∧Below w.heap.size w w':=by
 obtain⟨b,off,rfl,hc0⟩:=hB k hk;have hbl:b<w.heap.size:=World.block_lt_of_cell? _ _ hc0;have HB:=zH hB;clear hB hc0;have es2:k+2-k=2:=by omega
 have es1:k+1-k=1:=by omega
 by_cases h2:k+2≤l.length
 ·
  have n1:decide ((k:Int)+1<(l.length:Int))=true:=by simp;omega
  have hcv2:=fun cap' W (hW:Below w.heap.size w W)=>zau l b off k (k+2) cap' W (HB.out.later hW) (by omega) h2;rw[es2] at hcv2;have hcv1:=fun cap' W (hW:Below w.heap.size w W)=>zau l b off k (k+1) cap' W (HB.out.later hW) (by omega) (by omega);rw[es1] at hcv1;clear es1 es2;have hcvA:=fun cap' o=>hcv2 cap' (w.alloc o) ((Below.refl _ _).alloc (lR _) _);have hcvB:=fun cap' o o'=>hcv1 cap' ((w.alloc o).alloc o') (((Below.refl _ _).alloc (lR _) _).alloc (by simp) _);clear hcv1 hcv2;go_enter Tryz.func23,Tryz.ntmps23;go_wp2_with fail;refine(has2_any _ _).mono ?_;rintro e w' ⟨rfl,rfl⟩;by_cases q2:hasB Tk.signs2 ((l.drop k).take 2)=true
  ·
   go_wp2_with fail;go_ret;exact⟨zaz (by rw[sgn_two l k h2 q2];rfl),(Below.refl _ _).alloc (lR _) _⟩
  ·
   have q2':hasB Tk.signs2 ((l.drop k).take 2)=false:=by simpa using q2
   have Q2:=zH q2;clear q2;go_wp2_with fail;refine(zh5 _ (w.alloc _) (w.heap.size+1) (by simp)).mono ?_;rintro e w' ⟨rfl,rfl⟩;by_cases q1:hasB Tk.signs1 ((l.drop k).take 1)=true
   ·
    go_wp2_with fail;go_ret;exact⟨zaz (by rw[zhZ l k (fun h=>Q2.out h.2) q1];rfl),((Below.refl _ _).alloc (lR _) _).alloc (by simp) _⟩
   ·
    have q1':hasB Tk.signs1 ((l.drop k).take 1)=false:=by simpa using q1
    clear q1;go_wp2_with fail;go_ret;exact⟨zaz (by rw[zgR l k (fun h=>Q2.out h.2) q1'];rfl),((Below.refl _ _).alloc (lR _) _).alloc (by simp) _⟩
 ·
  have n1:decide ((k:Int)+1<(l.length:Int))=false:=by simp;omega
  have hcv1:=fun cap' W (hW:Below w.heap.size w W)=>zau l b off k (k+1) cap' W (HB.out.later hW) (by omega) (by omega);rw[es1] at hcv1;clear es1 es2;have hcvB:=fun cap' o=>hcv1 cap' (w.alloc o) ((Below.refl _ _).alloc (lR _) _);clear hcv1;go_enter Tryz.func23,Tryz.ntmps23;go_wp2_with fail;refine(zh5 _ w w.heap.size rfl).mono ?_;rintro e w' ⟨rfl,rfl⟩;by_cases q1:hasB Tk.signs1 ((l.drop k).take 1)=true
  ·
   go_wp2_with fail;go_ret;exact⟨zaz (by rw[zhZ l k (fun h=>h2 h.1) q1];rfl),(Below.refl _ _).alloc (lR _) _⟩
  ·
   have q1':hasB Tk.signs1 ((l.drop k).take 1)=false:=by simpa using q1
   clear q1;go_wp2_with fail;go_ret;exact⟨zaz (by rw[zgR l k (fun h=>h2 h.1) q1'];rfl),(Below.refl _ _).alloc (lR _) _⟩
set_option maxHeartbeats 1000000 in
theorem zb1 (l:List UInt8) (ao:Option Addr) (cap:Nat) (at_:Int) (w:World) (hB:Byt w ao l) (h0:0≤at_) (hk:at_≤l.length) (hl:l.length≤1000000) :
  Calls Tryz.prog 18 #[.slice ao l.length cap,.int .i64 at_] w fun e w'=>e=.returned (.int .i64 (Tk.skipTo l at_.toNat:Int))∧w=w':=by
 obtain⟨k,rfl⟩:=Int.eq_ofNat_of_zero_le h0;rw[Int.toNat_natCast];have HB:=zH hB;clear hB;go_enter Tryz.func18,Tryz.ntmps18;go_wp2
 go_loop [1] (fun i=>∃m:Nat,m≤l.length∧i=.int .i64 m∧Hid (Tk.skipTo l m=Tk.skipTo l k)) (fun i=>l.length-(intOf i).toNat)
 case atStart=>exact⟨k,by omega,rfl,rfl⟩
 case round =>
  obtain⟨m,hm,rfl,hrel⟩:=hrel;by_cases hlt:m<l.length
  ·
   obtain⟨b,off,rfl,hc⟩:=HB.out m hlt;have HS:=zH (zez l m hlt);have HQ:=zH (zfw l m hlt);by_cases c32:l[m].toNat=32
   ·
    have t32:=bT (show ((l[m].toNat:Nat):Int)=32 by omega);have C:=zH c32;clear c32;go_wp2
    go_round
    case rel=>exact⟨m+1,by omega,by go_num,((HS.out (by have:=C.out;omega)).symm.trans hrel.out:_=_)⟩
    case measure=>simp[intOf];omega
   by_cases c9:l[m].toNat=9
   ·
    have t32:=bF (show ((l[m].toNat:Nat):Int)≠32 by omega);have t9:=bT (show ((l[m].toNat:Nat):Int)=9 by omega);have C:=zH c9;clear c9;go_wp2
    go_round
    case rel=>exact⟨m+1,by omega,by go_num,((HS.out (by have:=C.out;omega)).symm.trans hrel.out:_=_)⟩
    case measure=>simp[intOf];omega
   by_cases c10:l[m].toNat=10
   ·
    have t32:=bF (show ((l[m].toNat:Nat):Int)≠32 by omega);have t9:=bF (show ((l[m].toNat:Nat):Int)≠9 by omega);have t10:=bT (show ((l[m].toNat:Nat):Int)=10 by omega);have C:=zH c10;clear c10;go_wp2
    go_round
    case rel=>exact⟨m+1,by omega,by go_num,((HS.out (by have:=C.out;omega)).symm.trans hrel.out:_=_)⟩
    case measure=>simp[intOf];omega
   by_cases c13:l[m].toNat=13
   ·
    have t32:=bF (show ((l[m].toNat:Nat):Int)≠32 by omega);have t9:=bF (show ((l[m].toNat:Nat):Int)≠9 by omega);have t10:=bF (show ((l[m].toNat:Nat):Int)≠10 by omega);have t13:=bT (show ((l[m].toNat:Nat):Int)=13 by omega);have C:=zH c13;clear c13;go_wp2
    go_round
    case rel=>exact⟨m+1,by omega,by go_num,((HS.out (by have:=C.out;omega)).symm.trans hrel.out:_=_)⟩
    case measure=>simp[intOf];omega
   have t32:=bF (show ((l[m].toNat:Nat):Int)≠32 by omega);have t9:=bF (show ((l[m].toNat:Nat):Int)≠9 by omega);have t10:=bF (show ((l[m].toNat:Nat):Int)≠10 by omega);have t13:=bF (show ((l[m].toNat:Nat):Int)≠13 by omega);have CM:=zH (And.intro c32 (And.intro c9 (And.intro c13 c10)));by_cases hn:m+1<l.length
   ·
    have n1:decide ((m:Int)+1<(l.length:Int))=true:=by simp;omega
    obtain⟨b',off',hao,hc'⟩:=HB.out (m+1) hn;injection hao with hao;injection hao with e1 e2;subst e1 e2;by_cases c47:l[m].toNat=47
    ·
     have t47:=bT (show ((l[m].toNat:Nat):Int)=47 by omega);by_cases d47:l[m+1].toNat=47
     ·
      have n2:=bT (show ((l[m+1].toNat:Nat):Int)=47 by omega);have HK:=zH (zdF l m hlt hn c47 d47);have hp:=zeh l m hlt c10;have hd:=zdK l m hm;clear c32 c9 c13 c10 c47 d47;go_wp2;have hrel0:=hrel;clear hrel;clear hc hc' t32 t9 t10 t13 t47 n1 n2
      go_loop [1] (fun i=>∃j:Nat,j≤l.length∧i=.int .i64 j∧Hid (j+Tk.lineLen (l.drop j)=m+Tk.lineLen (l.drop m))) (fun i=>l.length-(intOf i).toNat)
      case atStart=>exact⟨m,hm,rfl,rfl⟩
      case round =>
       obtain⟨j,hj,rfl,hrel2⟩:=hrel;by_cases hlt2:j<l.length
       ·
        obtain⟨b',off',hao,hc⟩:=HB.out j hlt2;injection hao with hao;injection hao with e1 e2;subst e1 e2;have hs:=zH (zdy l j hlt2);by_cases h10:l[j].toNat=10
        ·
         have g1:=nF (show ((l[j].toNat:Nat):Int)=10 by omega);have H10:=zH h10;clear h10;go_wp2
         go_round
         case rel =>
          have h2:=hs.out;rw[if_pos H10.out] at h2;have h3:=hrel2.out;have h4:j=m+Tk.lineLen (l.drop m):=by omega
          exact⟨j,hj,rfl,(by rw[h4];exact HK.out.symm.trans hrel0.out:Tk.skipTo l j=Tk.skipTo l k)⟩
         case measure =>
          have h2:=hs.out;rw[if_pos H10.out] at h2;have h3:=hrel2.out;simp[intOf];omega
        ·
         have g1:=nT (show ((l[j].toNat:Nat):Int)≠10 by omega);have H10:=zH h10;clear h10;go_wp2
         go_round
         case rel =>
          refine⟨j+1,by omega,by go_num,?_⟩;have h2:=hs.out;rw[if_neg H10.out] at h2;have h3:=hrel2.out;show _=_;omega
         case measure=>simp[intOf];omega
       ·
        have he:Tk.lineLen (l.drop j)=0:=by rw[List.drop_eq_nil_of_le (by omega)];rfl
        have HEE:=zH he;clear he;go_wp2
        go_round
        case rel =>
         have h2:=HEE.out;have h3:=hrel2.out;have h4:j=m+Tk.lineLen (l.drop m):=by omega
         exact⟨j,hj,rfl,(by rw[h4];exact HK.out.symm.trans hrel0.out:Tk.skipTo l j=Tk.skipTo l k)⟩
        case measure =>
         have h2:=HEE.out;have h3:=hrel2.out;simp[intOf];omega
     ·
      have n2:=bF (show ((l[m+1].toNat:Nat):Int)≠47 by omega);have D:=zH d47;clear c32 c9 c13 c10 c47 d47;go_wp2;go_ret;exact⟨zaz (by rw[←hrel.out,HQ.out CM.out (fun _ _=>D.out)]),rfl⟩
    ·
     have t47:=bF (show ((l[m].toNat:Nat):Int)≠47 by omega);have C:=zH c47;clear c32 c9 c13 c10 c47;go_wp2;go_ret;exact⟨zaz (by rw[←hrel.out,HQ.out CM.out (fun h=>absurd h C.out)]),rfl⟩
   ·
    have n1:decide ((m:Int)+1<(l.length:Int))=false:=by simp;omega
    have CN:=zH hn;clear c32 c9 c13 c10 hn;go_wp2;go_ret;exact⟨zaz (by rw[←hrel.out,HQ.out CM.out (fun _ h'=>absurd h' CN.out)]),rfl⟩
  ·
   have hlt':l.length≤m:=by omega
   have HE:=zH (zgO l m hlt');go_wp2;go_ret;exact⟨zaz (by rw[←hrel.out,HE.out]),rfl⟩
end Go.Proofs.YtlnbmmgbfgmboaaGreatDoor
