import Derived.Test.YtlnbmmgbfgmboaaGreatDoorQa
import Derived.Test.YtlnbmmgbfgmboaaGreatDoorQ1
import Derived.Deep.QuietTactic
import Derived.BigQuiet
import Derived.Test.YtlnbmmgbfgmboaaGreatDoorSrcExprG
import Derived.Deep.RegionHeld3
import Derived.Deep.RegionLaw
namespace Go.Proofs.YtlnbmmgbfgmboaaGreatDoor
open Go.RowKit
def zay (ts:List Tk.Tok):List Value:=ts.flatMap fun t=>[.int .i64 (t.kind:Int),.string ⟨t.text.toArray⟩,.int .i64 (t.num:Int),.int .i64 (t.pos:Int)]
theorem zaC (ts:List Tk.Tok) (t:Tk.Tok):zay (ts++[t])=zay ts++[.int .i64 (t.kind:Int),.string ⟨t.text.toArray⟩,.int .i64 (t.num:Int),.int .i64 (t.pos:Int)]:=by
 simp[zay]
theorem tok_ok (l:List UInt8) (k:Nat) (t:Tk.Tok) (hk:k<l.length) (h:Tk.tokAt l k=.ok t):0<t.text.length∧k+t.text.length≤l.length∧t.pos=k:=by
 have hg:l.getD k 0=l[k]:=by simp[List.getD,List.getElem?_eq_getElem hk]
 have hp:∀(p:UInt8→Bool),p l[k]=true→0<((l.drop k).takeWhile p).length∧k+((l.drop k).takeWhile p).length≤l.length:=by
  intro p hp;have h1:=zdm p l k hk;rw[if_pos hp] at h1;have h2:=(List.takeWhile_prefix p (l:=l.drop k)).length_le;simp at h2;omega
 unfold Tk.tokAt at h;rw[hg] at h;split at h
 ·
  rename_i hL;unfold Tk.nameAt at h;dsimp only at h;split at h
  ·
   cases h
  ·
   injection h with h;subst h
   have:=hp Tk.isLD (by simp[Tk.isLD,hL]);exact⟨this.1,this.2,rfl⟩
 ·
  split at h
  ·
   rename_i hD;unfold Tk.numAt at h;dsimp only at h;split at h
   ·
    cases h
   ·
    injection h with h;subst h
    have:=hp Tk.isDig hD;exact⟨this.1,this.2,rfl⟩
  ·
   unfold Tk.signAt at h;split at h
   ·
    injection h with h;subst h;refine⟨?_,?_,rfl⟩
    all_goals (simp;omega)
   ·
    split at h
    ·
     injection h with h;subst h;refine⟨?_,?_,rfl⟩
     all_goals (simp;omega)
    ·
     cases h
theorem zhR (l:List UInt8) (k e:Nat) (h:Tk.tokAt l k=.error e):1≤e∧e≤3:=by
 unfold Tk.tokAt at h;split at h
 ·
  unfold Tk.nameAt at h;dsimp only at h;split at h
  ·
   injection h with h;omega
  ·
   cases h
 ·
  split at h
  ·
   unfold Tk.numAt at h;dsimp only at h;split at h
   ·
    injection h with h;omega
   ·
    cases h
  ·
   unfold Tk.signAt at h;split at h
   ·
    cases h
   ·
    split at h
    ·
     cases h
    ·
     injection h with h;omega
theorem zg1 (f:Nat) (l:List UInt8) (k:Nat) (acc:List Tk.Tok) (h:l.length≤k):Tk.lexGo (f+1) l k acc=(acc++[⟨5,[],0,l.length⟩],l.length,0):=by
 rw[Tk.lexGo,if_pos h]
theorem zcu (f:Nat) (l:List UInt8) (k e:Nat) (acc:List Tk.Tok) (h:k<l.length) (he:Tk.tokAt l k=.error e):Tk.lexGo (f+1) l k acc=([],k,e):=by
 rw[Tk.lexGo,if_neg (by omega),he]
theorem zbh (f:Nat) (l:List UInt8) (k:Nat) (acc:List Tk.Tok) (t:Tk.Tok) (h:k<l.length) (he:Tk.tokAt l k=.ok t) (hn:acc.length=4000):Tk.lexGo (f+1) l k acc=([],k,3):=by
 rw[Tk.lexGo,if_neg (by omega),he];dsimp only;rw[if_pos hn]
theorem zbg (f:Nat) (l:List UInt8) (k:Nat) (acc:List Tk.Tok) (t:Tk.Tok) (h:k<l.length) (he:Tk.tokAt l k=.ok t) (hn:acc.length≠4000) :
  Tk.lexGo (f+1) l k acc=Tk.lexGo f l (Tk.skipTo l (k+t.text.length)) (acc++[t]):=by
 rw[Tk.lexGo,if_neg (by omega),he];dsimp only;rw[if_neg hn]
def zeo (w:World) (R:List Tk.Tok × Nat × Nat) (e:Ending) (w':World):Prop :=
 ∃v,e=.returned (.tuple #[v,.int .i64 (R.2.1:Int),.int .i64 (R.2.2:Int)])∧w'.ownsRow w.heap.size 55 4 v R.1.length (zay R.1)∧Below w.heap.size w w'
theorem zaA {w w':World} {l:List UInt8} {k e0:Nat} (h:Tk.lex l=([],k,e0)) (hb:Below w.heap.size w w') :
  zeo w (Tk.lex l) (.returned (.tuple #[.slice none 0 0,.int .i64 (k:Int),.int .i64 (e0:Int)])) w':=by
 rw[h];exact⟨_,rfl,World.ownsRow_nil _ _ _ _,hb⟩
theorem zaW {w w':World} {base:Nat} {e:TypeId} {size n:Nat} {v:Value} {xs:List Value} (h:w.ownsRow base e size v n xs) (hb:Below w.heap.size w w'):w'.ownsRow base e size v n xs:=by
 obtain⟨hl,h⟩:=h;refine⟨hl,?_⟩;rcases h with h|⟨g,cap,cur,e1,e2,hh,rest⟩
 ·
  exact .inl h
 ·
  exact .inr ⟨g,cap,cur,e1,e2,(hb.block g (lt_of_block hh)).trans hh,rest⟩
theorem zct {w:World} {base:Nat} {e:TypeId} {size n:Nat} {v:Value} {xs:List Value} (h:w.ownsRow base e size v n xs) (g:Nat) (hg:v.ownBlock=some g):base≤g∧g<w.heap.size:=by
 rcases h.2 with⟨rfl,_⟩|⟨g',cap,cur,rfl,hb,hh,_⟩
 ·
  cases hg
 ·
  have:g'=g:=by simpa[Value.ownBlock] using hg
  subst this;exact⟨hb,lt_of_block hh⟩
theorem zb4 {w:World} {base:Nat} {e:TypeId} {size n:Nat} {v:Value} {xs:List Value} (h:w.ownsRow base e size v n xs):∃A c,v=.slice A n c:=by
 rcases h.2 with⟨rfl,rfl⟩|⟨g',cap,cur,rfl,_⟩
 ·
  exact⟨_,_,rfl⟩
 ·
  exact⟨_,_,rfl⟩
theorem zbe (W:World) (g:Nat) (hg:g=W.heap.size) (c0 c1 c2 c3:Value) (t:TypeId) (j:Nat) (u:Value) (hj:[c0,c1,c2,c3][j]?=some u) :
  (W.alloc (.cells #[c0,c1,c2,c3] t)).cell? ((⟨g,0,none⟩:Addr).add j)=some u:=by
 subst hg;have ha:(⟨W.heap.size,0,none⟩:Addr).add j=⟨W.heap.size,j,none⟩:=by
  unfold Addr.add;split
  ·
   simp_all
  ·
   simp
 rw[ha,World.cell?_alloc_mark,←hj];simp
theorem zbA (t:Tk.Tok):∀u∈[Value.int .i64 (t.kind:Int),.string ⟨t.text.toArray⟩,.int .i64 (t.num:Int),.int .i64 (t.pos:Int)],u.oneCell'=true:=by
 intro u hu;simp at hu;rcases hu with rfl|rfl|rfl|rfl<;>rfl
theorem ziF {w wr w2 w5:World} {e size n:Nat} {v:Value} {xs:List Value} {c0 c1 c2 c3:Value} {t:TypeId} {o:Obj} (ho:wr.ownsRow w.heap.size e size v n xs) (hw:Below w.heap.size w wr) (hb:Below wr.heap.size wr w2)
  (hg:((w2.alloc (.cells #[c0,c1,c2,c3] t)).alloc o).grownBy w5 v.ownBlock):w5.cell? ⟨w2.heap.size,1,none⟩=some c1∧Below w.heap.size w w5:=by
 have h1:=hw.size;have h2:=hb.size;have hs:((w2.alloc (.cells #[c0,c1,c2,c3] t)).alloc o).heap.size=w2.heap.size+2:=by simp
 constructor
 ·
  have hne:some w2.heap.size≠v.ownBlock:=by
   intro h
   have:=(zct ho _ h.symm).2;omega
  have hc:w5.cell? ⟨w2.heap.size,1,none⟩=((w2.alloc (.cells #[c0,c1,c2,c3] t)).alloc o).cell? ⟨w2.heap.size,1,none⟩:=World.cell?_of_block (hg.block w2.heap.size (by rw[hs];omega) hne);rw[hc,World.cell?_alloc_lt _ _ _ (by simp),World.cell?_alloc_mark];rfl
 ·
  exact(((hw.trans (hb.mono h1)).alloc (by omega) _).alloc (by simp;omega) _).grown hg (by rw[hs];omega) (fun k hk=>(zct ho k hk).1)
theorem Tryz.infoTok:(Tryz.prog.info? 55).map (fun i=>(i.zero,i.size,i.bytes))=some (some (.agg #[.int .i64 0,.string ⟨#[]⟩,.int .i64 0,.int .i64 0]),4,40):=by kernel_rfl
set_option maxRecDepth 100000 in
set_option maxHeartbeats 1000000 in
theorem lex_any (l:List UInt8) (ao:Option Addr) (cap:Nat) (w:World) (hB:Byt w ao l) (hl:l.length≤262144) (hcap:l.length≤cap) :
  Calls Tryz.prog 34 #[.slice ao l.length cap] w (zeo w (Tk.lex l)):=by
 obtain⟨i0,hi,hz0,hz1,hz2⟩:=info_parts Tryz.infoTok;have HB:=zH hB;clear hB;have HR:Hid (Tk.lex l=Tk.lexGo (l.length+1) l (Tk.skipTo l 0) []):=by unfold Tk.lex;rw[if_neg (by omega)];rfl
 have hb0:decide (262144<(l.length:Int))=false:=by simp;omega
 have hk0:=Tk.skipTo_le l 0 (Nat.zero_le _);go_enter Tryz.func34,Tryz.ntmps34;go_wp2_with (first|(go_at_call 59;refine(zgP l _ cap _ w HB.out (by omega) (by omega) (by omega)).mono ?_;rintro e w' ⟨rfl,rfl⟩));clear hb0
 go_loopw [5,6,7,8] (fun v i _ _ wr=>∃(k f:Nat) (acc:List Tk.Tok),k≤l.length∧i=.int .i64 k∧acc.length≤4000∧l.length-k<f∧wr.ownsRow w.heap.size 55 4 v acc.length (zay acc)∧Below w.heap.size w wr∧Hid (Tk.lexGo f l k acc=Tk.lex l))
  (fun _ i _ _ _=>l.length-(intOf i).toNat)
 case atStart=>exact⟨Tk.skipTo l 0,l.length+1,[],hk0,rfl,by simp,by omega,World.ownsRow_nil _ _ _ _,Below.refl _ _,HR.out.symm⟩
 case round =>
  obtain⟨k,f,acc,hk,rfl,hacc,hf,hown,hbel,hgo⟩:=hrel;clear HR hk0;obtain⟨f,rfl⟩:∃g,f=g+1:=⟨f-1,by omega⟩;obtain⟨sa,sc,rfl⟩:=zb4 hown;by_cases hlt:k<l.length
  ·
   have HW:=zH (HB.out.later hbel);have HO:=zH hown;have HBE:=zH hbel;clear hown hbel;cases ht:Tk.tokAt l k with
   | error e0 =>
    have he:=zhR l k e0 ht;have HE:=zH (zcu f l k e0 acc hlt ht);have HT:=zH ht;clear ht;have t0:=bF (show ((e0:Nat):Int)≠0 by omega);have t1:=nT (show ((e0:Nat):Int)≠0 by omega);go_wp2_with (first|(go_at_call 60;refine(zf1 l _ cap k _ HW.out hlt (by omega) hcap).mono ?_;rintro e w2 ⟨rfl,hb⟩;rw[HT.out];unfold zbl noTok))
    go_ret3
    exact zaA (hgo.out.symm.trans HE.out) ((HBE.out.trans (hb.mono HBE.out.size)).alloc (Nat.le_trans HBE.out.size hb.size) _)
   | ok t =>
    obtain⟨hp,hle,hpos⟩:=tok_ok l k t hlt ht;have HT:=zH ht;have HP:=zH hpos;clear ht hpos;by_cases hn:acc.length=4000
    ·
     have HE:=zH (zbh f l k acc t hlt HT.out hn);have tn:=bT (show ((acc.length:Nat):Int)=4000 by omega);clear hn;go_wp2_with (first|(go_at_call 60;refine(zf1 l _ cap k _ HW.out hlt (by omega) hcap).mono ?_;rintro e w2 ⟨rfl,hb⟩;rw[HT.out];unfold zbl zhS))
     go_ret3
     exact zaA (hgo.out.symm.trans HE.out) ((HBE.out.trans (hb.mono HBE.out.size)).alloc (Nat.le_trans HBE.out.size hb.size) _)
    ·
     have HE:=zH (zbg f l k acc t hlt HT.out hn);have tn:=bF (show ((acc.length:Nat):Int)≠4000 by omega);have hn':acc.length<4000:=by omega
     clear hn;go_wp2_with (first|(go_at_call 60;refine(zf1 l _ cap k _ HW.out hlt (by omega) hcap).mono ?_;rintro e w2 ⟨rfl,hb⟩;rw[HT.out];unfold zbl zhS)|(at_builtin;refine wpList_append_own _ rfl (.tmp 35) (.tmp 37) 31 rfl w.heap.size 55 i0 _ 4 40 Tryz.underlying31 hi hz0 hz1 hz2 rfl (by decide) _ acc.length (zay acc) rfl (((zaW HO.out hb).alloc _).alloc _) ⟨w2.heap.size+1,0,none⟩ 1 1 [.int .i64 (t.kind:Int),.string ⟨t.text.toArray⟩,.int .i64 (t.num:Int),.int .i64 (t.pos:Int)] rfl rfl (zbe (w2.alloc _) (w2.heap.size+1) (by simp) _ _ _ _ _) (zbA t) (by unfold maxLen;omega) (by omega) (by have:=HBE.out.size;have:=hb.size;simp;omega) ?_));intro v' w5 hown' hgrow _;obtain⟨hq,hbel5⟩:=ziF HO.out HBE.out hb hgrow;have HO':=zH hown';have HBE':=zH hbel5;clear hown' hgrow hbel5;go_wp2_with (first|(go_at_call 59;refine(zgP l _ cap _ _ (HB.out.later HBE'.out) (by omega) (by omega) (by omega)).mono ?_;rintro e w' ⟨rfl,rfl⟩));go_roundw
     case rel =>
      have e1:((k:Int)+(t.text.length:Int)).toNat=k+t.text.length:=by omega
      refine⟨Tk.skipTo l (k+t.text.length),f,acc++[t],Tk.skipTo_le l _ hle,by rw[e1],by simp;omega,?_,?_,HBE'.out,(HE.out.symm.trans hgo.out:_=_)⟩
      ·
       have:k+t.text.length≤Tk.skipTo l (k+t.text.length):=by unfold Tk.skipTo;omega
       omega
      ·
       have:=HO'.out;rw[←zaC] at this;simpa using this
     case measure =>
      have e1:((k:Int)+(t.text.length:Int)).toNat=k+t.text.length:=by omega
      rw[e1]
      have:k+t.text.length≤Tk.skipTo l (k+t.text.length):=by unfold Tk.skipTo;omega
      simp[intOf];omega
  ·
   have HE:=zH (zg1 f l k acc (by omega));have HO:=zH hown;have HBE:=zH hbel;clear hown hbel;go_wp2_with (first|(at_builtin;refine wpList_append_own _ rfl (.tmp 46) (.tmp 50) 31 rfl w.heap.size 55 i0 _ 4 40 Tryz.underlying31 hi hz0 hz1 hz2 rfl (by decide) _ acc.length (zay acc) rfl (HO.out.alloc _) ⟨wr.heap.size,0,none⟩ 1 1 [.int .i64 5,.string ⟨#[]⟩,.int .i64 0,.int .i64 (l.length:Int)] rfl rfl (zbe wr wr.heap.size rfl _ _ _ _ _) (zbA ⟨5,[],0,l.length⟩) (by unfold maxLen;omega) (by omega) (by have:=HBE.out.size;simp;omega) ?_));intro v' w5 hown' hgrow _;have hbel5:=(HBE.out.alloc HBE.out.size _).grown hgrow (Nat.le_trans HBE.out.size (by simp)) (fun k hk=>(zct HO.out k hk).1);have HO':=zH hown';have HBE':=zH hbel5;clear hown' hgrow hbel5;go_wp2
   go_ret3
   have hR:=hgo.out.symm.trans HE.out;rw[hR];refine⟨v',rfl,?_,HBE'.out⟩
   have:=HO'.out;rw[show (acc++[(⟨5,[],0,l.length⟩:Tk.Tok)]).length=acc.length+1 by simp,zaC];exact this
def digC (k:Nat):UInt8:=UInt8.ofNat (48+k % 10)
def zaY:Nat→Nat→List UInt8→List UInt8
 | 0,_,s=>s
 | f+1,k,s=>if k>0∨s=[] then zaY f (k / 10) (digC k::s) else s
theorem digC_num (k:Nat):(digC k).toNat=48+k % 10∧Tk.isDig (digC k)=true:=by
 have h1:(digC k).toNat=48+k % 10:=by
  unfold digC;rw[UInt8.toNat_ofNat'];omega
 refine⟨h1,?_⟩;unfold Tk.isDig;rw[h1];simp;omega
theorem zgJ (f k:Nat) (s:List UInt8):(zaY f k s).length≤s.length+f:=by
 induction f generalizing k s with
 | zero=>simp[zaY]
 | succ f ih =>
  rw[zaY];split
  ·
   have:=ih (k / 10) (digC k::s);rw[List.length_cons] at this;omega
  ·
   omega
def TokS (w:World) (A:Option Addr) (ts:List Tk.Tok):Prop :=
 ∀i (h:i<ts.length),∃b,A=some ⟨b,0,none⟩∧w.cell? ⟨b,i*4,none⟩=some (.int .i64 (ts[i].kind:Int))∧w.cell? ⟨b,i*4+1,none⟩=some (.string ⟨ts[i].text.toArray⟩) ∧
  w.cell? ⟨b,i*4+2,none⟩=some (.int .i64 (ts[i].num:Int))∧w.cell? ⟨b,i*4+3,none⟩=some (.int .i64 (ts[i].pos:Int))
theorem TokS.later {w w':World} {A:Option Addr} {ts:List Tk.Tok} (h:TokS w A ts) (hb:Below w.heap.size w w'):TokS w' A ts:=by
 intro i hi;obtain⟨b,e,h0,h1,h2,h3⟩:=h i hi;exact⟨b,e,cell_later hb h0,cell_later hb h1,cell_later hb h2,cell_later hb h3⟩
theorem zgf (ts:List Tk.Tok) (i:Nat) (h:i<ts.length):(zay ts)[i*4]?=some (.int .i64 (ts[i].kind:Int))∧(zay ts)[i*4+1]?=some (.string ⟨ts[i].text.toArray⟩) ∧
  (zay ts)[i*4+2]?=some (.int .i64 (ts[i].num:Int))∧(zay ts)[i*4+3]?=some (.int .i64 (ts[i].pos:Int)):=by
 induction ts generalizing i with
 | nil=>simp at h
 | cons t r ih =>
  have:zay (t::r)=.int .i64 (t.kind:Int)::.string ⟨t.text.toArray⟩::.int .i64 (t.num:Int)::.int .i64 (t.pos:Int)::zay r:=by simp[zay]
  rw[this];cases i with
  | zero=>simp
  | succ j =>
   have:=ih j (by simpa using h);have e:(j+1)*4=j*4+4:=by omega
   rw[e];simpa using this
theorem TokS.of_own {w:World} {base n:Nat} {A:Option Addr} {c:Nat} {ts:List Tk.Tok} (hn:n=ts.length) (h:w.ownsRow base 55 4 (.slice A n c) n (zay ts)):TokS w A ts:=by
 subst hn;intro i hi;have h':=h;obtain⟨_,h2⟩:=h';rcases h2 with⟨_,h0⟩|⟨g,cap,cur,e,_⟩
 ·
  omega
 ·
  injection e with e1 _ e3;subst e1 e3;have hc:=fun j hj=>World.ownsRow.cellAt h j hj;obtain⟨q0,q1,q2,q3⟩:=zgf ts i hi;exact⟨g,rfl,(hc _ (by omega)).trans q0,(hc _ (by omega)).trans q1,(hc _ (by omega)).trans q2,(hc _ (by omega)).trans q3⟩
theorem zh4 (W:World) (g:Nat) (hg:g=W.heap.size) (c0:Value) (t:TypeId) (j:Nat) (u:Value) (hj:[c0][j]?=some u) :
  (W.alloc (.cells #[c0] t)).cell? ((⟨g,0,none⟩:Addr).add j)=some u:=by
 subst hg;have ha:(⟨W.heap.size,0,none⟩:Addr).add j=⟨W.heap.size,j,none⟩:=by
  unfold Addr.add;split
  ·
   simp_all
  ·
   simp
 rw[ha,World.cell?_alloc_mark,←hj];simp
theorem ziy (c:ByteArray):∀u∈[Value.string c],u.oneCell'=true:=by
 intro u hu;simp at hu;subst hu;rfl
theorem Tryz.infoStr:(Tryz.prog.info? 9).map (fun i=>(i.zero,i.size,i.bytes))=some (some (.string ⟨#[]⟩),1,16):=by kernel_rfl
theorem zat {B:Nat} {a w:World} (h:Below B a w) (n:Nat):Below B a (w.drewN n):=⟨h.os,h.tape,h.output,h.size,h.block⟩
theorem zdL {w w':World} {R:List Tk.Tok × Nat × Nat} {e:Ending} (h:zeo w R e w'):∃A c,e=.returned (.tuple #[.slice A R.1.length c,.int .i64 (R.2.1:Int),.int .i64 (R.2.2:Int)])∧TokS w' A R.1∧Below w.heap.size w w':=by
 obtain⟨v,rfl,hown,hb⟩:=h;obtain⟨A,c,rfl⟩:=zb4 hown;exact⟨A,c,rfl,TokS.of_own rfl hown,hb⟩
theorem ziH (f:Nat) (l:List UInt8) (k:Nat) (acc:List Tk.Tok) (h:acc.length≤4000):(Tk.lexGo f l k acc).1.length≤4001:=by
 induction f generalizing k acc with
 | zero=>simp[Tk.lexGo]
 | succ f ih =>
  rw[Tk.lexGo];split
  ·
   simp;omega
  ·
   split
   ·
    simp
   ·
    split
    ·
     simp
    ·
     exact ih _ _ (by simp;omega)
theorem ziE (l:List UInt8):(Tk.lex l).1.length≤4001:=by
 unfold Tk.lex;split
 ·
  simp
 ·
  exact ziH _ _ _ _ (by simp)
theorem bapp (a b:List UInt8):(⟨a.toArray⟩:ByteArray)++(⟨b.toArray⟩:ByteArray)=⟨(a++b).toArray⟩:=by
 apply ByteArray.ext;simp
theorem zeR (s:List UInt8) (w:World):∃c W1,(convert 9 23 (.string ⟨s.toArray⟩)).run Tryz.prog w=.ok (.slice (some ⟨w.heap.size,0,none⟩) s.length c) W1∧Byt W1 (some ⟨w.heap.size,0,none⟩) s∧s.length≤c∧Below w.heap.size w W1:=by
 have h:=run_bytes_of_string (P:=Tryz.prog) w 9 23 5 ⟨s.toArray⟩ Tryz.underlying9 Tryz.underlying23 Tryz.underlying5;have hs:(⟨s.toArray⟩:ByteArray).size=s.length:=by simp[ByteArray.size]
 rw[hs] at h;refine⟨_,_,h,?_,grownCap_ge _ _ _ _,((Below.refl _ _).drew).alloc (lR _) _⟩;intro i hi;refine⟨_,_,rfl,?_⟩;rw[Nat.zero_add];refine(World.cell?_alloc_mark w.drew _ _ _ i).trans ?_;rw[bytesRow_at _ _ i (by simpa using hi)];simp
theorem zh9 (k:Nat) (W:World) (g:Nat) (hg:g=W.heap.size):(convert 23 9 (.slice (some ⟨g,0,none⟩) 1 1)).run Tryz.prog (W.alloc (.cells #[.int .u8 (48+(k:Int) % 10)] 5))=.ok (.string ⟨[digC k].toArray⟩) (W.alloc (.cells #[.int .u8 (48+(k:Int) % 10)] 5)):=by
 subst hg;refine run_convert_bytes_back (P:=Tryz.prog) _ 23 9 5 ⟨W.heap.size,0,none⟩ 1 [digC k] Tryz.underlying23 Tryz.underlying5 Tryz.underlying9 ?_;intro j hj;have hj0:j=0:=by simpa using hj
 subst hj0;have ha:(⟨W.heap.size,0,none⟩:Addr).add 0=⟨W.heap.size,0,none⟩:=by simp[Addr.add]
 rw[ha,World.cell?_alloc_mark]
 have:=(digC_num k).1;simp only[List.getElem_cons_zero,this];simp
theorem zeQ (f k:Nat) (s:List UInt8) (h:k>0∨s=[]):zaY (f+1) k s=zaY f (k / 10) (digC k::s):=by rw[zaY,if_pos h]
theorem zg8 (f k:Nat) (s:List UInt8) (h:¬(k>0∨s=[])):zaY f k s=s:=by
 cases f with
 | zero=>rfl
 | succ f=>rw[zaY,if_neg h]
def Ex.op:Ex→Int|.mk o _ _ _=>o
def Ex.num:Ex→Int|.mk _ n _ _=>n
def Ex.name:Ex→List UInt8|.mk _ _ s _=>s
def Ex.args:Ex→List Ex|.mk _ _ _ l=>l
def zcv (op:Int) (aop:Int) (k:Nat):Bool:=decide (strV aop<strV op)||(strV aop==strV op&&k==1)
theorem za3 {w w1 w2:World} (h1:Below w.heap.size w w1) (h2:Below w1.heap.size w1 w2):Below w.heap.size w w2:=h1.trans (h2.mono h1.size)
theorem zan {w w1 w2:World} (h2:Below w1.heap.size w1 w2) (h1:Below w.heap.size w w1):Below w.heap.size w w2:=h1.trans (h2.mono h1.size)
set_option maxRecDepth 100000 in
set_option maxHeartbeats 1000000 in
theorem ziK (w:World) (f:EF) (b off k:Nat) (aop:Int) (hA:f.A=some ⟨b,off,none⟩) (hk:k<f.n) (hn:f.n≤1000000) (hc:w.cell? ⟨b,off+k*4,none⟩=some (.int .i64 aop)) :
  Calls Tryz.prog 105 #[f.val,.int .i64 (k:Int)] w fun e w'=>e=.returned (.bool (zcv f.op aop k))∧Below w.heap.size w w':=by
 obtain⟨op,num,name,A,n,c⟩:=f;dsimp only at hA hk hn ⊢;subst hA;unfold EF.val;dsimp only;have hbl:b<w.heap.size:=World.block_lt_of_cell? _ _ hc;have hcc:(w.alloc (.cells #[.int .i64 op,.int .i64 num,.string ⟨name.toArray⟩,.slice (some ⟨b,off,none⟩) n c] 68)).cell? ⟨b,off+k*4,none⟩=some (.int .i64 aop):=(World.cell?_alloc_lt _ _ _ hbl).trans hc;have i0:(0:Int)≤(k:Int):=by omega
 have i1:(k:Int)<(n:Int):=by omega
 go_enter Tryz.func105,Tryz.ntmps105;go_wp2;have hb0:Below w.heap.size w (w.alloc (.cells #[.int .i64 op,.int .i64 num,.string ⟨name.toArray⟩,.slice (some ⟨b,off,none⟩) n c] 68)):=(Below.refl _ _).alloc (lR _) _
 go_region_held3 (fun w'=>w'.cell? ⟨w.heap.size,0,none⟩=some (.int .i64 op)∧w'.cell? ⟨w.heap.size,3,none⟩=some (.slice (some ⟨b,off,none⟩) n c)∧w'.cell? ⟨b,off+k*4,none⟩=some (.int .i64 aop)∧Below w.heap.size w w')
  (refine⟨?_,?_,?_,?_⟩<;>first|assumption|(simp[*];done)|(refine Below.drew ?_;assumption))
  (first|(go_at_call 106;refine(zbO _ _).mono ?_;rintro e w' ⟨rfl,hb⟩;obtain⟨k0,k3,kc,hbw⟩:=‹_∧_∧_∧Below w.heap.size w _›;have r0:=cell_later hb k0;have r3:=cell_later hb k3;have rc:=cell_later hb kc;have rb:=zan hb hbw;clear k0 k3 kc hbw hb))
 clear r0 r3 rc;have HB:=zH rb;clear rb;go_wp2
 all_goals
  go_ret;refine⟨zao ?_,HB.out⟩;rw[Bool.eq_iff_iff];simp[zcv];omega
def zbG (n:Int):List UInt8:=if n<0 then 45::zaY 20 (-n).toNat [] else zaY 20 n.toNat []
theorem zfj (n:Nat):zaY 19 (n / 10) [digC n]=zaY 20 n []:=by
 conv=>rhs;rw[show (20:Nat)=19+1 from rfl,zeQ 19 n [] (.inr rfl)]
set_option maxRecDepth 100000 in
set_option maxHeartbeats 1000000 in
theorem zeP (n:Nat) (w:World) (hn:n≤18446744073709551615) :
  Calls Tryz.prog 80 #[.int .u64 (n:Int)] w fun e w'=>e=.returned (.string ⟨(zaY 20 n []).toArray⟩)∧Below w.heap.size w w':=by
 have hcv:=zh9 n w w.heap.size rfl;go_enter Tryz.func80,Tryz.ntmps80;go_wp2;clear hcv
 go_loopw [0,3] (fun i v wr=>∃(k f:Nat) (s:List UInt8),k≤18446744073709551615∧v=.string ⟨s.toArray⟩∧i=.int .u64 k∧s.length+f≤20∧Hid (k<10 ^ f)∧Hid (s≠[]∧zaY f k s=zaY 20 n [])∧Below w.heap.size w wr)
  (fun i _ _=>(intOf i).toNat)
 case atStart=>exact⟨n / 10,19,[digC n],by omega,rfl,by go_num,by simp,by show _<_;omega,⟨by simp,zfj n⟩,(Below.refl _ _).alloc (lR _) _⟩
 case round =>
  obtain⟨k,f,s,hk,rfl,rfl,hsl,hf,hrel,hbel⟩:=hrel;have HBE:=zH hbel;clear hbel;have hcv:=zh9 k wr wr.heap.size rfl;have happ:=bapp;by_cases hk0:0<k
  ·
   have hfpos:Hid (0<f):=by
    have:=hf.out;rcases Nat.eq_zero_or_pos f with h|h
    ·
     subst h;simp at this;omega
    ·
     exact h
   go_wp2;go_roundw
   case rel =>
    have h1:=hf.out;have hfp:=hfpos.out;obtain⟨f',rfl⟩:∃g,f=g+1:=⟨f-1,by omega⟩;refine⟨k / 10,f',digC k::s,by omega,?_,?_,by simp;omega,?_,⟨by simp,?_⟩,HBE.out.alloc HBE.out.size _⟩
    ·
     rfl
    ·
     go_num
    ·
     rw[Nat.pow_succ] at h1;show _<_;omega
    ·
     exact(zeQ f' k s (.inl hk0)).symm.trans hrel.out.2
   case measure =>
    simp[intOf];omega
  ·
   have HD:=zH ((zg8 f k s (by simp[hrel.out.1];omega)).symm.trans hrel.out.2);go_wp2;go_ret;exact⟨by rw[←HD.out];rfl,HBE.out⟩
theorem zhJ (x:Int) (w:World) (h0:0≤x) (h1:x≤18446744073709551615) :
  Calls Tryz.prog 80 #[.int .u64 x] w fun e w'=>e=.returned (.string ⟨(zaY 20 x.toNat []).toArray⟩)∧Below w.heap.size w w':=by
 obtain⟨m,rfl⟩:=Int.eq_ofNat_of_zero_le h0;exact zeP m w (by omega)
theorem zcI (n:Nat):(zaY 20 n []).length≤20:=by
 have:=zgJ 20 n [];simpa using this
theorem zdc (n:Int):(zbG n).length≤21:=by
 unfold zbG;split
 ·
  have:=zcI (-n).toNat;simp;omega
 ·
  have:=zcI n.toNat;omega
set_option maxRecDepth 100000 in
set_option maxHeartbeats 1000000 in
theorem zcm (n:Int) (w:World) (h0:-9223372036854775808≤n) (h1:n≤9223372036854775807) :
  Calls Tryz.prog 54 #[.int .i64 n] w fun e w'=>e=.returned (.string ⟨(zbG n).toArray⟩)∧Below w.heap.size w w':=by
 by_cases hn:n<0
 ·
  have HT:Hid (zbG n=45::zaY 20 (-n).toNat []):=if_pos hn;have happ:=bapp;have hdl:=zcI (-n).toNat;go_enter Tryz.func54,Tryz.ntmps54;go_wp2_with fail;refine(zhJ (-(n+1)+1) w (by omega) (by omega)).mono ?_;rintro e w1 ⟨rfl,hb⟩;rw[show (-(n+1)+1).toNat=(-n).toNat by omega];go_wp2_with fail;go_ret;exact⟨by rw[HT.out];rfl,hb⟩
 ·
  have HT:Hid (zbG n=zaY 20 n.toNat []):=if_neg hn;obtain⟨m,rfl⟩:=Int.eq_ofNat_of_zero_le (show 0≤n by omega);go_enter Tryz.func54,Tryz.ntmps54;go_wp2_with fail;refine(zeP m w (by omega)).mono ?_;rintro e w1 ⟨rfl,hb⟩;go_wp2_with fail;go_ret;exact⟨by rw[HT.out,Int.toNat_natCast];rfl,hb⟩
def zdU:List Int→List (List UInt8)→Int→Option (List UInt8)
 | o::os,s::ss,op=>if o=op then some s else zdU os ss op
 | _,_,_=>none
def zgQ (op:Int):Option (List UInt8):=zdU (sgO (strV op:Int)) (sgS (strV op:Int)) op
def zaR (op num:Int) (name:List UInt8) (ps:List (List UInt8)):List UInt8 :=
 if op=1 then zbG num else if op=2 then name else if op=3 then 45::ps.getD 0 [] else if op=4 then 33::ps.getD 0 [] else
 match zgQ op with
 | some s=>ps.getD 0 []++[32]++s++[32]++ps.getD 1 []
 | none=>[]
mutual
def zal:Ex→List UInt8
 | .mk op num name args=>zaR op num name (zbf op 0 args)
def zbf (op:Int):Nat→List Ex→List (List UInt8)
 | _,[]=>[]
 | k,e::r=>(if zcv op e.op k then 40::(zal e++[41]) else zal e)::zbf op (k+1) r
end
def zbk (op:Int) (k:Nat) (e:Ex):List UInt8:=if zcv op e.op k then 40::(zal e++[41]) else zal e
theorem zcx (op num:Int) (name:List UInt8) (args:List Ex):zal (.mk op num name args)=zaR op num name (zbf op 0 args):=by rw[zal]
theorem zaT (op:Int) (k:Nat) (e:Ex) (r:List Ex):zbf op k (e::r)=zbk op k e::zbf op (k+1) r:=by rw[zbf,zbk]
theorem zbm (op:Int) (k:Nat):zbf op k []=[]:=by rw[zbf]
theorem zgH (op:Int) (k:Nat) (args:List Ex):(zbf op k args).length=args.length:=by
 induction args generalizing k with
 | nil=>rw[zbm];rfl
 | cons e r ih=>rw[zaT,List.length_cons,ih,List.length_cons]
theorem zdO (op:Int) (k:Nat) (args:List Ex) (m:Nat) (h:m<args.length):zbf op k (args.take (m+1))=zbf op k (args.take m)++[zbk op (k+m) args[m]]:=by
 induction args generalizing k m with
 | nil=>simp at h
 | cons e r ih =>
  cases m with
  | zero=>simp[zaT,zbm]
  | succ m =>
   have:=ih (k+1) m (by simpa using h);rw[List.take_succ_cons,List.take_succ_cons,zaT,zaT,this];simp;congr 1;omega
inductive ExOk:Ex→Prop
 | mk (op num:Int) (name:List UInt8) (args:List Ex) (hn:-9223372036854775808≤num∧num≤9223372036854775807)
   (ha:(op=1∨op=2)∧args.length=0∨(op=3∨op=4)∧args.length=1∨5≤op∧op≤17∧args.length=2) (hs:∀i (h:i<args.length),ExOk args[i]):ExOk (.mk op num name args)
theorem zdb (op:Int) (h:5≤op∧op≤17):∃s,zgQ op=some s∧s.length≤2:=by
 have hc:op=5∨op=6∨op=7∨op=8∨op=9∨op=10∨op=11∨op=12∨op=13∨op=14∨op=15∨op=16∨op=17:=by omega
 rcases hc with rfl|rfl|rfl|rfl|rfl|rfl|rfl|rfl|rfl|rfl|rfl|rfl|rfl<;>exact⟨_,rfl,by decide⟩
theorem zgi (os:List Int) (ss:List (List UInt8)) (op:Int) (m:Nat) (h:m<os.length) (h':m<ss.length) (he:os[m]=op) (hn:op∉os.take m):zdU os ss op=some ss[m]:=by
 induction os generalizing ss m with
 | nil=>simp at h
 | cons o os ih =>
  cases ss with
  | nil=>simp at h'
  | cons s ss =>
   rw[zdU];cases m with
   | zero =>
    simp at he;rw[if_pos he];rfl
   | succ m =>
    simp at hn he;rw[if_neg (fun e=>hn.1 e.symm),ih ss m (by simpa using h) (by simpa using h') he hn.2];simp
theorem sg_len (level:Int):(sgS level).length=(sgO level).length:=by
 unfold sgS sgO;split<;>rfl
theorem sg_mem (op:Int) (h:5≤op∧op≤17):op∈sgO (strV op:Int):=by
 have hc:op=5∨op=6∨op=7∨op=8∨op=9∨op=10∨op=11∨op=12∨op=13∨op=14∨op=15∨op=16∨op=17:=by omega
 rcases hc with rfl|rfl|rfl|rfl|rfl|rfl|rfl|rfl|rfl|rfl|rfl|rfl|rfl<;>decide
theorem sgS_len2 (level:Int) (m:Nat) (h:m<(sgS level).length):((sgS level)[m]).length≤2:=by
 have hm:=List.getElem_mem h;generalize (sgS level)[m]=x at hm;unfold sgS at hm;split at hm<;>simp at hm<;>(first|(subst hm;decide)|(rcases hm with h|h|h|h|h|h<;>subst h<;>decide)|(rcases hm with h|h|h<;>subst h<;>decide)|(rcases hm with h|h<;>subst h<;>decide))
theorem zdT (op num:Int) (name:List UInt8) (args:List Ex) (i:Nat) (h:i<args.length):SizeOf.sizeOf args[i]<SizeOf.sizeOf (Ex.mk op num name args):=by
 have h1:=List.sizeOf_lt_of_mem (List.getElem_mem h);have h2:SizeOf.sizeOf args<SizeOf.sizeOf (Ex.mk op num name args):=by simp;omega
 omega
theorem ExM.op_eq {w:World} {S:Nat→Prop} {E:Ex} {f:EF} (h:ExM w S E f):f.op=E.op:=by
 cases h;rfl
theorem ExM.later {w w':World} {S:Nat→Prop} {E:Ex} {f:EF} (h:ExM w S E f) (hb:Below w.heap.size w w'):ExM w' S E f:=h.keep fun b _ hlt=>hb.block b hlt
theorem part_le (op num:Int) (name:List UInt8) (args:List Ex) (hok:ExOk (.mk op num name args)) (i:Nat) (h:i<args.length):(zal args[i]).length≤(zal (.mk op num name args)).length∧(zbk op i args[i]).length≤(zal (.mk op num name args)).length:=by
 have hp:(zal args[i]).length≤(zbk op i args[i]).length:=by
  unfold zbk;split
  ·
   simp;omega
  ·
   exact lR _
 suffices hq:(zbk op i args[i]).length≤(zal (.mk op num name args)).length from ⟨Nat.le_trans hp hq,hq⟩
 rw[zcx];cases hok with
 | mk _ _ _ _ hn ha hs =>
  rcases ha with⟨_,h0⟩|⟨ho,h1⟩|⟨o1,o2,h2⟩
  ·
   omega
  ·
   obtain⟨a,rfl⟩:∃a,args=[a]:=List.length_eq_one_iff.1 h1
   have:i=0:=by simpa using h
   subst this;simp only[zaT,zbm,List.getElem_cons_zero];unfold zaR;rw[if_neg (by omega),if_neg (by omega)];rcases ho with rfl|rfl
   ·
    simp
   ·
    simp
  ·
   obtain⟨a,b,rfl⟩:∃a b,args=[a,b]:=by
    match args,h2 with
    | [a,b],_=>exact⟨a,b,rfl⟩
   obtain⟨s,hs,_⟩:=zdb op ⟨o1,o2⟩;simp only[zaT,zbm];unfold zaR;rw[if_neg (by omega),if_neg (by omega),if_neg (by omega),if_neg (by omega),hs];have hi:i=0∨i=1:=by simp at h;omega
   rcases hi with rfl|rfl
   ·
    simp
   ·
    simp;omega
theorem zg4 (w:World) (op num:Int) (name:List UInt8) (A:Option Addr) (n c b off k:Nat) (aop:Int) (hA:A=some ⟨b,off,none⟩) (hk:k<n) (hn:n≤1000000) (hc:w.cell? ⟨b,off+k*4,none⟩=some (.int .i64 aop)) :
  Calls Tryz.prog 105 #[.agg #[.int .i64 op,.int .i64 num,.string ⟨name.toArray⟩,.slice A n c],.int .i64 (k:Int)] w fun e w'=>e=.returned (.bool (zcv op aop k))∧Below w.heap.size w w' :=
 ziK w ⟨op,num,name,A,n,c⟩ b off k aop hA hk hn hc
def zcC (l:List (List UInt8)):List Value:=l.map fun s=>Value.string ⟨s.toArray⟩
theorem zdk (l:List (List UInt8)) (s:List UInt8):zcC (l++[s])=zcC l++[.string ⟨s.toArray⟩]:=by simp[zcC]
theorem zfT {w:World} {base:Nat} {e:TypeId} {size n c:Nat} {A:Option Addr} {xs:List Value} (h:w.ownsRow base e size (.slice A n c) n xs) (hn:0<n):∃g,A=some ⟨g,0,none⟩:=by
 rcases h.2 with⟨_,h0⟩|⟨g,cap,cur,e,_⟩
 ·
  omega
 ·
  injection e with e1;exact⟨g,e1⟩
theorem zg5 {w wr W w5:World} {o0 o:Obj} {e size n:Nat} {v:Value} {xs:List Value} (ho:wr.ownsRow (w.heap.size+1) e size v n xs) (hw:Below (w.alloc o0).heap.size (w.alloc o0) wr) (hb:Below wr.heap.size wr W)
  (hg:(W.alloc o).grownBy w5 v.ownBlock):Below (w.alloc o0).heap.size (w.alloc o0) w5:=by
 have h1:=hw.size;have h2:=hb.size;exact((hw.trans (hb.mono h1)).alloc (by omega) _).grown hg (by simp at *;omega) (fun k hk=>by have:=(zct ho k hk).1;simp;omega)
set_option maxRecDepth 100000 in
set_option maxHeartbeats 4000000 in
theorem zhT (N:Nat):∀(E:Ex) (op num:Int) (name:List UInt8) (A:Option Addr) (n c:Nat) (w:World),SizeOf.sizeOf E<N→ExOk E→(zal E).length≤1000000000→ExM w (fun _=>True) E ⟨op,num,name,A,n,c⟩ →
  Calls Tryz.prog 81 #[.agg #[.int .i64 op,.int .i64 num,.string ⟨name.toArray⟩,.slice A n c]] w fun e w'=>e=.returned (.string ⟨(zal E).toArray⟩)∧Below w.heap.size w w':=by
 induction N with
 | zero=>intro E op num name A n c w h;omega
 | succ N ih =>
  intro E op num name A n c w hN hok hlen hM;obtain⟨i0,hi,hz0,hz1,hz2⟩:=info_parts Tryz.infoStr;have IH:=zH ih;clear ih;cases hM with
  | mk _ _ _ args _ _ F hc hs =>
  have HOK:=zH hok;have HLEN:=zH hlen;have HC:=zH hc;have HS:=zH hs;have hsz:=fun i h=>zdT op num name args i h;have HSZ:=zH hsz;have HPL:=zH (part_le op num name args hok);have hal:args.length≤2:=by
   cases hok with
   | mk _ _ _ _ hn ha hs=>omega
  have HIO:Hid (∀i (h:i<args.length),ExOk args[i]):=by
   cases hok with
   | mk _ _ _ _ hn ha hs=>exact hs
  clear hok hlen hc hs hsz;have hb0:Below w.heap.size w (w.alloc (.cells #[.int .i64 op,.int .i64 num,.string ⟨name.toArray⟩,.slice A args.length c] 68)):=(Below.refl _ _).alloc (lR _) _;have HB0:=zH hb0;clear hb0;go_enter Tryz.func81,Tryz.ntmps81;go_wp2_with fail
  go_loopw [3,4,5] (fun v i _ wr=>∃k:Nat,k≤args.length∧i=.int .i64 k∧wr.ownsRow (w.heap.size+1) 9 1 v k (zcC (zbf op 0 (args.take k)))∧Below (w.alloc (.cells #[.int .i64 op,.int .i64 num,.string ⟨name.toArray⟩,.slice A args.length c] 68)).heap.size (w.alloc (.cells #[.int .i64 op,.int .i64 num,.string ⟨name.toArray⟩,.slice A args.length c] 68)) wr)
   (fun _ i _ _=>args.length-(intOf i).toNat)
  case atStart=>exact⟨0,Nat.zero_le _,rfl,by rw[List.take_zero,zbm];exact World.ownsRow_nil _ _ _ _,Below.refl _ _⟩
  case round =>
   obtain⟨k,hk,rfl,hown,hbel⟩:=hrel;obtain⟨q0,q1,q2,q3,f0,f1,f2,f3,hz⟩:=zaX hbel;have HO:=zH hown;have HBE:=zH hbel;have HBW:=zH (za3 HB0.out hbel);clear hown hbel f0 f1 f2 f3;by_cases hlt:k<args.length
   ·
    obtain⟨b,off,rfl,-,hat⟩:=HC.out k hlt;have hat1:=hat.keep (HBW.out.block b hat.lt);obtain⟨a0,a1,a2,a3⟩:=hat1;obtain⟨sa,sc,rfl⟩:=zb4 HO.out;have HCH:=zH ((HS.out k hlt).later HBW.out);have hopq:Hid ((F k).op=args[k].op):=(HS.out k hlt).op_eq;have HPK:=zH (HPL.out k hlt);go_wp2_with fail;refine(IH.out args[k] (F k).op (F k).num (F k).name (F k).A (F k).n (F k).c wr (by have:=HSZ.out k hlt;omega) (HIO.out k hlt) (Nat.le_trans HPK.out.1 HLEN.out) HCH.out).mono ?_;rintro e w1 ⟨rfl,hb1⟩;have q0':=cell_later hb1 q0;have q1':=cell_later hb1 q1;have q2':=cell_later hb1 q2;have q3':=cell_later hb1 q3;have a0':=cell_later hb1 a0;have HB1:=zH hb1;clear hb1 q0 q1 q2 q3 a0 a1 a2 a3;have htl:Hid ((zal args[k]).length≤1000000000):=Nat.le_trans HPK.out.1 HLEN.out;have hpt:zbk op k args[k]=if zcv op args[k].op k then 40::(zal args[k]++[41]) else zal args[k]:=rfl;rw[←hopq.out] at hpt;have HPT0:=zH hpt;clear hpt;generalize zal args[k]=T at *;go_wp2_with fail;refine(zg4 w1 op num name _ args.length c b off k (F k).op rfl hlt (by omega) a0').mono ?_;rintro e w2 ⟨rfl,hb2⟩;have HBX:=zH (za3 HB1.out hb2);clear hb2 q0' q1' q2' q3' a0';have hTl:=htl.out;have happ:=bapp;by_cases hin:zcv op (F k).op k=true
    ·
     have HPT:Hid (zbk op k args[k]=40::(T++[41])):=by rw[HPT0.out,if_pos hin];rfl
     clear HPT0;go_wp2_with (first|(at_builtin;refine wpList_append_own _ rfl (.tmp 28) (.tmp 30) 26 rfl (w.heap.size+1) 9 i0 _ 1 16 Tryz.underlying26 hi hz0 hz1 hz2 rfl (by decide) _ k (zcC (zbf op 0 (args.take k))) rfl ((zaW HO.out HBX.out).alloc _) ⟨w2.heap.size,0,none⟩ 1 1 [.string ⟨(40::(T++[41])).toArray⟩] rfl rfl (zh4 w2 w2.heap.size rfl _ _) (ziy _) (by unfold maxLen;omega) (by omega) (by have:=HBX.out.size;simp;omega) ?_));intro v' w5 hown' hgrow _;have hbel5:=zg5 HO.out HBE.out HBX.out hgrow;have HO':=zH hown';have HBE':=zH hbel5;clear hown' hgrow hbel5;go_wp2_with fail;go_roundw
     case rel =>
      refine⟨k+1,by omega,by go_num,?_,HBE'.out⟩;rw[zdO op 0 args k hlt,Nat.zero_add,zdk,HPT.out];exact HO'.out
     case measure=>simp[intOf];omega
    ·
     have hin':zcv op (F k).op k=false:=by simpa using hin
     have HPT:Hid (zbk op k args[k]=T):=by rw[HPT0.out,if_neg hin];rfl
     clear HPT0 hin;go_wp2_with (first|(at_builtin;refine wpList_append_own _ rfl (.tmp 28) (.tmp 30) 26 rfl (w.heap.size+1) 9 i0 _ 1 16 Tryz.underlying26 hi hz0 hz1 hz2 rfl (by decide) _ k (zcC (zbf op 0 (args.take k))) rfl ((zaW HO.out HBX.out).alloc _) ⟨w2.heap.size,0,none⟩ 1 1 [.string ⟨(T).toArray⟩] rfl rfl (zh4 w2 w2.heap.size rfl _ _) (ziy _) (by unfold maxLen;omega) (by omega) (by have:=HBX.out.size;simp;omega) ?_));intro v' w5 hown' hgrow _;have hbel5:=zg5 HO.out HBE.out HBX.out hgrow;have HO':=zH hown';have HBE':=zH hbel5;clear hown' hgrow hbel5;go_wp2_with fail;go_roundw
     case rel =>
      refine⟨k+1,by omega,by go_num,?_,HBE'.out⟩;rw[zdO op 0 args k hlt,Nat.zero_add,zdk,HPT.out];exact HO'.out
     case measure=>simp[intOf];omega
   ·
    have hke:k=args.length:=by omega
    have HO2:Hid (wr.ownsRow (w.heap.size+1) 9 1 u3 args.length (zcC (zbf op 0 args))):=by
     have:=HO.out;rw[List.take_of_length_le (by omega),hke] at this;exact this
    clear HO;have hokk:=HOK.out;obtain⟨hnum,hcase⟩:(-9223372036854775808≤num∧num≤9223372036854775807)∧((op=1∨op=2)∧args.length=0∨(op=3∨op=4)∧args.length=1∨5≤op∧op≤17∧args.length=2):=by
     cases hokk with
     | mk _ _ _ _ hn ha hs=>exact⟨hn,ha⟩
    clear hokk;have hTX:zal (.mk op num name args)=zaR op num name (zbf op 0 args):=zcx op num name args;rw[hTX] at HLEN;have HTX:=zH hTX;clear hTX HPL HSZ IH;have happ:=bapp;have HP2:=zH (zgH op 0 args);generalize zbf op 0 args=ps at *;by_cases c1:op=1
    ·
     have HF:Hid (zaR op num name ps=zbG num):=if_pos c1;have t1:=bT (show op=1 by omega);have HNM:=zH hnum;clear c1 hcase hnum;go_wp2_with fail;refine(zcm num _ HNM.out.1 HNM.out.2).mono ?_;rintro e w1 ⟨rfl,hb1⟩;go_wp2_with fail;go_ret;exact⟨by rw[HTX.out,HF.out];rfl,za3 HBW.out hb1⟩
    ·
     by_cases c2:op=2
     ·
      have HF:Hid (zaR op num name ps=name):=by unfold zaR;rw[if_neg c1,if_pos c2];rfl
      have t1:=bF (show op≠1 by omega);have t2:=bT (show op=2 by omega);clear c1 c2 hcase hnum;go_wp2_with fail;go_ret;exact⟨by rw[HTX.out,HF.out];rfl,HBW.out⟩
     ·
      by_cases c34:op=3∨op=4
      ·
       have h1:args.length=1:=by omega
       have h1p:ps.length=1:=by rw[HP2.out];exact h1
       obtain⟨p0,rfl⟩:∃a,ps=[a]:=List.length_eq_one_iff.1 h1p;obtain⟨sa,sc,rfl⟩:=zb4 HO2.out;rw[h1] at HO2;obtain⟨g,hgv⟩:=zfT HO2.out (by omega);subst hgv;have r0:wr.cell? ⟨g,0,none⟩=some (.string ⟨p0.toArray⟩):=World.ownsRow.cellAt HO2.out 0 (by omega);have hlen1:(zaR op num name [p0]).length=p0.length+1:=by
        unfold zaR;rw[if_neg c1,if_neg c2];rcases c34 with h|h
        ·
         rw[if_pos h];rfl
        ·
         rw[if_neg (by omega),if_pos h];rfl
       have hpl:p0.length≤1000000000:=by have:=HLEN.out;omega
       have hpos1:0<args.length:=by omega
       clear hlen1;by_cases c3:op=3
       ·
        have HF:Hid (zaR op num name [p0]=45::p0):=by unfold zaR;rw[if_neg c1,if_neg c2,if_pos c3];rfl
        have t1:=bF (show op≠1 by omega);have t2:=bF (show op≠2 by omega);have t3:=bT (show op=3 by omega);have H1:=zH h1;clear c1 c2 c3 c34 hcase hnum h1p h1 hke;go_wp2_with fail;go_ret;exact⟨by rw[HTX.out,HF.out];rfl,HBW.out⟩
       ·
        have c4:op=4:=by omega
        have HF:Hid (zaR op num name [p0]=33::p0):=by unfold zaR;rw[if_neg c1,if_neg c2,if_neg c3,if_pos c4];rfl
        have t1:=bF (show op≠1 by omega);have t2:=bF (show op≠2 by omega);have t3:=bF (show op≠3 by omega);have t4:=bT (show op=4 by omega);clear c1 c2 c3 c4 c34 hcase hnum h1p h1 hke;go_wp2_with fail;go_ret;exact⟨by rw[HTX.out,HF.out];rfl,HBW.out⟩
      ·
       have hop:5≤op∧op≤17:=by omega
       have h2:args.length=2:=by omega
       have h2p:ps.length=2:=by rw[HP2.out];exact h2
       obtain⟨p0,p1,rfl⟩:∃a b,ps=[a,b]:=by
        match ps,h2p with
        | [a,b],_=>exact⟨a,b,rfl⟩
       have t1:=bF (show op≠1 by omega);have t2:=bF (show op≠2 by omega);have t3:=bF (show op≠3 by omega);have t4:=bF (show op≠4 by omega);obtain⟨sa,sc,rfl⟩:=zb4 HO2.out;rw[h2] at HO2;obtain⟨g,hgv⟩:=zfT HO2.out (by omega);subst hgv;have r0:wr.cell? ⟨g,0,none⟩=some (.string ⟨p0.toArray⟩):=World.ownsRow.cellAt HO2.out 0 (by omega);have r1:wr.cell? ⟨g,1,none⟩=some (.string ⟨p1.toArray⟩):=World.ownsRow.cellAt HO2.out 1 (by omega);have hpos1:0<args.length:=by omega
       have hpos2:1<args.length:=by omega
       have HOP:=zH hop;have HLE2:Hid (p0.length+p1.length≤1000000000):=by
        have h:=HLEN.out;obtain⟨sg,hsg,_⟩:=zdb op hop;have hf:zaR op num name [p0,p1]=p0++[32]++sg++[32]++p1:=by
         unfold zaR;rw[if_neg c1,if_neg c2,if_neg (fun h=>c34 (.inl h)),if_neg (fun h=>c34 (.inr h)),hsg];rfl
        rw[hf] at h;simp at h;show _≤_;omega
       have HFIN:Hid (∀sg,zgQ op=some sg→zaR op num name [p0,p1]=p0++[32]++sg++[32]++p1):=by
        intro sg hsg;unfold zaR;rw[if_neg c1,if_neg c2,if_neg (fun h=>c34 (.inl h)),if_neg (fun h=>c34 (.inr h)),hsg];rfl
       clear hnum c1 c2 c34 hop h2 h2p hcase hke q1 q2;go_wp2_with fail;refine(zbO op wr).mono ?_;rintro e w1 ⟨rfl,hb1⟩;have HB1:=zH hb1;clear hb1;go_wp2_with fail;refine(zfy (strV op:Int) w1).mono ?_;rintro e w2 ⟨sb,ob,rfl,hSS,hII,hb2⟩;have HB2:=zH (za3 HB1.out hb2);have s0:=cell_later HB2.out r0;have s1:=cell_later HB2.out r1;have s2:=cell_later HB2.out q0;have HSS:=zH hSS;have HII:=zH hII;have HLL:=zH (sg_len (strV op:Int));have hl6:=zi2 (strV op:Int);have HMEM:=zH (sg_mem op HOP.out);clear hb2 hSS hII r0 r1 q0 q3;have HSO:Hid (∀m (h:m<(sgO (strV op:Int)).length) (h':m<(sgS (strV op:Int)).length),(sgO (strV op:Int))[m]=op→op∉(sgO (strV op:Int)).take m→zgQ op=some (sgS (strV op:Int))[m]):=fun m h h' he hn=>zgi _ _ op m h h' he hn;have HS2:Hid (∀m (h:m<(sgS (strV op:Int)).length),((sgS (strV op:Int))[m]).length≤2):=fun m h=>sgS_len2 _ m h;generalize sgO (strV op:Int)=L at *;generalize sgS (strV op:Int)=SS at *;go_wp2_with fail
       go_loopw [8] (fun i wz=>∃m nq:Nat,m≤L.length∧i=.int .i64 m∧Hid (op∉L.take m)∧w2.drewN nq=wz) (fun i _=>L.length-(intOf i).toNat)
       case atStart=>exact⟨0,0,by omega,rfl,by show _∉_;simp,rfl⟩
       case round =>
        obtain⟨m,nq,hm,rfl,hrel2,rfl⟩:=hrel;by_cases hlt2:m<L.length
        ·
         have hlt3:m<SS.length:=by rw[HLL.out];exact hlt2
         obtain⟨b2,off2,hA2,hcI⟩:=HII.out m hlt2;obtain⟨b3,off3,hA3,hcS⟩:=HSS.out m hlt3;injection hA2 with hA2;injection hA2 with e1 e2;subst e1 e2;injection hA3 with hA3;injection hA3 with e1 e2;subst e1 e2;rw[Nat.zero_add] at hcI hcS;have j0:(0:Int)≤(m:Int):=by omega
         have j1:(m:Int)<(L.length:Int):=by omega
         have j2:(m:Int)<(SS.length:Int):=by omega
         by_cases he:L[m]=op
         ·
          have HE:=zH (HFIN.out _ (HSO.out m hlt2 hlt3 he hrel2.out));have hsl:=HS2.out m hlt3;have t9:=bT he;clear he;have hl2:=HLE2.out;go_wp2_with fail
          go_quiet (fail)
          go_wp2_with fail
          go_quiet (fail)
          go_wp2_with fail;go_ret;refine⟨?_,zat (zat (zat (za3 HBW.out HB2.out) _) _) _⟩;rw[HTX.out,HE.out];simp
         ·
          have t9:=bF he;have HE:=zH (zeM L op m hlt2 hrel2.out he);clear he;go_wp2_with fail
          go_quiet (fail)
          go_wp2_with fail;go_roundw
          case rel=>exact⟨m+1,_,by omega,by go_num,HE,rfl⟩
          case measure=>simp[intOf];omega
        ·
         exfalso
         have:=hrel2.out;rw[List.take_of_length_le (by omega)] at this;exact this HMEM.out
mutual
def exHt:Ex→Nat
 | .mk op _ _ args=>zd6 op 0 args 0+(if strV op=5 then 1 else 0)
def zd6 (op:Int):Nat→List Ex→Nat→Nat
 | _,[],h=>h
 | k,e::r,h=>zd6 op (k+1) r (max h (exHt e+(if zcv op e.op k then 1 else 0)))
end
def zcw (op:Int) (k:Nat) (e:Ex):Nat:=exHt e+(if zcv op e.op k then 1 else 0)
theorem zdB (op num:Int) (name:List UInt8) (args:List Ex):exHt (.mk op num name args)=zd6 op 0 args 0+(if strV op=5 then 1 else 0):=by rw[exHt]
theorem zbj (op:Int) (k:Nat) (e:Ex) (r:List Ex) (h:Nat):zd6 op k (e::r) h=zd6 op (k+1) r (max h (zcw op k e)):=by rw[zd6,zcw]
theorem zbQ (op:Int) (k h:Nat):zd6 op k [] h=h:=by rw[zd6]
theorem zeO (op:Int) (k:Nat) (args:List Ex) (m h:Nat) (hm:m<args.length):zd6 op k (args.take (m+1)) h=max (zd6 op k (args.take m) h) (zcw op (k+m) args[m]):=by
 induction args generalizing k m h with
 | nil=>simp at hm
 | cons e r ih =>
  cases m with
  | zero=>simp[zbj,zbQ]
  | succ m =>
   have:=ih (k+1) m (max h (zcw op k e)) (by simpa using hm);rw[List.take_succ_cons,List.take_succ_cons,zbj,zbj,this];congr 2;omega
theorem exHts_ge (op:Int) (k:Nat) (args:List Ex) (h:Nat):h≤zd6 op k args h:=by
 induction args generalizing k h with
 | nil=>rw[zbQ];exact lR _
 | cons e r ih =>
  rw[zbj];exact Nat.le_trans (Nat.le_max_left _ _) (ih _ _)
theorem zhH (op:Int) (k:Nat) (args:List Ex) (m h:Nat):zd6 op k (args.take m) h≤zd6 op k args h:=by
 induction args generalizing k m h with
 | nil=>simp
 | cons e r ih =>
  cases m with
  | zero=>rw[List.take_zero,zbQ];exact exHts_ge _ _ _ _
  | succ m=>rw[List.take_succ_cons,zbj,zbj];exact ih _ _ _
theorem zhI (op:Int) (args:List Ex) (m:Nat) (hm:m<args.length):zcw op m args[m]≤zd6 op 0 args 0:=by
 have h1:=zeO op 0 args m 0 hm;have h2:=zhH op 0 args (m+1) 0;rw[Nat.zero_add] at h1;omega
inductive ExB:Ex→Prop
 | mk (op num:Int) (name:List UInt8) (args:List Ex) (hl:args.length≤1000000) (hn:name.length≤9223372036854775807) (hs:∀i (h:i<args.length),ExB args[i]):ExB (.mk op num name args)
set_option maxRecDepth 100000 in
set_option maxHeartbeats 4000000 in
theorem zgD (N:Nat):∀(E:Ex) (op num:Int) (name:List UInt8) (A:Option Addr) (n c:Nat) (w:World),SizeOf.sizeOf E<N→ExB E→exHt E≤1000000000→ExM w (fun _=>True) E ⟨op,num,name,A,n,c⟩ →
  Calls Tryz.prog 104 #[.agg #[.int .i64 op,.int .i64 num,.string ⟨name.toArray⟩,.slice A n c]] w fun e w'=>e=.returned (.int .i64 (exHt E:Int))∧Below w.heap.size w w':=by
 induction N with
 | zero=>intro E op num name A n c w h;omega
 | succ N ih =>
  intro E op num name A n c w hN hok hlen hM;have IH:=zH ih;clear ih;cases hM with
  | mk _ _ _ args _ _ F hc hs =>
  have HC:=zH hc;have HS:=zH hs;have hsz:=fun i h=>zdT op num name args i h;have HSZ:=zH hsz;have HTX:=zH (zdB op num name args);have HLEN:Hid (zd6 op 0 args 0≤1000000000):=by rw[zdB] at hlen;show _≤_;omega
  have hal:args.length≤1000000:=by
   cases hok with
   | mk _ _ _ _ hl hn hs=>exact hl
  have HIO:Hid (∀i (h:i<args.length),ExB args[i]):=by
   cases hok with
   | mk _ _ _ _ hl hn hs=>exact hs
  clear hok hlen hc hs hsz;have hb0:Below w.heap.size w (w.alloc (.cells #[.int .i64 op,.int .i64 num,.string ⟨name.toArray⟩,.slice A args.length c] 68)):=(Below.refl _ _).alloc (lR _) _;have HB0:=zH hb0;clear hb0;go_enter Tryz.func104,Tryz.ntmps104;go_wp2_with fail
  go_loopw [3,4,5] (fun v i _ wr=>∃k h:Nat,k≤args.length∧i=.int .i64 k∧v=.int .i64 h∧h≤1000000000∧Hid (h=zd6 op 0 (args.take k) 0)∧Below (w.alloc (.cells #[.int .i64 op,.int .i64 num,.string ⟨name.toArray⟩,.slice A args.length c] 68)).heap.size (w.alloc (.cells #[.int .i64 op,.int .i64 num,.string ⟨name.toArray⟩,.slice A args.length c] 68)) wr)
   (fun _ i _ _=>args.length-(intOf i).toNat)
  case atStart=>exact⟨0,0,Nat.zero_le _,rfl,rfl,by omega,by rw[List.take_zero,zbQ];rfl,Below.refl _ _⟩
  case round =>
   obtain⟨k,h,hk,rfl,rfl,hh,hrel,hbel⟩:=hrel;obtain⟨q0,q1,q2,q3,f0,f1,f2,f3,hz⟩:=zaX hbel;have HBE:=zH hbel;have HBW:=zH (za3 HB0.out hbel);clear hbel f0 f1 f2 f3;by_cases hlt:k<args.length
   ·
    obtain⟨b,off,rfl,-,hat⟩:=HC.out k hlt;have hat1:=hat.keep (HBW.out.block b hat.lt);obtain⟨a0,a1,a2,a3⟩:=hat1;have HCH:=zH ((HS.out k hlt).later HBW.out);have hopq:Hid ((F k).op=args[k].op):=(HS.out k hlt).op_eq;have hpt:zcw op k args[k]=exHt args[k]+(if zcv op args[k].op k then 1 else 0):=rfl;have hpl:=zhI op args k hlt;have hTl:exHt args[k]≤1000000000:=by have:=HLEN.out;omega
    have hpl2:zcw op k args[k]≤1000000000:=by have:=HLEN.out;omega
    have HSN:=zH (zeO op 0 args k 0 hlt);rw[←hopq.out] at hpt;have HPT0:=zH hpt;clear hpt hpl;go_wp2_with fail;refine(IH.out args[k] (F k).op (F k).num (F k).name (F k).A (F k).n (F k).c wr (by have:=HSZ.out k hlt;omega) (HIO.out k hlt) hTl HCH.out).mono ?_;rintro e w1 ⟨rfl,hb1⟩;have q0':=cell_later hb1 q0;have q1':=cell_later hb1 q1;have q2':=cell_later hb1 q2;have q3':=cell_later hb1 q3;have a0':=cell_later hb1 a0;have HB1:=zH hb1;clear hb1 q0 q1 q2 q3 a0 a1 a2 a3;generalize exHt args[k]=T at *;go_wp2_with fail;refine(zg4 w1 op num name _ args.length c b off k (F k).op rfl hlt (by omega) a0').mono ?_;rintro e w2 ⟨rfl,hb2⟩;have HBX:=zH (za3 HB1.out hb2);have HBN:Hid (Below (w.alloc (.cells #[.int .i64 op,.int .i64 num,.string ⟨name.toArray⟩,.slice (some ⟨b,off,none⟩) args.length c] 68)).heap.size (w.alloc (.cells #[.int .i64 op,.int .i64 num,.string ⟨name.toArray⟩,.slice (some ⟨b,off,none⟩) args.length c] 68)) w2):=za3 HBE.out HBX.out;clear hb2 q0' q1' q2' q3' a0';by_cases hin:zcv op (F k).op k=true
    ·
     have HPT:Hid (zcw op k args[k]=T+1):=by rw[HPT0.out,if_pos hin];rfl
     have hTT:T+1≤1000000000:=by have:=HPT.out;omega
     clear HPT0;go_wp2_with fail;go_roundw
     case rel =>
      refine⟨k+1,max h (T+1),by omega,by go_num,?_,by omega,?_,HBN.out⟩
      ·
       congr 1;omega
      ·
       show _=_;rw[HSN.out,Nat.zero_add,HPT.out,←hrel.out]
     case measure=>simp[intOf];omega
    ·
     have hin':zcv op (F k).op k=false:=by simpa using hin
     have HPT:Hid (zcw op k args[k]=T):=by rw[HPT0.out,if_neg hin];rfl
     clear HPT0 hin;go_wp2_with fail;go_roundw
     case rel =>
      refine⟨k+1,max h (T),by omega,by go_num,?_,by omega,?_,HBN.out⟩
      ·
       congr 1;omega
      ·
       show _=_;rw[HSN.out,Nat.zero_add,HPT.out,←hrel.out]
     case measure=>simp[intOf];omega
   ·
    have hke:Hid (args.take k=args):=List.take_of_length_le (by omega);go_wp2_with fail;refine(zbO op wr).mono ?_;rintro e w1 ⟨rfl,hb1⟩;have HB1:=zH (za3 HBW.out hb1);clear hb1 q1 q2 q3 q0;by_cases h5:strV op=5
    ·
     have t5:=bT (show ((strV op:Nat):Int)=5 by omega);have HF:Hid (exHt (.mk op num name args)=h+1):=by rw[HTX.out,if_pos h5,hrel.out,hke.out];rfl
     clear h5;go_wp2_with fail;go_ret;exact⟨zaz (by rw[HF.out];omega),HB1.out⟩
    ·
     have t5:=bF (show ((strV op:Nat):Int)≠5 by omega);have HF:Hid (exHt (.mk op num name args)=h):=by rw[HTX.out,if_neg h5,hrel.out,hke.out];rfl
     clear h5;go_wp2_with fail;go_ret;exact⟨zaz (by rw[HF.out]),HB1.out⟩
def zdP (i:Nat) (c:UInt8):Bool:=Tk.isLet c||(i != 0&&Tk.isDig c)
def zdC (s:List UInt8):Prop:=∀i (h:i<s.length),zdP i s[i]=true
instance (s:List UInt8):Decidable (zdC s):=by unfold zdC;infer_instance
def zax (s:List UInt8):Bool:=decide (zdC s)&&(decide (1≤s.length)&&decide (s.length≤16)&&!Tk.resv s)
set_option maxRecDepth 100000 in
set_option maxHeartbeats 1000000 in
theorem zbM (s:List UInt8) (w:World) (hl:s.length≤9223372036854775807) :
  Calls Tryz.prog 52 #[.string ⟨s.toArray⟩] w fun e w'=>e=.returned (.bool (zax s))∧Below w.heap.size w w':=by
 go_enter Tryz.func52,Tryz.ntmps52;go_wp2_with fail
 go_loop [3] (fun i=>∃m:Nat,m≤s.length∧i=.int .i64 m∧Hid (∀j (_:j<m) (h:j<s.length),zdP j s[j]=true)) (fun i=>s.length-(intOf i).toNat)
 case atStart=>exact⟨0,by omega,rfl,fun j hj=>absurd hj (by omega)⟩
 case round =>
  obtain⟨m,hm,rfl,hrel⟩:=hrel;by_cases hlt:m<s.length
  ·
   have hsz:m<(⟨s.toArray⟩:ByteArray).size:=by simpa[ByteArray.size] using hlt
   have hby:(⟨s.toArray⟩:ByteArray)[m]'hsz=s[m]:=rfl;by_cases hL:Tk.isLet s[m]=true
   ·
    have HE:Hid (∀j (_:j<m+1) (h:j<s.length),zdP j s[j]=true):=by
     intro j hj h;by_cases hjm:j=m
     ·
      subst hjm;simp[zdP,hL]
     ·
      exact hrel.out j (by omega) h
    go_wp2_with (first|(go_at_call 19;refine(zb6 _ _).mono ?_;rintro e w' ⟨rfl,rfl⟩))
    go_round
    case rel=>exact⟨m+1,by omega,by go_num,HE⟩
    case measure=>simp[intOf];omega
   ·
    have hL':Tk.isLet s[m]=false:=by simpa using hL
    clear hL;by_cases h0:m=0
    ·
     have t0:=bT (show ((m:Nat):Int)=0 by omega);have HE:Hid (zax s=false):=by
      have hn:¬zdC s:=fun h=>by
       have:=h m hlt;unfold zdP at this;rw[hL',show (m != 0)=false by simp[h0]] at this;simp at this
      show zax s=false;unfold zax;rw[decide_eq_false hn];rfl
     clear h0;go_wp2_with (first|(go_at_call 19;refine(zb6 _ _).mono ?_;rintro e w' ⟨rfl,rfl⟩));go_ret;exact⟨zao HE.out.symm,Below.refl _ _⟩
    ·
     have t0:=bF (show ((m:Nat):Int)≠0 by omega);by_cases hD:Tk.isDig s[m]=true
     ·
      have HE:Hid (∀j (_:j<m+1) (h:j<s.length),zdP j s[j]=true):=by
       intro j hj h;by_cases hjm:j=m
       ·
        subst hjm;simp[zdP,hD,h0]
       ·
        exact hrel.out j (by omega) h
      clear h0;go_wp2_with (first|(go_at_call 19;refine(zb6 _ _).mono ?_;rintro e w' ⟨rfl,rfl⟩)|(go_at_call 20;refine(zbR _ _).mono ?_;rintro e w' ⟨rfl,rfl⟩))
      go_round
      case rel=>exact⟨m+1,by omega,by go_num,HE⟩
      case measure=>simp[intOf];omega
     ·
      have hD':Tk.isDig s[m]=false:=by simpa using hD
      have HE:Hid (zax s=false):=by
       have hn:¬zdC s:=fun h=>by
        have:=h m hlt;simp[zdP,hL',hD'] at this
       show zax s=false;unfold zax;rw[decide_eq_false hn];rfl
      clear h0 hD;go_wp2_with (first|(go_at_call 19;refine(zb6 _ _).mono ?_;rintro e w' ⟨rfl,rfl⟩)|(go_at_call 20;refine(zbR _ _).mono ?_;rintro e w' ⟨rfl,rfl⟩));go_ret;exact⟨zao HE.out.symm,Below.refl _ _⟩
  ·
   have HE:Hid (zax s=(decide (1≤s.length)&&decide (s.length≤16)&&!Tk.resv s)):=by
    have hn:zdC s:=fun j h=>hrel.out j (by omega) h;show zax s=_;unfold zax;rw[decide_eq_true hn];rfl
   by_cases g1:1≤s.length
   ·
    by_cases g2:s.length≤16
    ·
     have d1:decide ((s.length:Int)≥1)=true:=by simp;omega
     have d2:decide ((s.length:Int)≤16)=true:=by simp;omega
     have HE2:Hid (zax s=!Tk.resv s):=by rw[HE.out,decide_eq_true g1,decide_eq_true g2];rfl
     go_wp2_with fail;refine(zcd s w).mono ?_;rintro e w1 ⟨rfl,hb1⟩;go_wp2_with fail;go_ret;exact⟨zao HE2.out.symm,hb1⟩
    ·
     have d2:decide ((s.length:Int)≤16)=false:=decide_eq_false (by omega);have HE2:Hid (zax s=false):=by rw[HE.out,decide_eq_true g1,decide_eq_false g2];rfl
     go_wp2_with fail;go_ret;exact⟨zao HE2.out.symm,Below.refl _ _⟩
   ·
    have HE2:Hid (zax s=false):=by rw[HE.out,decide_eq_false g1];rfl
    go_wp2_with fail;go_ret;exact⟨zao HE2.out.symm,Below.refl _ _⟩
set_option maxRecDepth 100000 in
set_option maxHeartbeats 4000000 in
theorem shape_nm (name:List UInt8) (A:Option Addr) (n c:Nat) (w:World) (_hn:n≤1000000) (hN:name.length≤9223372036854775807) :
  Calls Tryz.prog 103 #[.agg #[.int .i64 2,.int .i64 0,.string ⟨name.toArray⟩,.slice A n c]] w fun e w'=>e=.returned (.bool (zax name&&n==0))∧Below w.heap.size w w':=by
 have HNL:=zH hN;have HB0:Hid (Below w.heap.size w (w.alloc (.cells #[.int .i64 2,.int .i64 0,.string ⟨name.toArray⟩,.slice A n c] 68))):=(Below.refl _ _).alloc (lR _) _;clear hN;go_enter Tryz.func103,Tryz.ntmps103;go_wp2_with fail;refine(zbO 2 _).mono ?_;rintro e w1 ⟨rfl,hb1⟩;rw[show strV 2=6 by decide];obtain⟨q0,q1,q2,q3,f0,f1,f2,f3,hz⟩:=zaX hb1;have HBW:=zH (za3 HB0.out hb1);clear hb1 f0 f1 f2 f3 HB0;have hb0:=HBW.out;go_wp2_with fail;refine wp_region_noPanic ?_;refine wp_region_held_drew (S:=fun w'=>w'.cell? ⟨w.heap.size,0,none⟩=some (.int .i64 2)∧w'.cell? ⟨w.heap.size,1,none⟩=some (.int .i64 0)∧w'.cell? ⟨w.heap.size,2,none⟩=some (.string ⟨name.toArray⟩)∧w'.cell? ⟨w.heap.size,3,none⟩=some (.slice A n c)∧Below w.heap.size w w') (by kernel_rfl) ⟨q0,q1,q2,q3,hb0.drew⟩ (fun hHeld=>?_);refine wpAnyH_take (i:=0) (oi:={dst:=some 12,op:=Op.fieldAddr 68 (Operand.tmp 1) 0,type:=0,pos := "ref.go:324",after:=#[],guard:=none}) (v:=?v0) rfl (by kernel_rfl) (by kernel_rfl) (by kernel_rfl) (fun _ _ _ h=>h) (Or.inl ⟨by rfl,?y0⟩) (by assumption) ?r0
 case y0=>intro wz hSw;(try dsimp only at hSw);go_simp;(try with_reducible rfl)
 try simp only[Act.put,zS,zZ,zT]
 refine wpAnyH_take (i:=1) (oi:={dst:=some 13,op:=Op.load 3 (Operand.tmp 12),type:=3,pos := "ref.go:324",after:=#[{on:=0,ground:=Ground.data}],guard:=none}) (v:=?v1) rfl (by kernel_rfl) (by kernel_rfl) (by kernel_rfl) (fun _ _ _ h=>h) (Or.inl ⟨by rfl,?y1⟩) (by assumption) ?r1
 case y1=>intro wz hSw;(try dsimp only at hSw);go_simp;(try with_reducible rfl)
 try simp only[Act.put,zS,zZ,zT]
 refine wpAnyH_take (i:=2) (oi:={dst:=some 14,op:=Op.binOp BinOp.eql 3 (Operand.tmp 13) (Operand.const (Value.int IntKind.i64 1)) 3,type:=4,pos := "ref.go:324",after:=#[{on:=1,ground:=Ground.data}],guard:=none}) (v:=?v2) rfl (by kernel_rfl) (by kernel_rfl) (by kernel_rfl) (fun _ _ _ h=>h) (Or.inl ⟨by rfl,?y2⟩) (by assumption) ?r2
 case y2=>intro wz hSw;(try dsimp only at hSw);go_simp;(try with_reducible rfl)
 try simp only[Act.put,zS,zZ,zT]
 refine wpAnyH_take (i:=3) (oi:={dst:=some 15,op:=Op.move (Operand.tmp 14),type:=4,pos := "ref.go:324",after:=#[{on:=2,ground:=Ground.data}],guard:=none}) (v:=?v3) rfl (by kernel_rfl) (by kernel_rfl) (by kernel_rfl) (fun _ _ _ h=>h) (Or.inl ⟨by rfl,?y3⟩) (by assumption) ?r3
 case y3=>intro wz hSw;(try dsimp only at hSw);go_simp;(try with_reducible rfl)
 try simp only[Act.put,zS,zZ,zT]
 refine wpAnyH_take (i:=4) (oi:={dst:=some 16,op:=Op.fieldAddr 68 (Operand.tmp 1) 1,type:=0,pos := "ref.go:324",after:=#[{on:=3,ground:=Ground.guard}],guard:=some (3,true)}) (v:=undef) rfl (by kernel_rfl) (by kernel_rfl) (by kernel_rfl) (fun _ _ _ h=>h) (Or.inr ⟨by rfl,rfl⟩) (by assumption) ?_
 try simp only[Act.put,zS,zZ,zT]
 refine wpAnyH_take (i:=5) (oi:={dst:=some 17,op:=Op.load 3 (Operand.tmp 16),type:=3,pos := "ref.go:324",after:=#[{on:=4,ground:=Ground.data},{on:=3,ground:=Ground.guard}],guard:=some (3,true)}) (v:=undef) rfl (by kernel_rfl) (by kernel_rfl) (by kernel_rfl) (fun _ _ _ h=>h) (Or.inr ⟨by rfl,rfl⟩) (by assumption) ?_
 try simp only[Act.put,zS,zZ,zT]
 refine wpAnyH_take (i:=6) (oi:={dst:=some 18,op:=Op.binOp BinOp.geq 3 (Operand.tmp 17) (Operand.const (Value.int IntKind.i64 0)) 3,type:=4,pos := "ref.go:324",after:=#[{on:=5,ground:=Ground.data},{on:=3,ground:=Ground.guard}],guard:=some (3,true)}) (v:=undef) rfl (by kernel_rfl) (by kernel_rfl) (by kernel_rfl) (fun _ _ _ h=>h) (Or.inr ⟨by rfl,rfl⟩) (by assumption) ?_
 try simp only[Act.put,zS,zZ,zT]
 refine wpAnyH_take (i:=7) (oi:={dst:=some 19,op:=Op.pick (Operand.tmp 15) (Operand.tmp 18) (Operand.const (Value.bool false)),type:=4,pos := "ref.go:324",after:=#[{on:=3,ground:=Ground.data},{on:=6,ground:=Ground.data}],guard:=none}) (v:=?v7) rfl (by kernel_rfl) (by kernel_rfl) (by kernel_rfl) (fun _ _ _ h=>h) (Or.inl ⟨by rfl,?y7⟩) (by assumption) ?r7
 case y7=>intro wz hSw;(try dsimp only at hSw);go_simp;(try with_reducible rfl)
 try simp only[Act.put,zS,zZ,zT]
 refine wpAnyH_take (i:=8) (oi:={dst:=some 20,op:=Op.move (Operand.tmp 19),type:=4,pos := "ref.go:324",after:=#[{on:=7,ground:=Ground.data},{on:=3,ground:=Ground.chain}],guard:=none}) (v:=?v8) rfl (by kernel_rfl) (by kernel_rfl) (by kernel_rfl) (fun _ _ _ h=>h) (Or.inl ⟨by rfl,?y8⟩) (by assumption) ?r8
 case y8=>intro wz hSw;(try dsimp only at hSw);go_simp;(try with_reducible rfl)
 try simp only[Act.put,zS,zZ,zT]
 refine wpAnyH_take (i:=9) (oi:={dst:=some 21,op:=Op.fieldAddr 68 (Operand.tmp 1) 2,type:=0,pos := "ref.go:324",after:=#[{on:=8,ground:=Ground.guard}],guard:=some (8,true)}) (v:=undef) rfl (by kernel_rfl) (by kernel_rfl) (by kernel_rfl) (fun _ _ _ h=>h) (Or.inr ⟨by rfl,rfl⟩) (by assumption) ?_
 try simp only[Act.put,zS,zZ,zT]
 refine wpAnyH_take (i:=10) (oi:={dst:=some 22,op:=Op.load 9 (Operand.tmp 21),type:=9,pos := "ref.go:324",after:=#[{on:=9,ground:=Ground.data},{on:=8,ground:=Ground.guard}],guard:=some (8,true)}) (v:=undef) rfl (by kernel_rfl) (by kernel_rfl) (by kernel_rfl) (fun _ _ _ h=>h) (Or.inr ⟨by rfl,rfl⟩) (by assumption) ?_
 try simp only[Act.put,zS,zZ,zT]
 refine wpAnyH_take (i:=11) (oi:={dst:=some 23,op:=Op.binOp BinOp.eql 9 (Operand.tmp 22) (Operand.const (Value.string {data:=#[]})) 9,type:=4,pos := "ref.go:324",after:=#[{on:=10,ground:=Ground.data},{on:=8,ground:=Ground.guard}],guard:=some (8,true)}) (v:=undef) rfl (by kernel_rfl) (by kernel_rfl) (by kernel_rfl) (fun _ _ _ h=>h) (Or.inr ⟨by rfl,rfl⟩) (by assumption) ?_
 try simp only[Act.put,zS,zZ,zT]
 refine wpAnyH_take (i:=12) (oi:={dst:=some 24,op:=Op.pick (Operand.tmp 20) (Operand.tmp 23) (Operand.const (Value.bool false)),type:=4,pos := "ref.go:324",after:=#[{on:=8,ground:=Ground.data},{on:=11,ground:=Ground.data}],guard:=none}) (v:=?v12) rfl (by kernel_rfl) (by kernel_rfl) (by kernel_rfl) (fun _ _ _ h=>h) (Or.inl ⟨by rfl,?y12⟩) (by assumption) ?r12
 case y12=>intro wz hSw;(try dsimp only at hSw);go_simp;(try with_reducible rfl)
 try simp only[Act.put,zS,zZ,zT]
 refine wpAnyH_take (i:=13) (oi:={dst:=some 25,op:=Op.fieldAddr 68 (Operand.tmp 1) 0,type:=0,pos := "ref.go:324",after:=#[],guard:=none}) (v:=?v13) rfl (by kernel_rfl) (by kernel_rfl) (by kernel_rfl) (fun _ _ _ h=>h) (Or.inl ⟨by rfl,?y13⟩) (by assumption) ?r13
 case y13=>intro wz hSw;(try dsimp only at hSw);go_simp;(try with_reducible rfl)
 try simp only[Act.put,zS,zZ,zT]
 refine wpAnyH_take (i:=14) (oi:={dst:=some 26,op:=Op.load 3 (Operand.tmp 25),type:=3,pos := "ref.go:324",after:=#[{on:=13,ground:=Ground.data}],guard:=none}) (v:=?v14) rfl (by kernel_rfl) (by kernel_rfl) (by kernel_rfl) (fun _ _ _ h=>h) (Or.inl ⟨by rfl,?y14⟩) (by assumption) ?r14
 case y14=>intro wz hSw;(try dsimp only at hSw);go_simp;(try with_reducible rfl)
 try simp only[Act.put,zS,zZ,zT]
 refine wpAnyH_take (i:=15) (oi:={dst:=some 27,op:=Op.binOp BinOp.eql 3 (Operand.tmp 26) (Operand.const (Value.int IntKind.i64 2)) 3,type:=4,pos := "ref.go:324",after:=#[{on:=14,ground:=Ground.data}],guard:=none}) (v:=?v15) rfl (by kernel_rfl) (by kernel_rfl) (by kernel_rfl) (fun _ _ _ h=>h) (Or.inl ⟨by rfl,?y15⟩) (by assumption) ?r15
 case y15=>intro wz hSw;(try dsimp only at hSw);go_simp;(try with_reducible rfl)
 try simp only[Act.put,zS,zZ,zT]
 refine wpAnyH_take (i:=16) (oi:={dst:=some 28,op:=Op.move (Operand.tmp 27),type:=4,pos := "ref.go:324",after:=#[{on:=15,ground:=Ground.data},{on:=8,ground:=Ground.chain}],guard:=none}) (v:=?v16) rfl (by kernel_rfl) (by kernel_rfl) (by kernel_rfl) (fun _ _ _ h=>h) (Or.inl ⟨by rfl,?y16⟩) (by assumption) ?r16
 case y16=>intro wz hSw;(try dsimp only at hSw);go_simp;(try with_reducible rfl)
 try simp only[Act.put,zS,zZ,zT]
 refine wpAnyH_take (i:=17) (oi:={dst:=some 29,op:=Op.fieldAddr 68 (Operand.tmp 1) 1,type:=0,pos := "ref.go:324",after:=#[{on:=16,ground:=Ground.guard}],guard:=some (16,true)}) (v:=?v17) rfl (by kernel_rfl) (by kernel_rfl) (by kernel_rfl) (fun _ _ _ h=>h) (Or.inl ⟨by rfl,?y17⟩) (by assumption) ?r17
 case y17=>intro wz hSw;(try dsimp only at hSw);go_simp;(try with_reducible rfl)
 try simp only[Act.put,zS,zZ,zT]
 refine wpAnyH_take (i:=18) (oi:={dst:=some 30,op:=Op.load 3 (Operand.tmp 29),type:=3,pos := "ref.go:324",after:=#[{on:=17,ground:=Ground.data},{on:=16,ground:=Ground.guard}],guard:=some (16,true)}) (v:=?v18) rfl (by kernel_rfl) (by kernel_rfl) (by kernel_rfl) (fun _ _ _ h=>h) (Or.inl ⟨by rfl,?y18⟩) (by assumption) ?r18
 case y18=>intro wz hSw;(try dsimp only at hSw);go_simp;(try with_reducible rfl)
 try simp only[Act.put,zS,zZ,zT]
 refine wpAnyH_take (i:=19) (oi:={dst:=some 31,op:=Op.binOp BinOp.eql 3 (Operand.tmp 30) (Operand.const (Value.int IntKind.i64 0)) 3,type:=4,pos := "ref.go:324",after:=#[{on:=18,ground:=Ground.data},{on:=16,ground:=Ground.guard}],guard:=some (16,true)}) (v:=?v19) rfl (by kernel_rfl) (by kernel_rfl) (by kernel_rfl) (fun _ _ _ h=>h) (Or.inl ⟨by rfl,?y19⟩) (by assumption) ?r19
 case y19=>intro wz hSw;(try dsimp only at hSw);go_simp;(try with_reducible rfl)
 try simp only[Act.put,zS,zZ,zT]
 refine wpAnyH_take (i:=20) (oi:={dst:=some 32,op:=Op.pick (Operand.tmp 28) (Operand.tmp 31) (Operand.const (Value.bool false)),type:=4,pos := "ref.go:324",after:=#[{on:=16,ground:=Ground.data},{on:=19,ground:=Ground.data}],guard:=none}) (v:=?v20) rfl (by kernel_rfl) (by kernel_rfl) (by kernel_rfl) (fun _ _ _ h=>h) (Or.inl ⟨by rfl,?y20⟩) (by assumption) ?r20
 case y20=>intro wz hSw;(try dsimp only at hSw);go_simp;(try with_reducible rfl)
 try simp only[Act.put,zS,zZ,zT]
 refine wpAnyH_take (i:=21) (oi:={dst:=some 33,op:=Op.move (Operand.tmp 32),type:=4,pos := "ref.go:324",after:=#[{on:=20,ground:=Ground.data},{on:=16,ground:=Ground.chain}],guard:=none}) (v:=?v21) rfl (by kernel_rfl) (by kernel_rfl) (by kernel_rfl) (fun _ _ _ h=>h) (Or.inl ⟨by rfl,?y21⟩) (by assumption) ?r21
 case y21=>intro wz hSw;(try dsimp only at hSw);go_simp;(try with_reducible rfl)
 try simp only[Act.put,zS,zZ,zT]
 refine wpAnyH_take (i:=22) (oi:={dst:=some 34,op:=Op.fieldAddr 68 (Operand.tmp 1) 2,type:=0,pos := "ref.go:324",after:=#[{on:=21,ground:=Ground.guard}],guard:=some (21,true)}) (v:=?v22) rfl (by kernel_rfl) (by kernel_rfl) (by kernel_rfl) (fun _ _ _ h=>h) (Or.inl ⟨by rfl,?y22⟩) (by assumption) ?r22
 case y22=>intro wz hSw;(try dsimp only at hSw);go_simp;(try with_reducible rfl)
 try simp only[Act.put,zS,zZ,zT]
 refine wpAnyH_take (i:=23) (oi:={dst:=some 35,op:=Op.load 9 (Operand.tmp 34),type:=9,pos := "ref.go:324",after:=#[{on:=22,ground:=Ground.data},{on:=21,ground:=Ground.guard}],guard:=some (21,true)}) (v:=?v23) rfl (by kernel_rfl) (by kernel_rfl) (by kernel_rfl) (fun _ _ _ h=>h) (Or.inl ⟨by rfl,?y23⟩) (by assumption) ?r23
 case y23=>intro wz hSw;(try dsimp only at hSw);go_simp;(try with_reducible rfl)
 try simp only[Act.put,zS,zZ,zT]
 refine wpAnyH_ready (rs:=[24]) (by kernel_rfl) (by simp) ?_;refine AllReadyH.cons (o:={dst:=some 36,op:=Op.call {callee:=Callee.value (Operand.func 52),args:=#[Operand.tmp 35],argTypes:=#[9]},type:=4,pos := "ref.go:324",after:=#[{on:=23,ground:=Ground.data},{on:=21,ground:=Ground.chain},{on:=21,ground:=Ground.guard}],guard:=some (21,true)}) rfl (fun K hK=>?stp) AllReadyH.nil
 case stp =>
 go_simp;refine(zbM name _ HNL.out).mono ?_;rintro e w2 ⟨rfl,hb⟩;obtain⟨k0,k1,k2,k3,hbw⟩:=hHeld;have r3:=cell_later hb k3;refine hK.out _ _ ⟨cell_later hb k0,cell_later hb k1,cell_later hb k2,cell_later hb k3,zan hb hbw⟩ (fun hHeld=>?_);have HB2:=zH (zan hb hbw);clear hK K hb hbw k0 k1 k2 k3;refine wpAnyH_take (i:=25) (oi:={dst:=some 37,op:=Op.pick (Operand.tmp 33) (Operand.tmp 36) (Operand.const (Value.bool false)),type:=4,pos := "ref.go:324",after:=#[{on:=21,ground:=Ground.data},{on:=24,ground:=Ground.data},{on:=26,ground:=Ground.gcOnly Departure.lateStores}],guard:=none}) (v:=?v25) rfl (by kernel_rfl) (by kernel_rfl) (by kernel_rfl) (fun _ _ _ h=>h) (Or.inl ⟨by rfl,?y25⟩) (by assumption) ?r25
 case y25=>intro wz hSw;(try dsimp only at hSw);go_simp;(try with_reducible rfl)
 try simp only[Act.put,zS,zZ,zT]
 refine wpAnyH_take (i:=26) (oi:={dst:=some 4,op:=Op.assign (Operand.tmp 24),type:=4,pos := "ref.go:324",after:=#[{on:=12,ground:=Ground.data},{on:=24,ground:=Ground.chain},{on:=0,ground:=Ground.phase},{on:=1,ground:=Ground.phase},{on:=2,ground:=Ground.phase},{on:=3,ground:=Ground.phase},{on:=4,ground:=Ground.phase},{on:=5,ground:=Ground.phase},{on:=6,ground:=Ground.phase},{on:=7,ground:=Ground.phase},{on:=8,ground:=Ground.phase},{on:=9,ground:=Ground.phase},{on:=10,ground:=Ground.phase},{on:=11,ground:=Ground.phase},{on:=12,ground:=Ground.phase},{on:=13,ground:=Ground.textOnly Departure.lateStores},{on:=14,ground:=Ground.textOnly Departure.lateStores},{on:=15,ground:=Ground.textOnly Departure.lateStores},{on:=16,ground:=Ground.textOnly Departure.lateStores},{on:=17,ground:=Ground.textOnly Departure.lateStores},{on:=18,ground:=Ground.textOnly Departure.lateStores},{on:=19,ground:=Ground.textOnly Departure.lateStores},{on:=20,ground:=Ground.textOnly Departure.lateStores},{on:=21,ground:=Ground.textOnly Departure.lateStores},{on:=22,ground:=Ground.textOnly Departure.lateStores},{on:=23,ground:=Ground.textOnly Departure.lateStores},{on:=24,ground:=Ground.textOnly Departure.lateStoresUnsure},{on:=25,ground:=Ground.textOnly Departure.lateStores}],guard:=none}) (v:=?v26) rfl (by kernel_rfl) (by kernel_rfl) (by kernel_rfl) (fun _ _ _ h=>h) (Or.inl ⟨by rfl,?y26⟩) (by assumption) ?r26
 case y26=>intro wz hSw;(try dsimp only at hSw);go_simp;(try with_reducible rfl)
 try simp only[Act.put,zS,zZ,zT]
 refine wpAnyH_take (i:=27) (oi:={dst:=some 5,op:=Op.assign (Operand.tmp 37),type:=4,pos := "ref.go:324",after:=#[{on:=25,ground:=Ground.data},{on:=26,ground:=Ground.chain},{on:=0,ground:=Ground.phase},{on:=1,ground:=Ground.phase},{on:=2,ground:=Ground.phase},{on:=3,ground:=Ground.phase},{on:=4,ground:=Ground.phase},{on:=5,ground:=Ground.phase},{on:=6,ground:=Ground.phase},{on:=7,ground:=Ground.phase},{on:=8,ground:=Ground.phase},{on:=9,ground:=Ground.phase},{on:=10,ground:=Ground.phase},{on:=11,ground:=Ground.phase},{on:=12,ground:=Ground.phase},{on:=13,ground:=Ground.phase},{on:=14,ground:=Ground.phase},{on:=15,ground:=Ground.phase},{on:=16,ground:=Ground.phase},{on:=17,ground:=Ground.phase},{on:=18,ground:=Ground.phase},{on:=19,ground:=Ground.phase},{on:=20,ground:=Ground.phase},{on:=21,ground:=Ground.phase},{on:=22,ground:=Ground.phase},{on:=23,ground:=Ground.phase},{on:=24,ground:=Ground.phase},{on:=25,ground:=Ground.phase},{on:=26,ground:=Ground.phase}],guard:=none}) (v:=?v27) rfl (by kernel_rfl) (by kernel_rfl) (by kernel_rfl) (fun _ _ _ h=>h) (Or.inl ⟨by rfl,?y27⟩) (by assumption) ?r27
 case y27=>intro wz hSw;(try dsimp only at hSw);go_simp;(try with_reducible rfl)
 try simp only[Act.put,zS,zZ,zT]
 refine wpAnyH_done (by kernel_rfl) ?_ _;refine NoPanic.normal ?_;clear hHeld;cases hnm:zax name with
 | true =>
  by_cases hn0:n=0
  ·
   have tn:=nF (show ((n:Nat):Int)=0 by omega);have hle:n≤0:=by omega
   have HV:Hid ((zax name&&n==0)=true):=by show _=_;simp[hnm,hn0]
   clear hn0;go_wp2_with fail;refine wp_loop_rounds 1 ?_;rw[rounds_succ];go_wp2_with fail;go_ret;exact⟨zao HV.out.symm,HB2.out⟩
  ·
   have tn:=nT (show ((n:Nat):Int)≠0 by omega);have HV:Hid ((zax name&&n==0)=false):=by show _=_;simp[hn0]
   clear hn0;go_wp2_with fail;go_ret;exact⟨zao HV.out.symm,HB2.out⟩
 | false =>
  have HV:Hid ((zax name&&n==0)=false):=by show _=_;simp[hnm]
  go_wp2_with fail;go_ret;exact⟨zao HV.out.symm,HB2.out⟩
def zaN (op num:Int) (name:List UInt8) (n:Nat):Bool :=
 if strV op=6 then ((op==1&&(decide (0≤num)&&name==[]))||(op==2&&(num==0&&zax name)))&&n==0
 else (n==(if strV op=5 then 1 else 2))&&(num==0&&name==[])
mutual
def zaQ:Ex→Bool
 | .mk op num name args=>zaN op num name args.length&&zb3 args
def zb3:List Ex→Bool
 | []=>true
 | e::r=>zaQ e&&zb3 r
end
theorem zbs (op num:Int) (name:List UInt8) (args:List Ex):zaQ (.mk op num name args)=(zaN op num name args.length&&zb3 args):=by rw[zaQ]
theorem zdN (args:List Ex):zb3 args=true↔∀i (h:i<args.length),zaQ args[i]=true:=by
 induction args with
 | nil=>simp[zb3]
 | cons e r ih =>
  rw[zb3,Bool.and_eq_true,ih];constructor
  ·
   rintro ⟨h1,h2⟩ i hi;cases i with
   | zero=>exact h1
   | succ i=>exact h2 i (by simpa using hi)
  ·
   intro h;exact⟨h 0 (by simp),fun i hi=>h (i+1) (by simpa using hi)⟩
theorem zaM (op num:Int) (name:List UInt8) (args:List Ex) (h:zaN op num name args.length=false):zaQ (.mk op num name args)=false:=by
 rw[zbs,h];rfl
theorem ze3 (op num:Int) (name:List UInt8) (args:List Ex) (i:Nat) (hi:i<args.length) (h:zaQ args[i]=false):zaQ (.mk op num name args)=false:=by
 rw[zbs]
 have:zb3 args=false:=by
  rw[Bool.eq_false_iff];intro hh
  have:=(zdN args).1 hh i hi;rw[h] at this;cases this
 rw[this,Bool.and_false]
theorem zdv (op num:Int) (name:List UInt8) (args:List Ex) (h:zaN op num name args.length=true) (hs:∀i (h:i<args.length),zaQ args[i]=true):zaQ (.mk op num name args)=true:=by
 rw[zbs,h,(zdN args).2 hs];rfl
theorem zcH (op num:Int) (name:List UInt8) (n:Nat) (h:strV op=6):zaN op num name n=(((op==1&&(decide (0≤num)&&name==[]))||(op==2&&(num==0&&zax name)))&&n==0):=if_pos h
theorem zds (op num:Int) (name:List UInt8) (n:Nat) (h:strV op=5):zaN op num name n=(n==1&&(num==0&&name==[])):=by
 unfold zaN;rw[if_neg (by omega),if_pos h]
theorem zdX (op num:Int) (name:List UInt8) (n:Nat) (h5:strV op≠5) (h6:strV op≠6):zaN op num name n=(n==2&&(num==0&&name==[])):=by
 unfold zaN;rw[if_neg h6,if_neg h5]
set_option maxRecDepth 100000 in
set_option maxHeartbeats 4000000 in
theorem zhj (N:Nat):∀(E:Ex) (op num:Int) (name:List UInt8) (A:Option Addr) (n c:Nat) (w:World),SizeOf.sizeOf E<N→ExB E→ExM w (fun _=>True) E ⟨op,num,name,A,n,c⟩ →
  Calls Tryz.prog 103 #[.agg #[.int .i64 op,.int .i64 num,.string ⟨name.toArray⟩,.slice A n c]] w fun e w'=>e=.returned (.bool (zaQ E))∧Below w.heap.size w w':=by
 induction N with
 | zero=>intro E op num name A n c w h;omega
 | succ N ih =>
  intro E op num name A n c w hN hok hM;have IH:=zH ih;clear ih;cases hM with
  | mk _ _ _ args _ _ F hc hs =>
  have HC:=zH hc;have HS:=zH hs;have hsz:=fun i h=>zdT op num name args i h;have HSZ:=zH hsz;have hal:args.length≤1000000:=by
   cases hok with
   | mk _ _ _ _ hl hn hs=>exact hl
  have HNL:Hid (name.length≤9223372036854775807):=by
   cases hok with
   | mk _ _ _ _ hl hn hs=>exact hn
  have HIO:Hid (∀i (h:i<args.length),ExB args[i]):=by
   cases hok with
   | mk _ _ _ _ hl hn hs=>exact hs
  clear hok hc hs hsz;have HB0:Hid (Below w.heap.size w (w.alloc (.cells #[.int .i64 op,.int .i64 num,.string ⟨name.toArray⟩,.slice A args.length c] 68))):=(Below.refl _ _).alloc (lR _) _;by_cases hc20:op=2∧num=0
  ·
   obtain⟨rfl,rfl⟩:=hc20;refine(shape_nm name A args.length c w hal HNL.out).mono ?_;rintro e w' ⟨rfl,hb⟩;refine⟨?_,hb⟩;have h1:zaQ (.mk 2 0 name args)=(zax name&&args.length==0):=by
    rw[zbs,zcH 2 0 name _ (by decide)];by_cases h0:args.length=0
    ·
     obtain rfl:args=[]:=List.length_eq_zero_iff.1 h0;simp[zb3]
    ·
     simp[h0]
   rw[h1]
  go_enter Tryz.func103,Tryz.ntmps103;go_wp2_with fail;refine(zbO op _).mono ?_;rintro e w1 ⟨rfl,hb1⟩;obtain⟨q0,q1,q2,q3,f0,f1,f2,f3,hz⟩:=zaX hb1;have HBW:=zH (za3 HB0.out hb1);clear hb1 f0 f1 f2 f3 HB0;by_cases h6:strV op=6
  ·
   have t6:=bT (show ((strV op:Nat):Int)=6 by omega);have H6:=zH h6;clear h6;by_cases c1:op=1
   ·
    have t1:=bT c1;have t2:=bF (show op≠2 by omega);have C1:=zH c1;by_cases hnum:0≤num
    ·
     have dn:decide (0≤num)=true:=by simp;omega
     by_cases hnm:name=[]
     ·
      have te:(name==[])=true:=by simp[hnm]
      have HNM:=zH hnm;clear c1 hnm;by_cases hn0:args.length=0
      ·
       have tn:=nF (show ((args.length:Nat):Int)=0 by omega);have HHD:=zH (zdv op num name args (by rw[zcH _ _ _ _ H6.out];simp[hn0,C1.out,hnum,HNM.out]) (fun j h=>absurd h (by omega)));have hle:args.length≤0:=by omega
       clear hn0;go_wp2_with fail
       go_quiet (fail)
       go_wp2_with fail;refine wp_loop_rounds 1 ?_;rw[rounds_succ];go_wp2_with fail;go_ret;exact⟨zao HHD.out.symm,zat HBW.out _⟩
      ·
       have tn:=nT (show ((args.length:Nat):Int)≠0 by omega);have HF:=zH (zaM op num name args (by rw[zcH _ _ _ _ H6.out];simp[hn0]));clear hn0;go_wp2_with fail
       go_quiet (fail)
       go_wp2_with fail;go_ret;exact⟨zao HF.out.symm,zat HBW.out _⟩
     ·
      have te:(name==[])=false:=by simp[hnm]
      have HF:=zH (zaM op num name args (by rw[zcH _ _ _ _ H6.out];simp[C1.out,hnm]));clear c1 hnm;go_wp2_with fail
      go_quiet (fail)
      go_wp2_with fail;go_ret;exact⟨zao HF.out.symm,zat HBW.out _⟩
    ·
     have dn:decide (0≤num)=false:=decide_eq_false (by omega);have HF:=zH (zaM op num name args (by rw[zcH _ _ _ _ H6.out];simp[C1.out,hnum]));go_wp2_with fail
     go_quiet (fail)
     go_wp2_with fail;go_ret;exact⟨zao HF.out.symm,zat HBW.out _⟩
   ·
    have t1:=bF c1;by_cases c2:op=2
    ·
     have t2:=bT c2;by_cases hnum:num=0
     ·
      exact absurd ⟨c2,hnum⟩ hc20
     ·
      have tm:=bF hnum;have HF:=zH (zaM op num name args (by rw[zcH _ _ _ _ H6.out];simp[c2,hnum]));clear c1 c2 hnum;go_wp2_with fail
      go_quiet (fail)
      go_wp2_with fail;go_ret;exact⟨zao HF.out.symm,zat HBW.out _⟩
    ·
     have t2:=bF c2;have HF:=zH (zaM op num name args (by rw[zcH _ _ _ _ H6.out];simp[c1,c2]));clear c1 c2;go_wp2_with fail
     go_quiet (fail)
     go_wp2_with fail;go_ret;exact⟨zao HF.out.symm,zat HBW.out _⟩
  ·
   have t6:=bF (show ((strV op:Nat):Int)≠6 by omega);by_cases h5:strV op=5
   ·
    have t5:=bT (show ((strV op:Nat):Int)=5 by omega);have H5:=zH h5;clear h5 h6;by_cases hn1:args.length=1
    ·
     have tn:=nF (show ((args.length:Nat):Int)=1 by omega);by_cases hnum:num=0
     ·
      have tm:=nF hnum;by_cases hnm:name=[]
      ·
       have te:(name != [])=false:=by simp[hnm]
       have te2:(name==[])=true:=by simp[hnm]
       have hhd:zaN op num name args.length=true:=by
        rw[zds _ _ _ _ H5.out];simp[hn1,hnum,hnm]
       have HHD:=zH hhd;clear hhd;have hge:1≤args.length:=by omega
       have hle:args.length≤1:=by omega
       have HNM:=zH hnm;clear hn1 hnum hnm;go_wp2_with fail
       go_loopw [6] (fun i wz=>∃m:Nat,m≤1∧i=.int .i64 m∧Hid (∀j (_:j<m) (h:j<args.length),zaQ args[j]=true)∧Below w1.heap.size w1 wz) (fun i _=>1-(intOf i).toNat)
       case atStart=>exact⟨0,by omega,rfl,fun j hj=>absurd hj (by omega),Below.refl _ _⟩
       case round =>
        obtain⟨m,hm,rfl,hrel,hbel⟩:=hrel;have HBZ:=zH hbel;have z3:=cell_later hbel q3;clear hbel;by_cases hlt:m<1
        ·
         have hlt':m<args.length:=by omega
         obtain⟨b,off,rfl,-,hat⟩:=HC.out m hlt';have HBY:=zH (za3 HBW.out HBZ.out);obtain⟨a0,a1,a2,a3⟩:=hat.keep (HBY.out.block b hat.lt);have HCH:=zH ((HS.out m hlt').later HBY.out);go_wp2_with fail;refine(IH.out args[m] (F m).op (F m).num (F m).name (F m).A (F m).n (F m).c _ (by have:=HSZ.out m hlt';omega) (HIO.out m hlt') HCH.out).mono ?_;rintro e w3 ⟨rfl,hb3⟩;have HB3:=zH (za3 HBZ.out hb3);clear hb3 a0 a1 a2 a3 z3;by_cases hsh:zaQ args[m]=true
         ·
          have HE:Hid (∀j (_:j<m+1) (h:j<args.length),zaQ args[j]=true):=by
           intro j hj h;by_cases hjm:j=m
           ·
            subst hjm;exact hsh
           ·
            exact hrel.out j (by omega) h
          go_wp2_with fail;go_roundw
          case rel=>exact⟨m+1,by omega,by go_num,HE,HB3.out⟩
          case measure=>simp[intOf];omega
         ·
          have hsh':zaQ args[m]=false:=by simpa using hsh
          have HE:=zH (ze3 op num name args m hlt' hsh');clear hsh;go_wp2_with fail;go_ret;exact⟨zao HE.out.symm,za3 HBW.out HB3.out⟩
        ·
         have HE:=zH (zdv op num name args HHD.out (fun j h=>hrel.out j (by omega) h));go_wp2_with fail;go_ret;exact⟨zao HE.out.symm,za3 HBW.out HBZ.out⟩
      ·
       have te:(name != [])=true:=by simp[hnm]
       have te2:(name==[])=false:=by simp[hnm]
       have HF:=zH (zaM op num name args (by rw[zds _ _ _ _ H5.out];simp[hnm]));clear hn1 hnum hnm;go_wp2_with fail;go_ret;exact⟨zao HF.out.symm,HBW.out⟩
     ·
      have tm:=nT hnum;have HF:=zH (zaM op num name args (by rw[zds _ _ _ _ H5.out];simp[hnum]));clear hn1 hnum;go_wp2_with fail;go_ret;exact⟨zao HF.out.symm,HBW.out⟩
    ·
     have tn:=nT (show ((args.length:Nat):Int)≠1 by omega);have HF:=zH (zaM op num name args (by rw[zds _ _ _ _ H5.out];simp[hn1]));clear hn1;go_wp2_with fail;go_ret;exact⟨zao HF.out.symm,HBW.out⟩
   ·
    have t5:=bF (show ((strV op:Nat):Int)≠5 by omega);have H5:=zH h5;have H6:=zH h6;clear h5 h6;by_cases hn2:args.length=2
    ·
     have tn:=nF (show ((args.length:Nat):Int)=2 by omega);by_cases hnum:num=0
     ·
      have tm:=nF hnum;by_cases hnm:name=[]
      ·
       have te:(name != [])=false:=by simp[hnm]
       have te2:(name==[])=true:=by simp[hnm]
       have hhd:zaN op num name args.length=true:=by
        rw[zdX _ _ _ _ H5.out H6.out];simp[hn2,hnum,hnm]
       have HHD:=zH hhd;clear hhd;have hge:2≤args.length:=by omega
       have hle:args.length≤2:=by omega
       have HNM:=zH hnm;clear hn2 hnum hnm;go_wp2_with fail
       go_loopw [6] (fun i wz=>∃m:Nat,m≤2∧i=.int .i64 m∧Hid (∀j (_:j<m) (h:j<args.length),zaQ args[j]=true)∧Below w1.heap.size w1 wz) (fun i _=>2-(intOf i).toNat)
       case atStart=>exact⟨0,by omega,rfl,fun j hj=>absurd hj (by omega),Below.refl _ _⟩
       case round =>
        obtain⟨m,hm,rfl,hrel,hbel⟩:=hrel;have HBZ:=zH hbel;have z3:=cell_later hbel q3;clear hbel;by_cases hlt:m<2
        ·
         have hlt':m<args.length:=by omega
         obtain⟨b,off,rfl,-,hat⟩:=HC.out m hlt';have HBY:=zH (za3 HBW.out HBZ.out);obtain⟨a0,a1,a2,a3⟩:=hat.keep (HBY.out.block b hat.lt);have HCH:=zH ((HS.out m hlt').later HBY.out);go_wp2_with fail;refine(IH.out args[m] (F m).op (F m).num (F m).name (F m).A (F m).n (F m).c _ (by have:=HSZ.out m hlt';omega) (HIO.out m hlt') HCH.out).mono ?_;rintro e w3 ⟨rfl,hb3⟩;have HB3:=zH (za3 HBZ.out hb3);clear hb3 a0 a1 a2 a3 z3;by_cases hsh:zaQ args[m]=true
         ·
          have HE:Hid (∀j (_:j<m+1) (h:j<args.length),zaQ args[j]=true):=by
           intro j hj h;by_cases hjm:j=m
           ·
            subst hjm;exact hsh
           ·
            exact hrel.out j (by omega) h
          go_wp2_with fail;go_roundw
          case rel=>exact⟨m+1,by omega,by go_num,HE,HB3.out⟩
          case measure=>simp[intOf];omega
         ·
          have hsh':zaQ args[m]=false:=by simpa using hsh
          have HE:=zH (ze3 op num name args m hlt' hsh');clear hsh;go_wp2_with fail;go_ret;exact⟨zao HE.out.symm,za3 HBW.out HB3.out⟩
        ·
         have HE:=zH (zdv op num name args HHD.out (fun j h=>hrel.out j (by omega) h));go_wp2_with fail;go_ret;exact⟨zao HE.out.symm,za3 HBW.out HBZ.out⟩
      ·
       have te:(name != [])=true:=by simp[hnm]
       have te2:(name==[])=false:=by simp[hnm]
       have HF:=zH (zaM op num name args (by rw[zdX _ _ _ _ H5.out H6.out];simp[hnm]));clear hn2 hnum hnm;go_wp2_with fail;go_ret;exact⟨zao HF.out.symm,HBW.out⟩
     ·
      have tm:=nT hnum;have HF:=zH (zaM op num name args (by rw[zdX _ _ _ _ H5.out H6.out];simp[hnum]));clear hn2 hnum;go_wp2_with fail;go_ret;exact⟨zao HF.out.symm,HBW.out⟩
    ·
     have tn:=nT (show ((args.length:Nat):Int)≠2 by omega);have HF:=zH (zaM op num name args (by rw[zdX _ _ _ _ H5.out H6.out];simp[hn2]));clear hn2;go_wp2_with fail;go_ret;exact⟨zao HF.out.symm,HBW.out⟩
end Go.Proofs.YtlnbmmgbfgmboaaGreatDoor
