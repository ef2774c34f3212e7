import Derived.Test.YtlnbmmgbfgmboaaDoorQ1
import Derived.Deep.QuietTactic
import Derived.BigQuiet
import Derived.Test.YtlnbmmgbfgmboaaDoorSrcExprG
import Derived.Deep.RegionHeld3
import Derived.Deep.RegionLaw
namespace Go.Proofs.YtlnbmmgbfgmboaaDoor
open Go.RowKit
def zaA (ts:List Tk.Tok):List Value:=ts.flatMap fun t=>[.int .i64 (t.kind:Int),.string ⟨t.text.toArray⟩,.int .i64 (t.num:Int),.int .i64 (t.pos:Int)]
theorem zaG (ts:List Tk.Tok) (t:Tk.Tok):zaA (ts++[t])=zaA ts++[.int .i64 (t.kind:Int),.string ⟨t.text.toArray⟩,.int .i64 (t.num:Int),.int .i64 (t.pos:Int)]:=by
 simp[zaA]
theorem zfo (l:List UInt8) (k:Nat) (t:Tk.Tok) (hk:k<l.length) (h:Tk.tokAt l k=.ok t):0<t.text.length∧k+t.text.length≤l.length∧t.pos=k:=by
 have hg:l.getD k 0=l[k]:=by simp[List.getD,List.getElem?_eq_getElem hk]
 have hp:∀(p:UInt8→Bool),p l[k]=true→0<((l.drop k).takeWhile p).length∧k+((l.drop k).takeWhile p).length≤l.length:=by
  intro p hp
  have h1:=zdh p l k hk
  rw[if_pos hp] at h1
  have h2:=(List.takeWhile_prefix p (l:=l.drop k)).length_le
  simp at h2
  omega
 unfold Tk.tokAt at h
 rw[hg] at h
 split at h
 ·
  rename_i hL
  unfold Tk.nameAt at h
  dsimp only at h
  split at h
  ·
   cases h
  ·
   injection h with h
   subst h
   have:=hp Tk.isLD (by simp[Tk.isLD,hL])
   exact⟨this.1,this.2,rfl⟩
 ·
  split at h
  ·
   rename_i hD
   unfold Tk.numAt at h
   dsimp only at h
   split at h
   ·
    cases h
   ·
    injection h with h
    subst h
    have:=hp Tk.isDig hD
    exact⟨this.1,this.2,rfl⟩
  ·
   unfold Tk.signAt at h
   split at h
   ·
    injection h with h
    subst h
    refine⟨?_,?_,rfl⟩
    all_goals (simp;omega)
   ·
    split at h
    ·
     injection h with h
     subst h
     refine⟨?_,?_,rfl⟩
     all_goals (simp;omega)
    ·
     cases h
theorem zg6 (l:List UInt8) (k e:Nat) (h:Tk.tokAt l k=.error e):1≤e∧e≤3:=by
 unfold Tk.tokAt at h
 split at h
 ·
  unfold Tk.nameAt at h
  dsimp only at h
  split at h
  ·
   injection h with h;omega
  ·
   cases h
 ·
  split at h
  ·
   unfold Tk.numAt at h
   dsimp only at h
   split at h
   ·
    injection h with h;omega
   ·
    cases h
  ·
   unfold Tk.signAt at h
   split at h
   ·
    cases h
   ·
    split at h
    ·
     cases h
    ·
     injection h with h;omega
theorem zbU (f:Nat) (l:List UInt8) (k:Nat) (acc:List Tk.Tok) (h:l.length≤k):Tk.lexGo (f+1) l k acc=(acc++[⟨5,[],0,l.length⟩],l.length,0):=by
 rw[Tk.lexGo,if_pos h]
theorem zbo (f:Nat) (l:List UInt8) (k e:Nat) (acc:List Tk.Tok) (h:k<l.length) (he:Tk.tokAt l k=.error e):Tk.lexGo (f+1) l k acc=([],k,e):=by
 rw[Tk.lexGo,if_neg (by omega),he]
theorem zaU (f:Nat) (l:List UInt8) (k:Nat) (acc:List Tk.Tok) (t:Tk.Tok) (h:k<l.length) (he:Tk.tokAt l k=.ok t) (hn:acc.length=4000):Tk.lexGo (f+1) l k acc=([],k,3):=by
 rw[Tk.lexGo,if_neg (by omega),he]
 dsimp only
 rw[if_pos hn]
theorem zaK (f:Nat) (l:List UInt8) (k:Nat) (acc:List Tk.Tok) (t:Tk.Tok) (h:k<l.length) (he:Tk.tokAt l k=.ok t) (hn:acc.length≠4000) :
  Tk.lexGo (f+1) l k acc=Tk.lexGo f l (Tk.skipTo l (k+t.text.length)) (acc++[t]):=by
 rw[Tk.lexGo,if_neg (by omega),he]
 dsimp only
 rw[if_neg hn]
def zfk (w:World) (R:List Tk.Tok × Nat × Nat) (e:Ending) (w':World):Prop :=
 ∃v,e=.returned (.tuple #[v,.int .i64 (R.2.1:Int),.int .i64 (R.2.2:Int)])∧w'.ownsRow w.heap.size 67 4 v R.1.length (zaA R.1)∧Below w.heap.size w w'
theorem zaB {w w':World} {l:List UInt8} {k e0:Nat} (h:Tk.lex l=([],k,e0)) (hb:Below w.heap.size w w') :
  zfk w (Tk.lex l) (.returned (.tuple #[.slice none 0 0,.int .i64 (k:Int),.int .i64 (e0:Int)])) w':=by
 rw[h]
 exact⟨_,rfl,World.ownsRow_nil _ _ _ _,hb⟩
theorem zb3 {w w':World} {base:Nat} {e:TypeId} {size n:Nat} {v:Value} {xs:List Value} (h:w.ownsRow base e size v n xs) (hb:Below w.heap.size w w'):w'.ownsRow base e size v n xs:=by
 obtain⟨hl,h⟩:=h
 refine⟨hl,?_⟩
 rcases h with h|⟨g,cap,cur,e1,e2,hh,rest⟩
 ·
  exact .inl h
 ·
  exact .inr ⟨g,cap,cur,e1,e2,(hb.block g (lt_of_block hh)).trans hh,rest⟩
theorem zco {w:World} {base:Nat} {e:TypeId} {size n:Nat} {v:Value} {xs:List Value} (h:w.ownsRow base e size v n xs) (g:Nat) (hg:v.ownBlock=some g):base≤g∧g<w.heap.size:=by
 rcases h.2 with⟨rfl,_⟩|⟨g',cap,cur,rfl,hb,hh,_⟩
 ·
  cases hg
 ·
  have:g'=g:=by simpa[Value.ownBlock] using hg
  subst this
  exact⟨hb,lt_of_block hh⟩
theorem zbi {w:World} {base:Nat} {e:TypeId} {size n:Nat} {v:Value} {xs:List Value} (h:w.ownsRow base e size v n xs):∃A c,v=.slice A n c:=by
 rcases h.2 with⟨rfl,rfl⟩|⟨g',cap,cur,rfl,_⟩
 ·
  exact⟨_,_,rfl⟩
 ·
  exact⟨_,_,rfl⟩
theorem zbj (W:World) (g:Nat) (hg:g=W.heap.size) (c0 c1 c2 c3:Value) (t:TypeId) (j:Nat) (u:Value) (hj:[c0,c1,c2,c3][j]?=some u) :
  (W.alloc (.cells #[c0,c1,c2,c3] t)).cell? ((⟨g,0,none⟩:Addr).add j)=some u:=by
 subst hg
 have ha:(⟨W.heap.size,0,none⟩:Addr).add j=⟨W.heap.size,j,none⟩:=by
  unfold Addr.add
  split
  ·
   simp_all
  ·
   simp
 rw[ha,World.cell?_alloc_mark,←hj]
 simp
theorem zbB (t:Tk.Tok):∀u∈[Value.int .i64 (t.kind:Int),.string ⟨t.text.toArray⟩,.int .i64 (t.num:Int),.int .i64 (t.pos:Int)],u.oneCell'=true:=by
 intro u hu
 simp at hu
 rcases hu with rfl|rfl|rfl|rfl<;>rfl
theorem zj2 {w wr w2 w5:World} {e size n:Nat} {v:Value} {xs:List Value} {c0 c1 c2 c3:Value} {t:TypeId} {o:Obj} (ho:wr.ownsRow w.heap.size e size v n xs) (hw:Below w.heap.size w wr) (hb:Below wr.heap.size wr w2)
  (hg:((w2.alloc (.cells #[c0,c1,c2,c3] t)).alloc o).grownBy w5 v.ownBlock):w5.cell? ⟨w2.heap.size,1,none⟩=some c1∧Below w.heap.size w w5:=by
 have h1:=hw.size
 have h2:=hb.size
 have hs:((w2.alloc (.cells #[c0,c1,c2,c3] t)).alloc o).heap.size=w2.heap.size+2:=by simp
 constructor
 ·
  have hne:some w2.heap.size≠v.ownBlock:=by
   intro h
   have:=(zco ho _ h.symm).2
   omega
  have hc:w5.cell? ⟨w2.heap.size,1,none⟩=((w2.alloc (.cells #[c0,c1,c2,c3] t)).alloc o).cell? ⟨w2.heap.size,1,none⟩:=World.cell?_of_block (hg.block w2.heap.size (by rw[hs];omega) hne)
  rw[hc,World.cell?_alloc_lt _ _ _ (by simp),World.cell?_alloc_mark]
  rfl
 ·
  exact(((hw.trans (hb.mono h1)).alloc (by omega) _).alloc (by simp;omega) _).grown hg (by rw[hs];omega) (fun k hk=>(zco ho k hk).1)
theorem Tryd.infoTok:(Tryd.prog.info? 67).map (fun i=>(i.zero,i.size,i.bytes))=some (some (.agg #[.int .i64 0,.string ⟨#[]⟩,.int .i64 0,.int .i64 0]),4,40):=by kernel_rfl
set_option maxRecDepth 100000 in
set_option maxHeartbeats 1000000 in
theorem lex_any (l:List UInt8) (ao:Option Addr) (cap:Nat) (w:World) (hB:Byt w ao l) (hl:l.length≤262144) (hcap:l.length≤cap) :
  Calls Tryd.prog 18 #[.slice ao l.length cap] w (zfk w (Tk.lex l)):=by
 obtain⟨i0,hi,hz0,hz1,hz2⟩:=info_parts Tryd.infoTok
 have HB:=Lib.hid hB
 clear hB
 have HR:Hid (Tk.lex l=Tk.lexGo (l.length+1) l (Tk.skipTo l 0) []):=by unfold Tk.lex;rw[if_neg (by omega)];rfl
 have hb0:decide (262144<(l.length:Int))=false:=by simp;omega
 have hk0:=Tk.skipTo_le l 0 (Nat.zero_le _)
 go_enter Tryd.func18,Tryd.ntmps18
 go_wp2_with (first|(go_at_call 35;refine(zgP l _ cap _ w HB.out (by omega) (by omega) (by omega)).mono ?_;rintro e w' ⟨rfl,rfl⟩))
 clear hb0
 go_loopw [5,6,7,8] (fun v i _ _ wr=>∃(k f:Nat) (acc:List Tk.Tok),k≤l.length∧i=.int .i64 k∧acc.length≤4000∧l.length-k<f∧wr.ownsRow w.heap.size 67 4 v acc.length (zaA acc)∧Below w.heap.size w wr∧Hid (Tk.lexGo f l k acc=Tk.lex l))
  (fun _ i _ _ _=>l.length-(intOf i).toNat)
 case atStart=>exact⟨Tk.skipTo l 0,l.length+1,[],hk0,rfl,by simp,by omega,World.ownsRow_nil _ _ _ _,Below.refl _ _,HR.out.symm⟩
 case round =>
  obtain⟨k,f,acc,hk,rfl,hacc,hf,hown,hbel,hgo⟩:=hrel
  clear HR hk0
  obtain⟨f,rfl⟩:∃g,f=g+1:=⟨f-1,by omega⟩
  obtain⟨sa,sc,rfl⟩:=zbi hown
  by_cases hlt:k<l.length
  ·
   have HW:=Lib.hid (HB.out.later hbel)
   have HO:=Lib.hid hown
   have HBE:=Lib.hid hbel
   clear hown hbel
   cases ht:Tk.tokAt l k with
   | error e0 =>
    have he:=zg6 l k e0 ht
    have HE:=Lib.hid (zbo f l k e0 acc hlt ht)
    have HT:=Lib.hid ht
    clear ht
    have t0:=bF (show ((e0:Nat):Int)≠0 by omega)
    have t1:=nT (show ((e0:Nat):Int)≠0 by omega)
    go_wp2_with (first|(go_at_call 36;refine(zeX l _ cap k _ HW.out hlt (by omega) hcap).mono ?_;rintro e w2 ⟨rfl,hb⟩;rw[HT.out];unfold zbq noTok))
    go_ret3
    exact zaB (hgo.out.symm.trans HE.out) ((HBE.out.trans (hb.mono HBE.out.size)).alloc (Nat.le_trans HBE.out.size hb.size) _)
   | ok t =>
    obtain⟨hp,hle,hpos⟩:=zfo l k t hlt ht
    have HT:=Lib.hid ht
    have HP:=Lib.hid hpos
    clear ht hpos
    by_cases hn:acc.length=4000
    ·
     have HE:=Lib.hid (zaU f l k acc t hlt HT.out hn)
     have tn:=bT (show ((acc.length:Nat):Int)=4000 by omega)
     clear hn
     go_wp2_with (first|(go_at_call 36;refine(zeX l _ cap k _ HW.out hlt (by omega) hcap).mono ?_;rintro e w2 ⟨rfl,hb⟩;rw[HT.out];unfold zbq zi5))
     go_ret3
     exact zaB (hgo.out.symm.trans HE.out) ((HBE.out.trans (hb.mono HBE.out.size)).alloc (Nat.le_trans HBE.out.size hb.size) _)
    ·
     have HE:=Lib.hid (zaK f l k acc t hlt HT.out hn)
     have tn:=bF (show ((acc.length:Nat):Int)≠4000 by omega)
     have hn':acc.length<4000:=by omega
     clear hn
     go_wp2_with (first|(go_at_call 36;refine(zeX l _ cap k _ HW.out hlt (by omega) hcap).mono ?_;rintro e w2 ⟨rfl,hb⟩;rw[HT.out];unfold zbq zi5)|(at_builtin;refine wpList_append_own _ rfl (.tmp 35) (.tmp 37) 38 rfl w.heap.size 67 i0 _ 4 40 Tryd.underlying38 hi hz0 hz1 hz2 rfl (by decide) _ acc.length (zaA acc) rfl (((zb3 HO.out hb).alloc _).alloc _) ⟨w2.heap.size+1,0,none⟩ 1 1 [.int .i64 (t.kind:Int),.string ⟨t.text.toArray⟩,.int .i64 (t.num:Int),.int .i64 (t.pos:Int)] rfl rfl (zbj (w2.alloc _) (w2.heap.size+1) (by simp) _ _ _ _ _) (zbB t) (by unfold maxLen;omega) (by omega) (by have:=HBE.out.size;have:=hb.size;simp;omega) ?_))
     intro v' w5 hown' hgrow _
     obtain⟨hq,hbel5⟩:=zj2 HO.out HBE.out hb hgrow
     have HO':=Lib.hid hown'
     have HBE':=Lib.hid hbel5
     clear hown' hgrow hbel5
     go_wp2_with (first|(go_at_call 35;refine(zgP l _ cap _ _ (HB.out.later HBE'.out) (by omega) (by omega) (by omega)).mono ?_;rintro e w' ⟨rfl,rfl⟩))
     go_roundw
     case rel =>
      have e1:((k:Int)+(t.text.length:Int)).toNat=k+t.text.length:=by omega
      refine⟨Tk.skipTo l (k+t.text.length),f,acc++[t],Tk.skipTo_le l _ hle,by rw[e1],by simp;omega,?_,?_,HBE'.out,(HE.out.symm.trans hgo.out:_=_)⟩
      ·
       have:k+t.text.length≤Tk.skipTo l (k+t.text.length):=by unfold Tk.skipTo;omega
       omega
      ·
       have:=HO'.out
       rw[←zaG] at this
       simpa using this
     case measure =>
      have e1:((k:Int)+(t.text.length:Int)).toNat=k+t.text.length:=by omega
      rw[e1]
      have:k+t.text.length≤Tk.skipTo l (k+t.text.length):=by unfold Tk.skipTo;omega
      simp[intOf]
      omega
  ·
   have HE:=Lib.hid (zbU f l k acc (by omega))
   have HO:=Lib.hid hown
   have HBE:=Lib.hid hbel
   clear hown hbel
   go_wp2_with (first|(at_builtin;refine wpList_append_own _ rfl (.tmp 46) (.tmp 50) 38 rfl w.heap.size 67 i0 _ 4 40 Tryd.underlying38 hi hz0 hz1 hz2 rfl (by decide) _ acc.length (zaA acc) rfl (HO.out.alloc _) ⟨wr.heap.size,0,none⟩ 1 1 [.int .i64 5,.string ⟨#[]⟩,.int .i64 0,.int .i64 (l.length:Int)] rfl rfl (zbj wr wr.heap.size rfl _ _ _ _ _) (zbB ⟨5,[],0,l.length⟩) (by unfold maxLen;omega) (by omega) (by have:=HBE.out.size;simp;omega) ?_))
   intro v' w5 hown' hgrow _
   have hbel5:=(HBE.out.alloc HBE.out.size _).grown hgrow (Nat.le_trans HBE.out.size (by simp)) (fun k hk=>(zco HO.out k hk).1)
   have HO':=Lib.hid hown'
   have HBE':=Lib.hid hbel5
   clear hown' hgrow hbel5
   go_wp2
   go_ret3
   have hR:=hgo.out.symm.trans HE.out
   rw[hR]
   refine⟨v',rfl,?_,HBE'.out⟩
   have:=HO'.out
   rw[show (acc++[(⟨5,[],0,l.length⟩:Tk.Tok)]).length=acc.length+1 by simp,zaG]
   exact this
end Go.Proofs.YtlnbmmgbfgmboaaDoor

namespace Go.Proofs.YtlnbmmgbfgmboaaDoor
def digC (k:Nat):UInt8:=UInt8.ofNat (48+k % 10)
def zaC:Nat→Nat→List UInt8→List UInt8
 | 0,_,s=>s
 | f+1,k,s=>if k>0∨s=[] then zaC f (k / 10) (digC k::s) else s
theorem zfc (k:Nat):(digC k).toNat=48+k % 10∧Tk.isDig (digC k)=true:=by
 have h1:(digC k).toNat=48+k % 10:=by
  unfold digC
  rw[UInt8.toNat_ofNat']
  omega
 refine⟨h1,?_⟩
 unfold Tk.isDig
 rw[h1]
 simp
 omega
def zcK (n:Nat) (s:List UInt8):Nat:=s.foldl (fun n c=>10*n+(c.toNat-48)) n
theorem zd4 (n:Nat) (c:UInt8) (r:List UInt8):zcK n (c::r)=zcK (10*n+(c.toNat-48)) r:=by
 unfold zcK
 rw[List.foldl_cons]
theorem zdA (n:Nat):zcK n []=n:=by
 unfold zcK
 rw[List.foldl_nil]
theorem zjc (n:Nat) (s:List UInt8):n≤zcK n s:=by
 induction s generalizing n with
 | nil=>rw[zdA];exact Nat.le_refl _
 | cons c r ih =>
  have:=ih (10*n+(c.toNat-48))
  rw[zd4]
  omega
theorem zgq (n:Nat) (c:UInt8) (r:List UInt8):Tk.numVal n (c::r)=if n>(9223372036854775807-(c.toNat-48)) / 10 then none else Tk.numVal (10*n+(c.toNat-48)) r:=rfl
theorem zfP (s:List UInt8) (hd:∀c∈s,Tk.isDig c=true) (n:Nat) (h:zcK n s≤9223372036854775807):Tk.numVal n s=some (zcK n s):=by
 induction s generalizing n with
 | nil=>rw[zdA];rfl
 | cons c r ih =>
  have hc:=hd c (by simp)
  have hc':48≤c.toNat∧c.toNat≤57:=by simpa[Tk.isDig] using hc
  rw[zd4] at h ⊢
  have:=zjc (10*n+(c.toNat-48)) r
  rw[zgq,if_neg (by omega)]
  exact ih (fun x hx=>hd x (by simp[hx])) _ h
theorem zgF (f k:Nat) (s:List UInt8) (hk:k<10 ^ f) (hs:s≠[]∨0<f):zcK 0 (zaC f k s)=zcK k s:=by
 induction f generalizing k s with
 | zero =>
  have:k=0:=by simpa using hk
  subst this
  rfl
 | succ f ih =>
  rw[zaC]
  by_cases h:k>0∨s=[]
  ·
   rw[if_pos h,ih (k / 10) _ (by rw[Nat.pow_succ] at hk;omega) (.inl (by simp)),zd4,(zfc k).1]
   congr 1
   omega
  ·
   rw[if_neg h]
   have:k=0:=by omega
   subst this
   rfl
theorem zgH (f k:Nat) (s:List UInt8) (hs:∀c∈s,Tk.isDig c=true):∀c∈zaC f k s,Tk.isDig c=true:=by
 induction f generalizing k s with
 | zero=>exact hs
 | succ f ih =>
  rw[zaC]
  split
  ·
   refine ih _ _ (fun c hc=>?_)
   rcases List.mem_cons.1 hc with rfl|hc
   ·
    exact(zfc k).2
   ·
    exact hs c hc
  ·
   exact hs
theorem zgG (f k:Nat) (s:List UInt8):(zaC f k s).length≤s.length+f:=by
 induction f generalizing k s with
 | zero=>simp[zaC]
 | succ f ih =>
  rw[zaC]
  split
  ·
   have:=ih (k / 10) (digC k::s)
   rw[List.length_cons] at this
   omega
  ·
   omega
theorem zhU (f k:Nat) (s:List UInt8) (hs:s≠[]):zaC f k s≠[]:=by
 induction f generalizing k s with
 | zero=>exact hs
 | succ f ih =>
  rw[zaC]
  split
  ·
   exact ih _ _ (by simp)
  ·
   exact hs
theorem dig_nums (c:UInt8) (h:Tk.isDig c=true):48≤c.toNat∧c.toNat≤57∧Tk.isLet c=false:=by
 have h1:48≤c.toNat∧c.toNat≤57:=by simpa[Tk.isDig] using h
 refine⟨h1.1,h1.2,?_⟩
 unfold Tk.isLet
 simp
 omega
end Go.Proofs.YtlnbmmgbfgmboaaDoor

namespace Go.Proofs.YtlnbmmgbfgmboaaDoor
open Go.RowKit
def TokS (w:World) (A:Option Addr) (ts:List Tk.Tok):Prop :=
 ∀i (h:i<ts.length),∃b,A=some ⟨b,0,none⟩∧w.cell? ⟨b,i*4,none⟩=some (.int .i64 (ts[i].kind:Int))∧w.cell? ⟨b,i*4+1,none⟩=some (.string ⟨ts[i].text.toArray⟩) ∧
  w.cell? ⟨b,i*4+2,none⟩=some (.int .i64 (ts[i].num:Int))∧w.cell? ⟨b,i*4+3,none⟩=some (.int .i64 (ts[i].pos:Int))
theorem TokS.later {w w':World} {A:Option Addr} {ts:List Tk.Tok} (h:TokS w A ts) (hb:Below w.heap.size w w'):TokS w' A ts:=by
 intro i hi
 obtain⟨b,e,h0,h1,h2,h3⟩:=h i hi
 exact⟨b,e,cell_later hb h0,cell_later hb h1,cell_later hb h2,cell_later hb h3⟩
theorem zg7 (ts:List Tk.Tok) (i:Nat) (h:i<ts.length):(zaA ts)[i*4]?=some (.int .i64 (ts[i].kind:Int))∧(zaA ts)[i*4+1]?=some (.string ⟨ts[i].text.toArray⟩) ∧
  (zaA ts)[i*4+2]?=some (.int .i64 (ts[i].num:Int))∧(zaA ts)[i*4+3]?=some (.int .i64 (ts[i].pos:Int)):=by
 induction ts generalizing i with
 | nil=>simp at h
 | cons t r ih =>
  have:zaA (t::r)=.int .i64 (t.kind:Int)::.string ⟨t.text.toArray⟩::.int .i64 (t.num:Int)::.int .i64 (t.pos:Int)::zaA r:=by simp[zaA]
  rw[this]
  cases i with
  | zero=>simp
  | succ j =>
   have:=ih j (by simpa using h)
   have e:(j+1)*4=j*4+4:=by omega
   rw[e]
   simpa using this
theorem TokS.of_own {w:World} {base n:Nat} {A:Option Addr} {c:Nat} {ts:List Tk.Tok} (hn:n=ts.length) (h:w.ownsRow base 67 4 (.slice A n c) n (zaA ts)):TokS w A ts:=by
 subst hn
 intro i hi
 have h':=h
 obtain⟨_,h2⟩:=h'
 rcases h2 with⟨_,h0⟩|⟨g,cap,cur,e,_⟩
 ·
  omega
 ·
  injection e with e1 _ e3
  subst e1 e3
  have hc:=fun j hj=>World.ownsRow.cellAt h j hj
  obtain⟨q0,q1,q2,q3⟩:=zg7 ts i hi
  exact⟨g,rfl,(hc _ (by omega)).trans q0,(hc _ (by omega)).trans q1,(hc _ (by omega)).trans q2,(hc _ (by omega)).trans q3⟩
theorem zh3 (W:World) (g:Nat) (hg:g=W.heap.size) (c0:Value) (t:TypeId) (j:Nat) (u:Value) (hj:[c0][j]?=some u) :
  (W.alloc (.cells #[c0] t)).cell? ((⟨g,0,none⟩:Addr).add j)=some u:=by
 subst hg
 have ha:(⟨W.heap.size,0,none⟩:Addr).add j=⟨W.heap.size,j,none⟩:=by
  unfold Addr.add
  split
  ·
   simp_all
  ·
   simp
 rw[ha,World.cell?_alloc_mark,←hj]
 simp
theorem ziR (c:ByteArray):∀u∈[Value.string c],u.oneCell'=true:=by
 intro u hu
 simp at hu
 subst hu
 rfl
theorem Tryd.infoStr:(Tryd.prog.info? 9).map (fun i=>(i.zero,i.size,i.bytes))=some (some (.string ⟨#[]⟩),1,16):=by kernel_rfl
theorem zat {B:Nat} {a w:World} (h:Below B a w) (n:Nat):Below B a (w.drewN n):=⟨h.os,h.tape,h.output,h.size,h.block⟩
theorem zcH {w w':World} {R:List Tk.Tok × Nat × Nat} {e:Ending} (h:zfk w R e w'):∃A c,e=.returned (.tuple #[.slice A R.1.length c,.int .i64 (R.2.1:Int),.int .i64 (R.2.2:Int)])∧TokS w' A R.1∧Below w.heap.size w w':=by
 obtain⟨v,rfl,hown,hb⟩:=h
 obtain⟨A,c,rfl⟩:=zbi hown
 exact⟨A,c,rfl,TokS.of_own rfl hown,hb⟩
theorem zj4 (f:Nat) (l:List UInt8) (k:Nat) (acc:List Tk.Tok) (h:acc.length≤4000):(Tk.lexGo f l k acc).1.length≤4001:=by
 induction f generalizing k acc with
 | zero=>simp[Tk.lexGo]
 | succ f ih =>
  rw[Tk.lexGo]
  split
  ·
   simp;omega
  ·
   split
   ·
    simp
   ·
    split
    ·
     simp
    ·
     exact ih _ _ (by simp;omega)
theorem zgv (l:List UInt8):(Tk.lex l).1.length≤4001:=by
 unfold Tk.lex
 split
 ·
  simp
 ·
  exact zj4 _ _ _ _ (by simp)
end Go.Proofs.YtlnbmmgbfgmboaaDoor

namespace Go.Proofs.YtlnbmmgbfgmboaaDoor
open Go.RowKit
theorem bapp (a b:List UInt8):(⟨a.toArray⟩:ByteArray)++(⟨b.toArray⟩:ByteArray)=⟨(a++b).toArray⟩:=by
 apply ByteArray.ext
 simp
theorem zcp (s:List UInt8) (w:World):∃c W1,(convert 9 33 (.string ⟨s.toArray⟩)).run Tryd.prog w=.ok (.slice (some ⟨w.heap.size,0,none⟩) s.length c) W1∧Byt W1 (some ⟨w.heap.size,0,none⟩) s∧s.length≤c∧Below w.heap.size w W1:=by
 have h:=run_bytes_of_string (P:=Tryd.prog) w 9 33 5 ⟨s.toArray⟩ Tryd.underlying9 Tryd.underlying33 Tryd.underlying5
 have hs:(⟨s.toArray⟩:ByteArray).size=s.length:=by simp[ByteArray.size]
 rw[hs] at h
 refine⟨_,_,h,?_,grownCap_ge _ _ _ _,((Below.refl _ _).drew).alloc (Nat.le_refl _) _⟩
 intro i hi
 refine⟨_,_,rfl,?_⟩
 rw[Nat.zero_add]
 refine(World.cell?_alloc_mark w.drew _ _ _ i).trans ?_
 rw[bytesRow_at _ _ i (by simpa using hi)]
 simp
theorem zha (k:Nat) (W:World) (g:Nat) (hg:g=W.heap.size):(convert 33 9 (.slice (some ⟨g,0,none⟩) 1 1)).run Tryd.prog (W.alloc (.cells #[.int .u8 (48+(k:Int) % 10)] 5))=.ok (.string ⟨[digC k].toArray⟩) (W.alloc (.cells #[.int .u8 (48+(k:Int) % 10)] 5)):=by
 subst hg
 refine run_convert_bytes_back (P:=Tryd.prog) _ 33 9 5 ⟨W.heap.size,0,none⟩ 1 [digC k] Tryd.underlying33 Tryd.underlying5 Tryd.underlying9 ?_
 intro j hj
 have hj0:j=0:=by simpa using hj
 subst hj0
 have ha:(⟨W.heap.size,0,none⟩:Addr).add 0=⟨W.heap.size,0,none⟩:=by simp[Addr.add]
 rw[ha,World.cell?_alloc_mark]
 have:=(zfc k).1
 simp only[List.getElem_cons_zero,this]
 simp
theorem zdB (f k:Nat) (s:List UInt8) (h:k>0∨s=[]):zaC (f+1) k s=zaC f (k / 10) (digC k::s):=by rw[zaC,if_pos h]
theorem zfZ (f k:Nat) (s:List UInt8) (h:¬(k>0∨s=[])):zaC f k s=s:=by
 cases f with
 | zero=>rfl
 | succ f=>rw[zaC,if_neg h]
end Go.Proofs.YtlnbmmgbfgmboaaDoor

namespace Go.Proofs.YtlnbmmgbfgmboaaDoor
open Go.RowKit
def Ex.op:Ex→Int|.mk o _ _ _=>o
def Ex.num:Ex→Int|.mk _ n _ _=>n
def Ex.name:Ex→List UInt8|.mk _ _ s _=>s
def Ex.args:Ex→List Ex|.mk _ _ _ l=>l
def zav (op:Int) (aop:Int) (k:Nat):Bool:=decide (strV aop<strV op)||(strV aop==strV op&&k==1)
theorem za1 {w w1 w2:World} (h1:Below w.heap.size w w1) (h2:Below w1.heap.size w1 w2):Below w.heap.size w w2:=h1.trans (h2.mono h1.size)
theorem zae {w w1 w2:World} (h2:Below w1.heap.size w1 w2) (h1:Below w.heap.size w w1):Below w.heap.size w w2:=h1.trans (h2.mono h1.size)
set_option maxRecDepth 100000 in
set_option maxHeartbeats 1000000 in
theorem zj7 (w:World) (f:EF) (b off k:Nat) (aop:Int) (hA:f.A=some ⟨b,off,none⟩) (hk:k<f.n) (hn:f.n≤1000000) (hc:w.cell? ⟨b,off+k*4,none⟩=some (.int .i64 aop)) :
  Calls Tryd.prog 75 #[f.val,.int .i64 (k:Int)] w fun e w'=>e=.returned (.bool (zav f.op aop k))∧Below w.heap.size w w':=by
 obtain⟨op,num,name,A,n,c⟩:=f
 dsimp only at hA hk hn ⊢
 subst hA
 unfold EF.val
 dsimp only
 have hbl:b<w.heap.size:=World.block_lt_of_cell? _ _ hc
 have hcc:(w.alloc (.cells #[.int .i64 op,.int .i64 num,.string ⟨name.toArray⟩,.slice (some ⟨b,off,none⟩) n c] 76)).cell? ⟨b,off+k*4,none⟩=some (.int .i64 aop):=(World.cell?_alloc_lt _ _ _ hbl).trans hc
 have i0:(0:Int)≤(k:Int):=by omega
 have i1:(k:Int)<(n:Int):=by omega
 go_enter Tryd.func75,Tryd.ntmps75
 go_wp2
 have hb0:Below w.heap.size w (w.alloc (.cells #[.int .i64 op,.int .i64 num,.string ⟨name.toArray⟩,.slice (some ⟨b,off,none⟩) n c] 76)):=(Below.refl _ _).alloc (Nat.le_refl _) _
 go_region_held3 (fun w'=>w'.cell? ⟨w.heap.size,0,none⟩=some (.int .i64 op)∧w'.cell? ⟨w.heap.size,3,none⟩=some (.slice (some ⟨b,off,none⟩) n c)∧w'.cell? ⟨b,off+k*4,none⟩=some (.int .i64 aop)∧Below w.heap.size w w')
  (refine⟨?_,?_,?_,?_⟩<;>first|assumption|(simp[*];done)|(refine Below.drew ?_;assumption))
  (first|(go_at_call 77;refine(zbR _ _).mono ?_;rintro e w' ⟨rfl,hb⟩;obtain⟨k0,k3,kc,hbw⟩:=‹_∧_∧_∧Below w.heap.size w _›;have r0:=cell_later hb k0;have r3:=cell_later hb k3;have rc:=cell_later hb kc;have rb:=zae hb hbw;clear k0 k3 kc hbw hb))
 clear r0 r3 rc
 have HB:=Lib.hid rb
 clear rb
 go_wp2
 all_goals
  go_ret
  refine⟨zal ?_,HB.out⟩
  rw[Bool.eq_iff_iff]
  simp[zav]
  omega
def zas (n:Int):List UInt8:=if n<0 then 45::zaC 20 (-n).toNat [] else zaC 20 n.toNat []
theorem zfd (n:Nat):zaC 19 (n / 10) [digC n]=zaC 20 n []:=by
 conv=>rhs;rw[show (20:Nat)=19+1 from rfl,zdB 19 n [] (.inr rfl)]
set_option maxRecDepth 100000 in
set_option maxHeartbeats 1000000 in
theorem zeQ (n:Nat) (w:World) (hn:n≤18446744073709551615) :
  Calls Tryd.prog 53 #[.int .u64 (n:Int)] w fun e w'=>e=.returned (.string ⟨(zaC 20 n []).toArray⟩)∧Below w.heap.size w w':=by
 have hcv:=zha n w w.heap.size rfl
 go_enter Tryd.func53,Tryd.ntmps53
 go_wp2
 clear hcv
 go_loopw [0,3] (fun i v wr=>∃(k f:Nat) (s:List UInt8),k≤18446744073709551615∧v=.string ⟨s.toArray⟩∧i=.int .u64 k∧s.length+f≤20∧Hid (k<10 ^ f)∧Hid (s≠[]∧zaC f k s=zaC 20 n [])∧Below w.heap.size w wr)
  (fun i _ _=>(intOf i).toNat)
 case atStart=>exact⟨n / 10,19,[digC n],by omega,rfl,by go_num,by simp,by show _<_;omega,⟨by simp,zfd n⟩,(Below.refl _ _).alloc (Nat.le_refl _) _⟩
 case round =>
  obtain⟨k,f,s,hk,rfl,rfl,hsl,hf,hrel,hbel⟩:=hrel
  have HBE:=Lib.hid hbel
  clear hbel
  have hcv:=zha k wr wr.heap.size rfl
  have happ:=bapp
  by_cases hk0:0<k
  ·
   have hfpos:Hid (0<f):=by
    have:=hf.out
    rcases Nat.eq_zero_or_pos f with h|h
    ·
     subst h
     simp at this
     omega
    ·
     exact h
   go_wp2
   go_roundw
   case rel =>
    have h1:=hf.out
    have hfp:=hfpos.out
    obtain⟨f',rfl⟩:∃g,f=g+1:=⟨f-1,by omega⟩
    refine⟨k / 10,f',digC k::s,by omega,?_,?_,by simp;omega,?_,⟨by simp,?_⟩,HBE.out.alloc HBE.out.size _⟩
    ·
     rfl
    ·
     go_num
    ·
     rw[Nat.pow_succ] at h1
     show _<_
     omega
    ·
     exact(zdB f' k s (.inl hk0)).symm.trans hrel.out.2
   case measure =>
    simp[intOf]
    omega
  ·
   have HD:=Lib.hid ((zfZ f k s (by simp[hrel.out.1];omega)).symm.trans hrel.out.2)
   go_wp2
   go_ret
   exact⟨by rw[←HD.out];rfl,HBE.out⟩
theorem zhT (x:Int) (w:World) (h0:0≤x) (h1:x≤18446744073709551615) :
  Calls Tryd.prog 53 #[.int .u64 x] w fun e w'=>e=.returned (.string ⟨(zaC 20 x.toNat []).toArray⟩)∧Below w.heap.size w w':=by
 obtain⟨m,rfl⟩:=Int.eq_ofNat_of_zero_le h0
 exact zeQ m w (by omega)
theorem zcw (n:Nat):(zaC 20 n []).length≤20:=by
 have:=zgG 20 n []
 simpa using this
theorem zd1 (n:Int):(zas n).length≤21:=by
 unfold zas
 split
 ·
  have:=zcw (-n).toNat
  simp
  omega
 ·
  have:=zcw n.toNat
  omega
set_option maxRecDepth 100000 in
set_option maxHeartbeats 1000000 in
theorem zcj (n:Int) (w:World) (h0:-9223372036854775808≤n) (h1:n≤9223372036854775807) :
  Calls Tryd.prog 33 #[.int .i64 n] w fun e w'=>e=.returned (.string ⟨(zas n).toArray⟩)∧Below w.heap.size w w':=by
 by_cases hn:n<0
 ·
  have HT:Hid (zas n=45::zaC 20 (-n).toNat []):=if_pos hn
  have happ:=bapp
  have hdl:=zcw (-n).toNat
  go_enter Tryd.func33,Tryd.ntmps33
  go_wp2_with fail
  refine(zhT (-(n+1)+1) w (by omega) (by omega)).mono ?_
  rintro e w1 ⟨rfl,hb⟩
  rw[show (-(n+1)+1).toNat=(-n).toNat by omega]
  go_wp2_with fail
  go_ret
  exact⟨by rw[HT.out];rfl,hb⟩
 ·
  have HT:Hid (zas n=zaC 20 n.toNat []):=if_neg hn
  obtain⟨m,rfl⟩:=Int.eq_ofNat_of_zero_le (show 0≤n by omega)
  go_enter Tryd.func33,Tryd.ntmps33
  go_wp2_with fail
  refine(zeQ m w (by omega)).mono ?_
  rintro e w1 ⟨rfl,hb⟩
  go_wp2_with fail
  go_ret
  exact⟨by rw[HT.out,Int.toNat_natCast];rfl,hb⟩
end Go.Proofs.YtlnbmmgbfgmboaaDoor

namespace Go.Proofs.YtlnbmmgbfgmboaaDoor
open Go.RowKit
def zdS:List Int→List (List UInt8)→Int→Option (List UInt8)
 | o::os,s::ss,op=>if o=op then some s else zdS os ss op
 | _,_,_=>none
def zeE (op:Int):Option (List UInt8):=zdS (sgO (strV op:Int)) (sgS (strV op:Int)) op
def zaT (op num:Int) (name:List UInt8) (ps:List (List UInt8)):List UInt8 :=
 if op=1 then zas num else if op=2 then name else if op=3 then 45::ps.getD 0 [] else if op=4 then 33::ps.getD 0 [] else
 match zeE op with
 | some s=>ps.getD 0 []++[32]++s++[32]++ps.getD 1 []
 | none=>[]
mutual
def zad:Ex→List UInt8
 | .mk op num name args=>zaT op num name (zbk op 0 args)
def zbk (op:Int):Nat→List Ex→List (List UInt8)
 | _,[]=>[]
 | k,e::r=>(if zav op e.op k then 40::(zad e++[41]) else zad e)::zbk op (k+1) r
end
def zaE (op:Int) (k:Nat) (e:Ex):List UInt8:=if zav op e.op k then 40::(zad e++[41]) else zad e
theorem zba (op num:Int) (name:List UInt8) (args:List Ex):zad (.mk op num name args)=zaT op num name (zbk op 0 args):=by rw[zad]
theorem zaH (op:Int) (k:Nat) (e:Ex) (r:List Ex):zbk op k (e::r)=zaE op k e::zbk op (k+1) r:=by rw[zbk,zaE]
theorem zb9 (op:Int) (k:Nat):zbk op k []=[]:=by rw[zbk]
theorem zgC (op:Int) (k:Nat) (args:List Ex):(zbk op k args).length=args.length:=by
 induction args generalizing k with
 | nil=>rw[zb9];rfl
 | cons e r ih=>rw[zaH,List.length_cons,ih,List.length_cons]
theorem zdN (op:Int) (k:Nat) (args:List Ex) (m:Nat) (h:m<args.length):zbk op k (args.take (m+1))=zbk op k (args.take m)++[zaE op (k+m) args[m]]:=by
 induction args generalizing k m with
 | nil=>simp at h
 | cons e r ih =>
  cases m with
  | zero=>simp[zaH,zb9]
  | succ m =>
   have:=ih (k+1) m (by simpa using h)
   rw[List.take_succ_cons,List.take_succ_cons,zaH,zaH,this]
   simp
   congr 1
   omega
inductive ExOk:Ex→Prop
 | mk (op num:Int) (name:List UInt8) (args:List Ex) (hn:-9223372036854775808≤num∧num≤9223372036854775807)
   (ha:(op=1∨op=2)∧args.length=0∨(op=3∨op=4)∧args.length=1∨5≤op∧op≤17∧args.length=2) (hs:∀i (h:i<args.length),ExOk args[i]):ExOk (.mk op num name args)
theorem zcY (op:Int) (h:5≤op∧op≤17):∃s,zeE op=some s∧s.length≤2:=by
 have hc:op=5∨op=6∨op=7∨op=8∨op=9∨op=10∨op=11∨op=12∨op=13∨op=14∨op=15∨op=16∨op=17:=by omega
 rcases hc with rfl|rfl|rfl|rfl|rfl|rfl|rfl|rfl|rfl|rfl|rfl|rfl|rfl<;>exact⟨_,rfl,by decide⟩
theorem zgc (os:List Int) (ss:List (List UInt8)) (op:Int) (m:Nat) (h:m<os.length) (h':m<ss.length) (he:os[m]=op) (hn:op∉os.take m):zdS os ss op=some ss[m]:=by
 induction os generalizing ss m with
 | nil=>simp at h
 | cons o os ih =>
  cases ss with
  | nil=>simp at h'
  | cons s ss =>
   rw[zdS]
   cases m with
   | zero =>
    simp at he
    rw[if_pos he]
    rfl
   | succ m =>
    simp at hn he
    rw[if_neg (fun e=>hn.1 e.symm),ih ss m (by simpa using h) (by simpa using h') he hn.2]
    simp
theorem sg_len (level:Int):(sgS level).length=(sgO level).length:=by
 unfold sgS sgO
 split<;>rfl
theorem sg_mem (op:Int) (h:5≤op∧op≤17):op∈sgO (strV op:Int):=by
 have hc:op=5∨op=6∨op=7∨op=8∨op=9∨op=10∨op=11∨op=12∨op=13∨op=14∨op=15∨op=16∨op=17:=by omega
 rcases hc with rfl|rfl|rfl|rfl|rfl|rfl|rfl|rfl|rfl|rfl|rfl|rfl|rfl<;>decide
theorem sgS_len2 (level:Int) (m:Nat) (h:m<(sgS level).length):((sgS level)[m]).length≤2:=by
 have hm:=List.getElem_mem h
 generalize (sgS level)[m]=x at hm
 unfold sgS at hm
 split at hm<;>simp at hm<;>(first|(subst hm;decide)|(rcases hm with h|h|h|h|h|h<;>subst h<;>decide)|(rcases hm with h|h|h<;>subst h<;>decide)|(rcases hm with h|h<;>subst h<;>decide))
theorem zdR (op num:Int) (name:List UInt8) (args:List Ex) (i:Nat) (h:i<args.length):SizeOf.sizeOf args[i]<SizeOf.sizeOf (Ex.mk op num name args):=by
 have h1:=List.sizeOf_lt_of_mem (List.getElem_mem h)
 have h2:SizeOf.sizeOf args<SizeOf.sizeOf (Ex.mk op num name args):=by simp;omega
 omega
theorem ExM.op_eq {w:World} {S:Nat→Prop} {E:Ex} {f:EF} (h:ExM w S E f):f.op=E.op:=by
 cases h
 rfl
theorem ExM.later {w w':World} {S:Nat→Prop} {E:Ex} {f:EF} (h:ExM w S E f) (hb:Below w.heap.size w w'):ExM w' S E f:=h.keep fun b _ hlt=>hb.block b hlt
theorem part_le (op num:Int) (name:List UInt8) (args:List Ex) (hok:ExOk (.mk op num name args)) (i:Nat) (h:i<args.length):(zad args[i]).length≤(zad (.mk op num name args)).length∧(zaE op i args[i]).length≤(zad (.mk op num name args)).length:=by
 have hp:(zad args[i]).length≤(zaE op i args[i]).length:=by
  unfold zaE
  split
  ·
   simp;omega
  ·
   exact Nat.le_refl _
 suffices hq:(zaE op i args[i]).length≤(zad (.mk op num name args)).length from ⟨Nat.le_trans hp hq,hq⟩
 rw[zba]
 cases hok with
 | mk _ _ _ _ hn ha hs =>
  rcases ha with⟨_,h0⟩|⟨ho,h1⟩|⟨o1,o2,h2⟩
  ·
   omega
  ·
   obtain⟨a,rfl⟩:∃a,args=[a]:=List.length_eq_one_iff.1 h1
   have:i=0:=by simpa using h
   subst this
   simp only[zaH,zb9,List.getElem_cons_zero]
   unfold zaT
   rw[if_neg (by omega),if_neg (by omega)]
   rcases ho with rfl|rfl
   ·
    simp
   ·
    simp
  ·
   obtain⟨a,b,rfl⟩:∃a b,args=[a,b]:=by
    match args,h2 with
    | [a,b],_=>exact⟨a,b,rfl⟩
   obtain⟨s,hs,_⟩:=zcY op ⟨o1,o2⟩
   simp only[zaH,zb9]
   unfold zaT
   rw[if_neg (by omega),if_neg (by omega),if_neg (by omega),if_neg (by omega),hs]
   have hi:i=0∨i=1:=by simp at h;omega
   rcases hi with rfl|rfl
   ·
    simp
   ·
    simp
    omega
theorem zfW (w:World) (op num:Int) (name:List UInt8) (A:Option Addr) (n c b off k:Nat) (aop:Int) (hA:A=some ⟨b,off,none⟩) (hk:k<n) (hn:n≤1000000) (hc:w.cell? ⟨b,off+k*4,none⟩=some (.int .i64 aop)) :
  Calls Tryd.prog 75 #[.agg #[.int .i64 op,.int .i64 num,.string ⟨name.toArray⟩,.slice A n c],.int .i64 (k:Int)] w fun e w'=>e=.returned (.bool (zav op aop k))∧Below w.heap.size w w' :=
 zj7 w ⟨op,num,name,A,n,c⟩ b off k aop hA hk hn hc
def zcq (l:List (List UInt8)):List Value:=l.map fun s=>Value.string ⟨s.toArray⟩
theorem zdf (l:List (List UInt8)) (s:List UInt8):zcq (l++[s])=zcq l++[.string ⟨s.toArray⟩]:=by simp[zcq]
theorem zfL {w:World} {base:Nat} {e:TypeId} {size n c:Nat} {A:Option Addr} {xs:List Value} (h:w.ownsRow base e size (.slice A n c) n xs) (hn:0<n):∃g,A=some ⟨g,0,none⟩:=by
 rcases h.2 with⟨_,h0⟩|⟨g,cap,cur,e,_⟩
 ·
  omega
 ·
  injection e with e1
  exact⟨g,e1⟩
theorem zfX {w wr W w5:World} {o0 o:Obj} {e size n:Nat} {v:Value} {xs:List Value} (ho:wr.ownsRow (w.heap.size+1) e size v n xs) (hw:Below (w.alloc o0).heap.size (w.alloc o0) wr) (hb:Below wr.heap.size wr W)
  (hg:(W.alloc o).grownBy w5 v.ownBlock):Below (w.alloc o0).heap.size (w.alloc o0) w5:=by
 have h1:=hw.size
 have h2:=hb.size
 exact((hw.trans (hb.mono h1)).alloc (by omega) _).grown hg (by simp at *;omega) (fun k hk=>by have:=(zco ho k hk).1;simp;omega)
set_option maxRecDepth 100000 in
set_option maxHeartbeats 4000000 in
theorem zi7 (N:Nat):∀(E:Ex) (op num:Int) (name:List UInt8) (A:Option Addr) (n c:Nat) (w:World),SizeOf.sizeOf E<N→ExOk E→(zad E).length≤1000000000→ExM w (fun _=>True) E ⟨op,num,name,A,n,c⟩ →
  Calls Tryd.prog 54 #[.agg #[.int .i64 op,.int .i64 num,.string ⟨name.toArray⟩,.slice A n c]] w fun e w'=>e=.returned (.string ⟨(zad E).toArray⟩)∧Below w.heap.size w w':=by
 induction N with
 | zero=>intro E op num name A n c w h;omega
 | succ N ih =>
  intro E op num name A n c w hN hok hlen hM
  obtain⟨i0,hi,hz0,hz1,hz2⟩:=info_parts Tryd.infoStr
  have IH:=Lib.hid ih
  clear ih
  cases hM with
  | mk _ _ _ args _ _ F hc hs =>
  have HOK:=Lib.hid hok
  have HLEN:=Lib.hid hlen
  have HC:=Lib.hid hc
  have HS:=Lib.hid hs
  have hsz:=fun i h=>zdR op num name args i h
  have HSZ:=Lib.hid hsz
  have HPL:=Lib.hid (part_le op num name args hok)
  have hal:args.length≤2:=by
   cases hok with
   | mk _ _ _ _ hn ha hs=>omega
  have HIO:Hid (∀i (h:i<args.length),ExOk args[i]):=by
   cases hok with
   | mk _ _ _ _ hn ha hs=>exact hs
  clear hok hlen hc hs hsz
  have hb0:Below w.heap.size w (w.alloc (.cells #[.int .i64 op,.int .i64 num,.string ⟨name.toArray⟩,.slice A args.length c] 76)):=(Below.refl _ _).alloc (Nat.le_refl _) _
  have HB0:=Lib.hid hb0
  clear hb0
  go_enter Tryd.func54,Tryd.ntmps54
  go_wp2_with fail
  go_loopw [3,4,5] (fun v i _ wr=>∃k:Nat,k≤args.length∧i=.int .i64 k∧wr.ownsRow (w.heap.size+1) 9 1 v k (zcq (zbk op 0 (args.take k)))∧Below (w.alloc (.cells #[.int .i64 op,.int .i64 num,.string ⟨name.toArray⟩,.slice A args.length c] 76)).heap.size (w.alloc (.cells #[.int .i64 op,.int .i64 num,.string ⟨name.toArray⟩,.slice A args.length c] 76)) wr)
   (fun _ i _ _=>args.length-(intOf i).toNat)
  case atStart=>exact⟨0,Nat.zero_le _,rfl,by rw[List.take_zero,zb9];exact World.ownsRow_nil _ _ _ _,Below.refl _ _⟩
  case round =>
   obtain⟨k,hk,rfl,hown,hbel⟩:=hrel
   obtain⟨q0,q1,q2,q3,f0,f1,f2,f3,hz⟩:=zb4 hbel
   have HO:=Lib.hid hown
   have HBE:=Lib.hid hbel
   have HBW:=Lib.hid (za1 HB0.out hbel)
   clear hown hbel f0 f1 f2 f3
   by_cases hlt:k<args.length
   ·
    obtain⟨b,off,rfl,-,hat⟩:=HC.out k hlt
    have hat1:=hat.keep (HBW.out.block b hat.lt)
    obtain⟨a0,a1,a2,a3⟩:=hat1
    obtain⟨sa,sc,rfl⟩:=zbi HO.out
    have HCH:=Lib.hid ((HS.out k hlt).later HBW.out)
    have hopq:Hid ((F k).op=args[k].op):=(HS.out k hlt).op_eq
    have HPK:=Lib.hid (HPL.out k hlt)
    go_wp2_with fail
    refine(IH.out args[k] (F k).op (F k).num (F k).name (F k).A (F k).n (F k).c wr (by have:=HSZ.out k hlt;omega) (HIO.out k hlt) (Nat.le_trans HPK.out.1 HLEN.out) HCH.out).mono ?_
    rintro e w1 ⟨rfl,hb1⟩
    have q0':=cell_later hb1 q0
    have q1':=cell_later hb1 q1
    have q2':=cell_later hb1 q2
    have q3':=cell_later hb1 q3
    have a0':=cell_later hb1 a0
    have HB1:=Lib.hid hb1
    clear hb1 q0 q1 q2 q3 a0 a1 a2 a3
    have htl:Hid ((zad args[k]).length≤1000000000):=Nat.le_trans HPK.out.1 HLEN.out
    have hpt:zaE op k args[k]=if zav op args[k].op k then 40::(zad args[k]++[41]) else zad args[k]:=rfl
    rw[←hopq.out] at hpt
    have HPT0:=Lib.hid hpt
    clear hpt
    generalize zad args[k]=T at *
    go_wp2_with fail
    refine(zfW w1 op num name _ args.length c b off k (F k).op rfl hlt (by omega) a0').mono ?_
    rintro e w2 ⟨rfl,hb2⟩
    have HBX:=Lib.hid (za1 HB1.out hb2)
    clear hb2 q0' q1' q2' q3' a0'
    have hTl:=htl.out
    have happ:=bapp
    by_cases hin:zav op (F k).op k=true
    ·
     have HPT:Hid (zaE op k args[k]=40::(T++[41])):=by rw[HPT0.out,if_pos hin];rfl
     clear HPT0
     go_wp2_with (first|(at_builtin;refine wpList_append_own _ rfl (.tmp 28) (.tmp 30) 52 rfl (w.heap.size+1) 9 i0 _ 1 16 Tryd.underlying52 hi hz0 hz1 hz2 rfl (by decide) _ k (zcq (zbk op 0 (args.take k))) rfl ((zb3 HO.out HBX.out).alloc _) ⟨w2.heap.size,0,none⟩ 1 1 [.string ⟨(40::(T++[41])).toArray⟩] rfl rfl (zh3 w2 w2.heap.size rfl _ _) (ziR _) (by unfold maxLen;omega) (by omega) (by have:=HBX.out.size;simp;omega) ?_))
     intro v' w5 hown' hgrow _
     have hbel5:=zfX HO.out HBE.out HBX.out hgrow
     have HO':=Lib.hid hown'
     have HBE':=Lib.hid hbel5
     clear hown' hgrow hbel5
     go_wp2_with fail
     go_roundw
     case rel =>
      refine⟨k+1,by omega,by go_num,?_,HBE'.out⟩
      rw[zdN op 0 args k hlt,Nat.zero_add,zdf,HPT.out]
      exact HO'.out
     case measure=>simp[intOf];omega
    ·
     have hin':zav op (F k).op k=false:=by simpa using hin
     have HPT:Hid (zaE op k args[k]=T):=by rw[HPT0.out,if_neg hin];rfl
     clear HPT0 hin
     go_wp2_with (first|(at_builtin;refine wpList_append_own _ rfl (.tmp 28) (.tmp 30) 52 rfl (w.heap.size+1) 9 i0 _ 1 16 Tryd.underlying52 hi hz0 hz1 hz2 rfl (by decide) _ k (zcq (zbk op 0 (args.take k))) rfl ((zb3 HO.out HBX.out).alloc _) ⟨w2.heap.size,0,none⟩ 1 1 [.string ⟨(T).toArray⟩] rfl rfl (zh3 w2 w2.heap.size rfl _ _) (ziR _) (by unfold maxLen;omega) (by omega) (by have:=HBX.out.size;simp;omega) ?_))
     intro v' w5 hown' hgrow _
     have hbel5:=zfX HO.out HBE.out HBX.out hgrow
     have HO':=Lib.hid hown'
     have HBE':=Lib.hid hbel5
     clear hown' hgrow hbel5
     go_wp2_with fail
     go_roundw
     case rel =>
      refine⟨k+1,by omega,by go_num,?_,HBE'.out⟩
      rw[zdN op 0 args k hlt,Nat.zero_add,zdf,HPT.out]
      exact HO'.out
     case measure=>simp[intOf];omega
   ·
    have hke:k=args.length:=by omega
    have HO2:Hid (wr.ownsRow (w.heap.size+1) 9 1 u3 args.length (zcq (zbk op 0 args))):=by
     have:=HO.out
     rw[List.take_of_length_le (by omega),hke] at this
     exact this
    clear HO
    have hokk:=HOK.out
    obtain⟨hnum,hcase⟩:(-9223372036854775808≤num∧num≤9223372036854775807)∧((op=1∨op=2)∧args.length=0∨(op=3∨op=4)∧args.length=1∨5≤op∧op≤17∧args.length=2):=by
     cases hokk with
     | mk _ _ _ _ hn ha hs=>exact⟨hn,ha⟩
    clear hokk
    have hTX:zad (.mk op num name args)=zaT op num name (zbk op 0 args):=zba op num name args
    rw[hTX] at HLEN
    have HTX:=Lib.hid hTX
    clear hTX HPL HSZ IH
    have happ:=bapp
    have HP2:=Lib.hid (zgC op 0 args)
    generalize zbk op 0 args=ps at *
    by_cases c1:op=1
    ·
     have HF:Hid (zaT op num name ps=zas num):=if_pos c1
     have t1:=bT (show op=1 by omega)
     have HNM:=Lib.hid hnum
     clear c1 hcase hnum
     go_wp2_with fail
     refine(zcj num _ HNM.out.1 HNM.out.2).mono ?_
     rintro e w1 ⟨rfl,hb1⟩
     go_wp2_with fail
     go_ret
     exact⟨by rw[HTX.out,HF.out];rfl,za1 HBW.out hb1⟩
    ·
     by_cases c2:op=2
     ·
      have HF:Hid (zaT op num name ps=name):=by unfold zaT;rw[if_neg c1,if_pos c2];rfl
      have t1:=bF (show op≠1 by omega)
      have t2:=bT (show op=2 by omega)
      clear c1 c2 hcase hnum
      go_wp2_with fail
      go_ret
      exact⟨by rw[HTX.out,HF.out];rfl,HBW.out⟩
     ·
      by_cases c34:op=3∨op=4
      ·
       have h1:args.length=1:=by omega
       have h1p:ps.length=1:=by rw[HP2.out];exact h1
       obtain⟨p0,rfl⟩:∃a,ps=[a]:=List.length_eq_one_iff.1 h1p
       obtain⟨sa,sc,rfl⟩:=zbi HO2.out
       rw[h1] at HO2
       obtain⟨g,hgv⟩:=zfL HO2.out (by omega)
       subst hgv
       have r0:wr.cell? ⟨g,0,none⟩=some (.string ⟨p0.toArray⟩):=World.ownsRow.cellAt HO2.out 0 (by omega)
       have hlen1:(zaT op num name [p0]).length=p0.length+1:=by
        unfold zaT
        rw[if_neg c1,if_neg c2]
        rcases c34 with h|h
        ·
         rw[if_pos h];rfl
        ·
         rw[if_neg (by omega),if_pos h];rfl
       have hpl:p0.length≤1000000000:=by have:=HLEN.out;omega
       have hpos1:0<args.length:=by omega
       clear hlen1
       by_cases c3:op=3
       ·
        have HF:Hid (zaT op num name [p0]=45::p0):=by unfold zaT;rw[if_neg c1,if_neg c2,if_pos c3];rfl
        have t1:=bF (show op≠1 by omega)
        have t2:=bF (show op≠2 by omega)
        have t3:=bT (show op=3 by omega)
        have H1:=Lib.hid h1
        clear c1 c2 c3 c34 hcase hnum h1p h1 hke
        go_wp2_with fail
        go_ret
        exact⟨by rw[HTX.out,HF.out];rfl,HBW.out⟩
       ·
        have c4:op=4:=by omega
        have HF:Hid (zaT op num name [p0]=33::p0):=by unfold zaT;rw[if_neg c1,if_neg c2,if_neg c3,if_pos c4];rfl
        have t1:=bF (show op≠1 by omega)
        have t2:=bF (show op≠2 by omega)
        have t3:=bF (show op≠3 by omega)
        have t4:=bT (show op=4 by omega)
        clear c1 c2 c3 c4 c34 hcase hnum h1p h1 hke
        go_wp2_with fail
        go_ret
        exact⟨by rw[HTX.out,HF.out];rfl,HBW.out⟩
      ·
       have hop:5≤op∧op≤17:=by omega
       have h2:args.length=2:=by omega
       have h2p:ps.length=2:=by rw[HP2.out];exact h2
       obtain⟨p0,p1,rfl⟩:∃a b,ps=[a,b]:=by
        match ps,h2p with
        | [a,b],_=>exact⟨a,b,rfl⟩
       have t1:=bF (show op≠1 by omega)
       have t2:=bF (show op≠2 by omega)
       have t3:=bF (show op≠3 by omega)
       have t4:=bF (show op≠4 by omega)
       obtain⟨sa,sc,rfl⟩:=zbi HO2.out
       rw[h2] at HO2
       obtain⟨g,hgv⟩:=zfL HO2.out (by omega)
       subst hgv
       have r0:wr.cell? ⟨g,0,none⟩=some (.string ⟨p0.toArray⟩):=World.ownsRow.cellAt HO2.out 0 (by omega)
       have r1:wr.cell? ⟨g,1,none⟩=some (.string ⟨p1.toArray⟩):=World.ownsRow.cellAt HO2.out 1 (by omega)
       have hpos1:0<args.length:=by omega
       have hpos2:1<args.length:=by omega
       have HOP:=Lib.hid hop
       have HLE2:Hid (p0.length+p1.length≤1000000000):=by
        have h:=HLEN.out
        obtain⟨sg,hsg,_⟩:=zcY op hop
        have hf:zaT op num name [p0,p1]=p0++[32]++sg++[32]++p1:=by
         unfold zaT
         rw[if_neg c1,if_neg c2,if_neg (fun h=>c34 (.inl h)),if_neg (fun h=>c34 (.inr h)),hsg]
         rfl
        rw[hf] at h
        simp at h
        show _≤_
        omega
       have HFIN:Hid (∀sg,zeE op=some sg→zaT op num name [p0,p1]=p0++[32]++sg++[32]++p1):=by
        intro sg hsg
        unfold zaT
        rw[if_neg c1,if_neg c2,if_neg (fun h=>c34 (.inl h)),if_neg (fun h=>c34 (.inr h)),hsg]
        rfl
       clear hnum c1 c2 c34 hop h2 h2p hcase hke q1 q2
       go_wp2_with fail
       refine(zbR op wr).mono ?_
       rintro e w1 ⟨rfl,hb1⟩
       have HB1:=Lib.hid hb1
       clear hb1
       go_wp2_with fail
       refine(zft (strV op:Int) w1).mono ?_
       rintro e w2 ⟨sb,ob,rfl,hSS,hII,hb2⟩
       have HB2:=Lib.hid (za1 HB1.out hb2)
       have s0:=cell_later HB2.out r0
       have s1:=cell_later HB2.out r1
       have s2:=cell_later HB2.out q0
       have HSS:=Lib.hid hSS
       have HII:=Lib.hid hII
       have HLL:=Lib.hid (sg_len (strV op:Int))
       have hl6:=zik (strV op:Int)
       have HMEM:=Lib.hid (sg_mem op HOP.out)
       clear hb2 hSS hII r0 r1 q0 q3
       have HSO:Hid (∀m (h:m<(sgO (strV op:Int)).length) (h':m<(sgS (strV op:Int)).length),(sgO (strV op:Int))[m]=op→op∉(sgO (strV op:Int)).take m→zeE op=some (sgS (strV op:Int))[m]):=fun m h h' he hn=>zgc _ _ op m h h' he hn
       have HS2:Hid (∀m (h:m<(sgS (strV op:Int)).length),((sgS (strV op:Int))[m]).length≤2):=fun m h=>sgS_len2 _ m h
       generalize sgO (strV op:Int)=L at *
       generalize sgS (strV op:Int)=SS at *
       go_wp2_with fail
       go_loopw [8] (fun i wz=>∃m nq:Nat,m≤L.length∧i=.int .i64 m∧Hid (op∉L.take m)∧w2.drewN nq=wz) (fun i _=>L.length-(intOf i).toNat)
       case atStart=>exact⟨0,0,by omega,rfl,by show _∉_;simp,rfl⟩
       case round =>
        obtain⟨m,nq,hm,rfl,hrel2,rfl⟩:=hrel
        by_cases hlt2:m<L.length
        ·
         have hlt3:m<SS.length:=by rw[HLL.out];exact hlt2
         obtain⟨b2,off2,hA2,hcI⟩:=HII.out m hlt2
         obtain⟨b3,off3,hA3,hcS⟩:=HSS.out m hlt3
         injection hA2 with hA2
         injection hA2 with e1 e2
         subst e1 e2
         injection hA3 with hA3
         injection hA3 with e1 e2
         subst e1 e2
         rw[Nat.zero_add] at hcI hcS
         have j0:(0:Int)≤(m:Int):=by omega
         have j1:(m:Int)<(L.length:Int):=by omega
         have j2:(m:Int)<(SS.length:Int):=by omega
         by_cases he:L[m]=op
         ·
          have HE:=Lib.hid (HFIN.out _ (HSO.out m hlt2 hlt3 he hrel2.out))
          have hsl:=HS2.out m hlt3
          have t9:=bT he
          clear he
          have hl2:=HLE2.out
          go_wp2_with fail
          go_quiet (fail)
          go_wp2_with fail
          go_quiet (fail)
          go_wp2_with fail
          go_ret
          refine⟨?_,zat (zat (zat (za1 HBW.out HB2.out) _) _) _⟩
          rw[HTX.out,HE.out]
          simp
         ·
          have t9:=bF he
          have HE:=Lib.hid (zeN L op m hlt2 hrel2.out he)
          clear he
          go_wp2_with fail
          go_quiet (fail)
          go_wp2_with fail
          go_roundw
          case rel=>exact⟨m+1,_,by omega,by go_num,HE,rfl⟩
          case measure=>simp[intOf];omega
        ·
         exfalso
         have:=hrel2.out
         rw[List.take_of_length_le (by omega)] at this
         exact this HMEM.out
end Go.Proofs.YtlnbmmgbfgmboaaDoor

namespace Go.Proofs.YtlnbmmgbfgmboaaDoor
open Go.RowKit
mutual
def exHt:Ex→Nat
 | .mk op _ _ args=>zcT op 0 args 0+(if strV op=5 then 1 else 0)
def zcT (op:Int):Nat→List Ex→Nat→Nat
 | _,[],h=>h
 | k,e::r,h=>zcT op (k+1) r (max h (exHt e+(if zav op e.op k then 1 else 0)))
end
def zcf (op:Int) (k:Nat) (e:Ex):Nat:=exHt e+(if zav op e.op k then 1 else 0)
theorem zcJ (op num:Int) (name:List UInt8) (args:List Ex):exHt (.mk op num name args)=zcT op 0 args 0+(if strV op=5 then 1 else 0):=by rw[exHt]
theorem zb0 (op:Int) (k:Nat) (e:Ex) (r:List Ex) (h:Nat):zcT op k (e::r) h=zcT op (k+1) r (max h (zcf op k e)):=by rw[zcT,zcf]
theorem zbp (op:Int) (k h:Nat):zcT op k [] h=h:=by rw[zcT]
theorem zeP (op:Int) (k:Nat) (args:List Ex) (m h:Nat) (hm:m<args.length):zcT op k (args.take (m+1)) h=max (zcT op k (args.take m) h) (zcf op (k+m) args[m]):=by
 induction args generalizing k m h with
 | nil=>simp at hm
 | cons e r ih =>
  cases m with
  | zero=>simp[zb0,zbp]
  | succ m =>
   have:=ih (k+1) m (max h (zcf op k e)) (by simpa using hm)
   rw[List.take_succ_cons,List.take_succ_cons,zb0,zb0,this]
   congr 2
   omega
theorem exHts_ge (op:Int) (k:Nat) (args:List Ex) (h:Nat):h≤zcT op k args h:=by
 induction args generalizing k h with
 | nil=>rw[zbp];exact Nat.le_refl _
 | cons e r ih =>
  rw[zb0]
  exact Nat.le_trans (Nat.le_max_left _ _) (ih _ _)
theorem zhR (op:Int) (k:Nat) (args:List Ex) (m h:Nat):zcT op k (args.take m) h≤zcT op k args h:=by
 induction args generalizing k m h with
 | nil=>simp
 | cons e r ih =>
  cases m with
  | zero=>rw[List.take_zero,zbp];exact exHts_ge _ _ _ _
  | succ m=>rw[List.take_succ_cons,zb0,zb0];exact ih _ _ _
theorem zhS (op:Int) (args:List Ex) (m:Nat) (hm:m<args.length):zcf op m args[m]≤zcT op 0 args 0:=by
 have h1:=zeP op 0 args m 0 hm
 have h2:=zhR op 0 args (m+1) 0
 rw[Nat.zero_add] at h1
 omega
inductive ExB:Ex→Prop
 | mk (op num:Int) (name:List UInt8) (args:List Ex) (hl:args.length≤1000000) (hn:name.length≤9223372036854775807) (hs:∀i (h:i<args.length),ExB args[i]):ExB (.mk op num name args)
set_option maxRecDepth 100000 in
set_option maxHeartbeats 4000000 in
theorem zgx (N:Nat):∀(E:Ex) (op num:Int) (name:List UInt8) (A:Option Addr) (n c:Nat) (w:World),SizeOf.sizeOf E<N→ExB E→exHt E≤1000000000→ExM w (fun _=>True) E ⟨op,num,name,A,n,c⟩ →
  Calls Tryd.prog 74 #[.agg #[.int .i64 op,.int .i64 num,.string ⟨name.toArray⟩,.slice A n c]] w fun e w'=>e=.returned (.int .i64 (exHt E:Int))∧Below w.heap.size w w':=by
 induction N with
 | zero=>intro E op num name A n c w h;omega
 | succ N ih =>
  intro E op num name A n c w hN hok hlen hM
  have IH:=Lib.hid ih
  clear ih
  cases hM with
  | mk _ _ _ args _ _ F hc hs =>
  have HC:=Lib.hid hc
  have HS:=Lib.hid hs
  have hsz:=fun i h=>zdR op num name args i h
  have HSZ:=Lib.hid hsz
  have HTX:=Lib.hid (zcJ op num name args)
  have HLEN:Hid (zcT op 0 args 0≤1000000000):=by rw[zcJ] at hlen;show _≤_;omega
  have hal:args.length≤1000000:=by
   cases hok with
   | mk _ _ _ _ hl hn hs=>exact hl
  have HIO:Hid (∀i (h:i<args.length),ExB args[i]):=by
   cases hok with
   | mk _ _ _ _ hl hn hs=>exact hs
  clear hok hlen hc hs hsz
  have hb0:Below w.heap.size w (w.alloc (.cells #[.int .i64 op,.int .i64 num,.string ⟨name.toArray⟩,.slice A args.length c] 76)):=(Below.refl _ _).alloc (Nat.le_refl _) _
  have HB0:=Lib.hid hb0
  clear hb0
  go_enter Tryd.func74,Tryd.ntmps74
  go_wp2_with fail
  go_loopw [3,4,5] (fun v i _ wr=>∃k h:Nat,k≤args.length∧i=.int .i64 k∧v=.int .i64 h∧h≤1000000000∧Hid (h=zcT op 0 (args.take k) 0)∧Below (w.alloc (.cells #[.int .i64 op,.int .i64 num,.string ⟨name.toArray⟩,.slice A args.length c] 76)).heap.size (w.alloc (.cells #[.int .i64 op,.int .i64 num,.string ⟨name.toArray⟩,.slice A args.length c] 76)) wr)
   (fun _ i _ _=>args.length-(intOf i).toNat)
  case atStart=>exact⟨0,0,Nat.zero_le _,rfl,rfl,by omega,by rw[List.take_zero,zbp];rfl,Below.refl _ _⟩
  case round =>
   obtain⟨k,h,hk,rfl,rfl,hh,hrel,hbel⟩:=hrel
   obtain⟨q0,q1,q2,q3,f0,f1,f2,f3,hz⟩:=zb4 hbel
   have HBE:=Lib.hid hbel
   have HBW:=Lib.hid (za1 HB0.out hbel)
   clear hbel f0 f1 f2 f3
   by_cases hlt:k<args.length
   ·
    obtain⟨b,off,rfl,-,hat⟩:=HC.out k hlt
    have hat1:=hat.keep (HBW.out.block b hat.lt)
    obtain⟨a0,a1,a2,a3⟩:=hat1
    have HCH:=Lib.hid ((HS.out k hlt).later HBW.out)
    have hopq:Hid ((F k).op=args[k].op):=(HS.out k hlt).op_eq
    have hpt:zcf op k args[k]=exHt args[k]+(if zav op args[k].op k then 1 else 0):=rfl
    have hpl:=zhS op args k hlt
    have hTl:exHt args[k]≤1000000000:=by have:=HLEN.out;omega
    have hpl2:zcf op k args[k]≤1000000000:=by have:=HLEN.out;omega
    have HSN:=Lib.hid (zeP op 0 args k 0 hlt)
    rw[←hopq.out] at hpt
    have HPT0:=Lib.hid hpt
    clear hpt hpl
    go_wp2_with fail
    refine(IH.out args[k] (F k).op (F k).num (F k).name (F k).A (F k).n (F k).c wr (by have:=HSZ.out k hlt;omega) (HIO.out k hlt) hTl HCH.out).mono ?_
    rintro e w1 ⟨rfl,hb1⟩
    have q0':=cell_later hb1 q0
    have q1':=cell_later hb1 q1
    have q2':=cell_later hb1 q2
    have q3':=cell_later hb1 q3
    have a0':=cell_later hb1 a0
    have HB1:=Lib.hid hb1
    clear hb1 q0 q1 q2 q3 a0 a1 a2 a3
    generalize exHt args[k]=T at *
    go_wp2_with fail
    refine(zfW w1 op num name _ args.length c b off k (F k).op rfl hlt (by omega) a0').mono ?_
    rintro e w2 ⟨rfl,hb2⟩
    have HBX:=Lib.hid (za1 HB1.out hb2)
    have HBN:Hid (Below (w.alloc (.cells #[.int .i64 op,.int .i64 num,.string ⟨name.toArray⟩,.slice (some ⟨b,off,none⟩) args.length c] 76)).heap.size (w.alloc (.cells #[.int .i64 op,.int .i64 num,.string ⟨name.toArray⟩,.slice (some ⟨b,off,none⟩) args.length c] 76)) w2):=za1 HBE.out HBX.out
    clear hb2 q0' q1' q2' q3' a0'
    by_cases hin:zav op (F k).op k=true
    ·
     have HPT:Hid (zcf op k args[k]=T+1):=by rw[HPT0.out,if_pos hin];rfl
     have hTT:T+1≤1000000000:=by have:=HPT.out;omega
     clear HPT0
     go_wp2_with fail
     go_roundw
     case rel =>
      refine⟨k+1,max h (T+1),by omega,by go_num,?_,by omega,?_,HBN.out⟩
      ·
       congr 1
       omega
      ·
       show _=_
       rw[HSN.out,Nat.zero_add,HPT.out,←hrel.out]
     case measure=>simp[intOf];omega
    ·
     have hin':zav op (F k).op k=false:=by simpa using hin
     have HPT:Hid (zcf op k args[k]=T):=by rw[HPT0.out,if_neg hin];rfl
     clear HPT0 hin
     go_wp2_with fail
     go_roundw
     case rel =>
      refine⟨k+1,max h (T),by omega,by go_num,?_,by omega,?_,HBN.out⟩
      ·
       congr 1
       omega
      ·
       show _=_
       rw[HSN.out,Nat.zero_add,HPT.out,←hrel.out]
     case measure=>simp[intOf];omega
   ·
    have hke:Hid (args.take k=args):=List.take_of_length_le (by omega)
    go_wp2_with fail
    refine(zbR op wr).mono ?_
    rintro e w1 ⟨rfl,hb1⟩
    have HB1:=Lib.hid (za1 HBW.out hb1)
    clear hb1 q1 q2 q3 q0
    by_cases h5:strV op=5
    ·
     have t5:=bT (show ((strV op:Nat):Int)=5 by omega)
     have HF:Hid (exHt (.mk op num name args)=h+1):=by rw[HTX.out,if_pos h5,hrel.out,hke.out];rfl
     clear h5
     go_wp2_with fail
     go_ret
     exact⟨zaF (by rw[HF.out];omega),HB1.out⟩
    ·
     have t5:=bF (show ((strV op:Nat):Int)≠5 by omega)
     have HF:Hid (exHt (.mk op num name args)=h):=by rw[HTX.out,if_neg h5,hrel.out,hke.out];rfl
     clear h5
     go_wp2_with fail
     go_ret
     exact⟨zaF (by rw[HF.out]),HB1.out⟩
end Go.Proofs.YtlnbmmgbfgmboaaDoor

namespace Go.Proofs.YtlnbmmgbfgmboaaDoor
open Go.RowKit
def zcW (i:Nat) (c:UInt8):Bool:=Tk.isLet c||(i != 0&&Tk.isDig c)
def zdC (s:List UInt8):Prop:=∀i (h:i<s.length),zcW i s[i]=true
instance (s:List UInt8):Decidable (zdC s):=by unfold zdC;infer_instance
def zag (s:List UInt8):Bool:=decide (zdC s)&&(decide (1≤s.length)&&decide (s.length≤16)&&!Tk.resv s)
set_option maxRecDepth 100000 in
set_option maxHeartbeats 1000000 in
theorem zbP (s:List UInt8) (w:World) (hl:s.length≤9223372036854775807) :
  Calls Tryd.prog 31 #[.string ⟨s.toArray⟩] w fun e w'=>e=.returned (.bool (zag s))∧Below w.heap.size w w':=by
 go_enter Tryd.func31,Tryd.ntmps31
 go_wp2_with fail
 go_loop [3] (fun i=>∃m:Nat,m≤s.length∧i=.int .i64 m∧Hid (∀j (_:j<m) (h:j<s.length),zcW j s[j]=true)) (fun i=>s.length-(intOf i).toNat)
 case atStart=>exact⟨0,by omega,rfl,fun j hj=>absurd hj (by omega)⟩
 case round =>
  obtain⟨m,hm,rfl,hrel⟩:=hrel
  by_cases hlt:m<s.length
  ·
   have hsz:m<(⟨s.toArray⟩:ByteArray).size:=by simpa[ByteArray.size] using hlt
   have hby:(⟨s.toArray⟩:ByteArray)[m]'hsz=s[m]:=rfl
   by_cases hL:Tk.isLet s[m]=true
   ·
    have HE:Hid (∀j (_:j<m+1) (h:j<s.length),zcW j s[j]=true):=by
     intro j hj h
     by_cases hjm:j=m
     ·
      subst hjm
      simp[zcW,hL]
     ·
      exact hrel.out j (by omega) h
    go_wp2_with (first|(go_at_call 22;refine(zbb _ _).mono ?_;rintro e w' ⟨rfl,rfl⟩))
    go_round
    case rel=>exact⟨m+1,by omega,by go_num,HE⟩
    case measure=>simp[intOf];omega
   ·
    have hL':Tk.isLet s[m]=false:=by simpa using hL
    clear hL
    by_cases h0:m=0
    ·
     have t0:=bT (show ((m:Nat):Int)=0 by omega)
     have HE:Hid (zag s=false):=by
      have hn:¬zdC s:=fun h=>by
       have:=h m hlt
       unfold zcW at this
       rw[hL',show (m != 0)=false by simp[h0]] at this
       simp at this
      show zag s=false
      unfold zag
      rw[decide_eq_false hn]
      rfl
     clear h0
     go_wp2_with (first|(go_at_call 22;refine(zbb _ _).mono ?_;rintro e w' ⟨rfl,rfl⟩))
     go_ret
     exact⟨zal HE.out.symm,Below.refl _ _⟩
    ·
     have t0:=bF (show ((m:Nat):Int)≠0 by omega)
     by_cases hD:Tk.isDig s[m]=true
     ·
      have HE:Hid (∀j (_:j<m+1) (h:j<s.length),zcW j s[j]=true):=by
       intro j hj h
       by_cases hjm:j=m
       ·
        subst hjm
        simp[zcW,hD,h0]
       ·
        exact hrel.out j (by omega) h
      clear h0
      go_wp2_with (first|(go_at_call 22;refine(zbb _ _).mono ?_;rintro e w' ⟨rfl,rfl⟩)|(go_at_call 23;refine(zbW _ _).mono ?_;rintro e w' ⟨rfl,rfl⟩))
      go_round
      case rel=>exact⟨m+1,by omega,by go_num,HE⟩
      case measure=>simp[intOf];omega
     ·
      have hD':Tk.isDig s[m]=false:=by simpa using hD
      have HE:Hid (zag s=false):=by
       have hn:¬zdC s:=fun h=>by
        have:=h m hlt
        simp[zcW,hL',hD'] at this
       show zag s=false
       unfold zag
       rw[decide_eq_false hn]
       rfl
      clear h0 hD
      go_wp2_with (first|(go_at_call 22;refine(zbb _ _).mono ?_;rintro e w' ⟨rfl,rfl⟩)|(go_at_call 23;refine(zbW _ _).mono ?_;rintro e w' ⟨rfl,rfl⟩))
      go_ret
      exact⟨zal HE.out.symm,Below.refl _ _⟩
  ·
   have HE:Hid (zag s=(decide (1≤s.length)&&decide (s.length≤16)&&!Tk.resv s)):=by
    have hn:zdC s:=fun j h=>hrel.out j (by omega) h
    show zag s=_
    unfold zag
    rw[decide_eq_true hn]
    rfl
   by_cases g1:1≤s.length
   ·
    by_cases g2:s.length≤16
    ·
     have d1:decide ((s.length:Int)≥1)=true:=by simp;omega
     have d2:decide ((s.length:Int)≤16)=true:=by simp;omega
     have HE2:Hid (zag s=!Tk.resv s):=by rw[HE.out,decide_eq_true g1,decide_eq_true g2];rfl
     go_wp2_with fail
     refine(zcc s w).mono ?_
     rintro e w1 ⟨rfl,hb1⟩
     go_wp2_with fail
     go_ret
     exact⟨zal HE2.out.symm,hb1⟩
    ·
     have d2:decide ((s.length:Int)≤16)=false:=decide_eq_false (by omega)
     have HE2:Hid (zag s=false):=by rw[HE.out,decide_eq_true g1,decide_eq_false g2];rfl
     go_wp2_with fail
     go_ret
     exact⟨zal HE2.out.symm,Below.refl _ _⟩
   ·
    have HE2:Hid (zag s=false):=by rw[HE.out,decide_eq_false g1];rfl
    go_wp2_with fail
    go_ret
    exact⟨zal HE2.out.symm,Below.refl _ _⟩
end Go.Proofs.YtlnbmmgbfgmboaaDoor

namespace Go.Proofs.YtlnbmmgbfgmboaaDoor
open Go.RowKit
set_option maxRecDepth 100000 in
set_option maxHeartbeats 4000000 in
theorem shape_nm (name:List UInt8) (A:Option Addr) (n c:Nat) (w:World) (_hn:n≤1000000) (hN:name.length≤9223372036854775807) :
  Calls Tryd.prog 73 #[.agg #[.int .i64 2,.int .i64 0,.string ⟨name.toArray⟩,.slice A n c]] w fun e w'=>e=.returned (.bool (zag name&&n==0))∧Below w.heap.size w w':=by
 have HNL:=Lib.hid hN
 have HB0:Hid (Below w.heap.size w (w.alloc (.cells #[.int .i64 2,.int .i64 0,.string ⟨name.toArray⟩,.slice A n c] 76))):=(Below.refl _ _).alloc (Nat.le_refl _) _
 clear hN
 go_enter Tryd.func73,Tryd.ntmps73
 go_wp2_with fail
 refine(zbR 2 _).mono ?_
 rintro e w1 ⟨rfl,hb1⟩
 rw[show strV 2=6 by decide]
 obtain⟨q0,q1,q2,q3,f0,f1,f2,f3,hz⟩:=zb4 hb1
 have HBW:=Lib.hid (za1 HB0.out hb1)
 clear hb1 f0 f1 f2 f3 HB0
 have hb0:=HBW.out
 go_wp2_with fail
 refine wp_region_noPanic ?_
 refine wp_region_held_drew (S:=fun w'=>w'.cell? ⟨w.heap.size,0,none⟩=some (.int .i64 2)∧w'.cell? ⟨w.heap.size,1,none⟩=some (.int .i64 0)∧w'.cell? ⟨w.heap.size,2,none⟩=some (.string ⟨name.toArray⟩)∧w'.cell? ⟨w.heap.size,3,none⟩=some (.slice A n c)∧Below w.heap.size w w') (by kernel_rfl) ⟨q0,q1,q2,q3,hb0.drew⟩ (fun hHeld=>?_)
 refine wpAnyH_take (i:=0) (oi:={dst:=some 12,op:=Op.fieldAddr 76 (Operand.tmp 1) 0,type:=0,pos := "ref.go:324",after:=#[],guard:=none}) (v:=?v0) rfl (by kernel_rfl) (by kernel_rfl) (by kernel_rfl) (fun _ _ _ h=>h) (Or.inl ⟨by rfl,?y0⟩) (by assumption) ?r0
 case y0=>intro wz hSw;(try dsimp only at hSw);go_simp;(try with_reducible rfl)
 try simp only[Act.put,List.setIfInBounds_toArray,List.set_cons_zero,List.set_cons_succ]
 refine wpAnyH_take (i:=1) (oi:={dst:=some 13,op:=Op.load 3 (Operand.tmp 12),type:=3,pos := "ref.go:324",after:=#[{on:=0,ground:=Ground.data}],guard:=none}) (v:=?v1) rfl (by kernel_rfl) (by kernel_rfl) (by kernel_rfl) (fun _ _ _ h=>h) (Or.inl ⟨by rfl,?y1⟩) (by assumption) ?r1
 case y1=>intro wz hSw;(try dsimp only at hSw);go_simp;(try with_reducible rfl)
 try simp only[Act.put,List.setIfInBounds_toArray,List.set_cons_zero,List.set_cons_succ]
 refine wpAnyH_take (i:=2) (oi:={dst:=some 14,op:=Op.binOp BinOp.eql 3 (Operand.tmp 13) (Operand.const (Value.int IntKind.i64 1)) 3,type:=4,pos := "ref.go:324",after:=#[{on:=1,ground:=Ground.data}],guard:=none}) (v:=?v2) rfl (by kernel_rfl) (by kernel_rfl) (by kernel_rfl) (fun _ _ _ h=>h) (Or.inl ⟨by rfl,?y2⟩) (by assumption) ?r2
 case y2=>intro wz hSw;(try dsimp only at hSw);go_simp;(try with_reducible rfl)
 try simp only[Act.put,List.setIfInBounds_toArray,List.set_cons_zero,List.set_cons_succ]
 refine wpAnyH_take (i:=3) (oi:={dst:=some 15,op:=Op.move (Operand.tmp 14),type:=4,pos := "ref.go:324",after:=#[{on:=2,ground:=Ground.data}],guard:=none}) (v:=?v3) rfl (by kernel_rfl) (by kernel_rfl) (by kernel_rfl) (fun _ _ _ h=>h) (Or.inl ⟨by rfl,?y3⟩) (by assumption) ?r3
 case y3=>intro wz hSw;(try dsimp only at hSw);go_simp;(try with_reducible rfl)
 try simp only[Act.put,List.setIfInBounds_toArray,List.set_cons_zero,List.set_cons_succ]
 refine wpAnyH_take (i:=4) (oi:={dst:=some 16,op:=Op.fieldAddr 76 (Operand.tmp 1) 1,type:=0,pos := "ref.go:324",after:=#[{on:=3,ground:=Ground.guard}],guard:=some (3,true)}) (v:=undef) rfl (by kernel_rfl) (by kernel_rfl) (by kernel_rfl) (fun _ _ _ h=>h) (Or.inr ⟨by rfl,rfl⟩) (by assumption) ?_
 try simp only[Act.put,List.setIfInBounds_toArray,List.set_cons_zero,List.set_cons_succ]
 refine wpAnyH_take (i:=5) (oi:={dst:=some 17,op:=Op.load 3 (Operand.tmp 16),type:=3,pos := "ref.go:324",after:=#[{on:=4,ground:=Ground.data},{on:=3,ground:=Ground.guard}],guard:=some (3,true)}) (v:=undef) rfl (by kernel_rfl) (by kernel_rfl) (by kernel_rfl) (fun _ _ _ h=>h) (Or.inr ⟨by rfl,rfl⟩) (by assumption) ?_
 try simp only[Act.put,List.setIfInBounds_toArray,List.set_cons_zero,List.set_cons_succ]
 refine wpAnyH_take (i:=6) (oi:={dst:=some 18,op:=Op.binOp BinOp.geq 3 (Operand.tmp 17) (Operand.const (Value.int IntKind.i64 0)) 3,type:=4,pos := "ref.go:324",after:=#[{on:=5,ground:=Ground.data},{on:=3,ground:=Ground.guard}],guard:=some (3,true)}) (v:=undef) rfl (by kernel_rfl) (by kernel_rfl) (by kernel_rfl) (fun _ _ _ h=>h) (Or.inr ⟨by rfl,rfl⟩) (by assumption) ?_
 try simp only[Act.put,List.setIfInBounds_toArray,List.set_cons_zero,List.set_cons_succ]
 refine wpAnyH_take (i:=7) (oi:={dst:=some 19,op:=Op.pick (Operand.tmp 15) (Operand.tmp 18) (Operand.const (Value.bool false)),type:=4,pos := "ref.go:324",after:=#[{on:=3,ground:=Ground.data},{on:=6,ground:=Ground.data}],guard:=none}) (v:=?v7) rfl (by kernel_rfl) (by kernel_rfl) (by kernel_rfl) (fun _ _ _ h=>h) (Or.inl ⟨by rfl,?y7⟩) (by assumption) ?r7
 case y7=>intro wz hSw;(try dsimp only at hSw);go_simp;(try with_reducible rfl)
 try simp only[Act.put,List.setIfInBounds_toArray,List.set_cons_zero,List.set_cons_succ]
 refine wpAnyH_take (i:=8) (oi:={dst:=some 20,op:=Op.move (Operand.tmp 19),type:=4,pos := "ref.go:324",after:=#[{on:=7,ground:=Ground.data},{on:=3,ground:=Ground.chain}],guard:=none}) (v:=?v8) rfl (by kernel_rfl) (by kernel_rfl) (by kernel_rfl) (fun _ _ _ h=>h) (Or.inl ⟨by rfl,?y8⟩) (by assumption) ?r8
 case y8=>intro wz hSw;(try dsimp only at hSw);go_simp;(try with_reducible rfl)
 try simp only[Act.put,List.setIfInBounds_toArray,List.set_cons_zero,List.set_cons_succ]
 refine wpAnyH_take (i:=9) (oi:={dst:=some 21,op:=Op.fieldAddr 76 (Operand.tmp 1) 2,type:=0,pos := "ref.go:324",after:=#[{on:=8,ground:=Ground.guard}],guard:=some (8,true)}) (v:=undef) rfl (by kernel_rfl) (by kernel_rfl) (by kernel_rfl) (fun _ _ _ h=>h) (Or.inr ⟨by rfl,rfl⟩) (by assumption) ?_
 try simp only[Act.put,List.setIfInBounds_toArray,List.set_cons_zero,List.set_cons_succ]
 refine wpAnyH_take (i:=10) (oi:={dst:=some 22,op:=Op.load 9 (Operand.tmp 21),type:=9,pos := "ref.go:324",after:=#[{on:=9,ground:=Ground.data},{on:=8,ground:=Ground.guard}],guard:=some (8,true)}) (v:=undef) rfl (by kernel_rfl) (by kernel_rfl) (by kernel_rfl) (fun _ _ _ h=>h) (Or.inr ⟨by rfl,rfl⟩) (by assumption) ?_
 try simp only[Act.put,List.setIfInBounds_toArray,List.set_cons_zero,List.set_cons_succ]
 refine wpAnyH_take (i:=11) (oi:={dst:=some 23,op:=Op.binOp BinOp.eql 9 (Operand.tmp 22) (Operand.const (Value.string {data:=#[]})) 9,type:=4,pos := "ref.go:324",after:=#[{on:=10,ground:=Ground.data},{on:=8,ground:=Ground.guard}],guard:=some (8,true)}) (v:=undef) rfl (by kernel_rfl) (by kernel_rfl) (by kernel_rfl) (fun _ _ _ h=>h) (Or.inr ⟨by rfl,rfl⟩) (by assumption) ?_
 try simp only[Act.put,List.setIfInBounds_toArray,List.set_cons_zero,List.set_cons_succ]
 refine wpAnyH_take (i:=12) (oi:={dst:=some 24,op:=Op.pick (Operand.tmp 20) (Operand.tmp 23) (Operand.const (Value.bool false)),type:=4,pos := "ref.go:324",after:=#[{on:=8,ground:=Ground.data},{on:=11,ground:=Ground.data}],guard:=none}) (v:=?v12) rfl (by kernel_rfl) (by kernel_rfl) (by kernel_rfl) (fun _ _ _ h=>h) (Or.inl ⟨by rfl,?y12⟩) (by assumption) ?r12
 case y12=>intro wz hSw;(try dsimp only at hSw);go_simp;(try with_reducible rfl)
 try simp only[Act.put,List.setIfInBounds_toArray,List.set_cons_zero,List.set_cons_succ]
 refine wpAnyH_take (i:=13) (oi:={dst:=some 25,op:=Op.fieldAddr 76 (Operand.tmp 1) 0,type:=0,pos := "ref.go:324",after:=#[],guard:=none}) (v:=?v13) rfl (by kernel_rfl) (by kernel_rfl) (by kernel_rfl) (fun _ _ _ h=>h) (Or.inl ⟨by rfl,?y13⟩) (by assumption) ?r13
 case y13=>intro wz hSw;(try dsimp only at hSw);go_simp;(try with_reducible rfl)
 try simp only[Act.put,List.setIfInBounds_toArray,List.set_cons_zero,List.set_cons_succ]
 refine wpAnyH_take (i:=14) (oi:={dst:=some 26,op:=Op.load 3 (Operand.tmp 25),type:=3,pos := "ref.go:324",after:=#[{on:=13,ground:=Ground.data}],guard:=none}) (v:=?v14) rfl (by kernel_rfl) (by kernel_rfl) (by kernel_rfl) (fun _ _ _ h=>h) (Or.inl ⟨by rfl,?y14⟩) (by assumption) ?r14
 case y14=>intro wz hSw;(try dsimp only at hSw);go_simp;(try with_reducible rfl)
 try simp only[Act.put,List.setIfInBounds_toArray,List.set_cons_zero,List.set_cons_succ]
 refine wpAnyH_take (i:=15) (oi:={dst:=some 27,op:=Op.binOp BinOp.eql 3 (Operand.tmp 26) (Operand.const (Value.int IntKind.i64 2)) 3,type:=4,pos := "ref.go:324",after:=#[{on:=14,ground:=Ground.data}],guard:=none}) (v:=?v15) rfl (by kernel_rfl) (by kernel_rfl) (by kernel_rfl) (fun _ _ _ h=>h) (Or.inl ⟨by rfl,?y15⟩) (by assumption) ?r15
 case y15=>intro wz hSw;(try dsimp only at hSw);go_simp;(try with_reducible rfl)
 try simp only[Act.put,List.setIfInBounds_toArray,List.set_cons_zero,List.set_cons_succ]
 refine wpAnyH_take (i:=16) (oi:={dst:=some 28,op:=Op.move (Operand.tmp 27),type:=4,pos := "ref.go:324",after:=#[{on:=15,ground:=Ground.data},{on:=8,ground:=Ground.chain}],guard:=none}) (v:=?v16) rfl (by kernel_rfl) (by kernel_rfl) (by kernel_rfl) (fun _ _ _ h=>h) (Or.inl ⟨by rfl,?y16⟩) (by assumption) ?r16
 case y16=>intro wz hSw;(try dsimp only at hSw);go_simp;(try with_reducible rfl)
 try simp only[Act.put,List.setIfInBounds_toArray,List.set_cons_zero,List.set_cons_succ]
 refine wpAnyH_take (i:=17) (oi:={dst:=some 29,op:=Op.fieldAddr 76 (Operand.tmp 1) 1,type:=0,pos := "ref.go:324",after:=#[{on:=16,ground:=Ground.guard}],guard:=some (16,true)}) (v:=?v17) rfl (by kernel_rfl) (by kernel_rfl) (by kernel_rfl) (fun _ _ _ h=>h) (Or.inl ⟨by rfl,?y17⟩) (by assumption) ?r17
 case y17=>intro wz hSw;(try dsimp only at hSw);go_simp;(try with_reducible rfl)
 try simp only[Act.put,List.setIfInBounds_toArray,List.set_cons_zero,List.set_cons_succ]
 refine wpAnyH_take (i:=18) (oi:={dst:=some 30,op:=Op.load 3 (Operand.tmp 29),type:=3,pos := "ref.go:324",after:=#[{on:=17,ground:=Ground.data},{on:=16,ground:=Ground.guard}],guard:=some (16,true)}) (v:=?v18) rfl (by kernel_rfl) (by kernel_rfl) (by kernel_rfl) (fun _ _ _ h=>h) (Or.inl ⟨by rfl,?y18⟩) (by assumption) ?r18
 case y18=>intro wz hSw;(try dsimp only at hSw);go_simp;(try with_reducible rfl)
 try simp only[Act.put,List.setIfInBounds_toArray,List.set_cons_zero,List.set_cons_succ]
 refine wpAnyH_take (i:=19) (oi:={dst:=some 31,op:=Op.binOp BinOp.eql 3 (Operand.tmp 30) (Operand.const (Value.int IntKind.i64 0)) 3,type:=4,pos := "ref.go:324",after:=#[{on:=18,ground:=Ground.data},{on:=16,ground:=Ground.guard}],guard:=some (16,true)}) (v:=?v19) rfl (by kernel_rfl) (by kernel_rfl) (by kernel_rfl) (fun _ _ _ h=>h) (Or.inl ⟨by rfl,?y19⟩) (by assumption) ?r19
 case y19=>intro wz hSw;(try dsimp only at hSw);go_simp;(try with_reducible rfl)
 try simp only[Act.put,List.setIfInBounds_toArray,List.set_cons_zero,List.set_cons_succ]
 refine wpAnyH_take (i:=20) (oi:={dst:=some 32,op:=Op.pick (Operand.tmp 28) (Operand.tmp 31) (Operand.const (Value.bool false)),type:=4,pos := "ref.go:324",after:=#[{on:=16,ground:=Ground.data},{on:=19,ground:=Ground.data}],guard:=none}) (v:=?v20) rfl (by kernel_rfl) (by kernel_rfl) (by kernel_rfl) (fun _ _ _ h=>h) (Or.inl ⟨by rfl,?y20⟩) (by assumption) ?r20
 case y20=>intro wz hSw;(try dsimp only at hSw);go_simp;(try with_reducible rfl)
 try simp only[Act.put,List.setIfInBounds_toArray,List.set_cons_zero,List.set_cons_succ]
 refine wpAnyH_take (i:=21) (oi:={dst:=some 33,op:=Op.move (Operand.tmp 32),type:=4,pos := "ref.go:324",after:=#[{on:=20,ground:=Ground.data},{on:=16,ground:=Ground.chain}],guard:=none}) (v:=?v21) rfl (by kernel_rfl) (by kernel_rfl) (by kernel_rfl) (fun _ _ _ h=>h) (Or.inl ⟨by rfl,?y21⟩) (by assumption) ?r21
 case y21=>intro wz hSw;(try dsimp only at hSw);go_simp;(try with_reducible rfl)
 try simp only[Act.put,List.setIfInBounds_toArray,List.set_cons_zero,List.set_cons_succ]
 refine wpAnyH_take (i:=22) (oi:={dst:=some 34,op:=Op.fieldAddr 76 (Operand.tmp 1) 2,type:=0,pos := "ref.go:324",after:=#[{on:=21,ground:=Ground.guard}],guard:=some (21,true)}) (v:=?v22) rfl (by kernel_rfl) (by kernel_rfl) (by kernel_rfl) (fun _ _ _ h=>h) (Or.inl ⟨by rfl,?y22⟩) (by assumption) ?r22
 case y22=>intro wz hSw;(try dsimp only at hSw);go_simp;(try with_reducible rfl)
 try simp only[Act.put,List.setIfInBounds_toArray,List.set_cons_zero,List.set_cons_succ]
 refine wpAnyH_take (i:=23) (oi:={dst:=some 35,op:=Op.load 9 (Operand.tmp 34),type:=9,pos := "ref.go:324",after:=#[{on:=22,ground:=Ground.data},{on:=21,ground:=Ground.guard}],guard:=some (21,true)}) (v:=?v23) rfl (by kernel_rfl) (by kernel_rfl) (by kernel_rfl) (fun _ _ _ h=>h) (Or.inl ⟨by rfl,?y23⟩) (by assumption) ?r23
 case y23=>intro wz hSw;(try dsimp only at hSw);go_simp;(try with_reducible rfl)
 try simp only[Act.put,List.setIfInBounds_toArray,List.set_cons_zero,List.set_cons_succ]
 refine wpAnyH_ready (rs:=[24]) (by kernel_rfl) (by simp) ?_
 refine AllReadyH.cons (o:={dst:=some 36,op:=Op.call {callee:=Callee.value (Operand.func 31),args:=#[Operand.tmp 35],argTypes:=#[9]},type:=4,pos := "ref.go:324",after:=#[{on:=23,ground:=Ground.data},{on:=21,ground:=Ground.chain},{on:=21,ground:=Ground.guard}],guard:=some (21,true)}) rfl (fun K hK=>?stp) AllReadyH.nil
 case stp =>
 go_simp
 refine(zbP name _ HNL.out).mono ?_
 rintro e w2 ⟨rfl,hb⟩
 obtain⟨k0,k1,k2,k3,hbw⟩:=hHeld
 have r3:=cell_later hb k3
 refine hK.out _ _ ⟨cell_later hb k0,cell_later hb k1,cell_later hb k2,cell_later hb k3,zae hb hbw⟩ (fun hHeld=>?_)
 have HB2:=Lib.hid (zae hb hbw)
 clear hK K hb hbw k0 k1 k2 k3
 refine wpAnyH_take (i:=25) (oi:={dst:=some 37,op:=Op.pick (Operand.tmp 33) (Operand.tmp 36) (Operand.const (Value.bool false)),type:=4,pos := "ref.go:324",after:=#[{on:=21,ground:=Ground.data},{on:=24,ground:=Ground.data},{on:=26,ground:=Ground.gcOnly Departure.lateStores}],guard:=none}) (v:=?v25) rfl (by kernel_rfl) (by kernel_rfl) (by kernel_rfl) (fun _ _ _ h=>h) (Or.inl ⟨by rfl,?y25⟩) (by assumption) ?r25
 case y25=>intro wz hSw;(try dsimp only at hSw);go_simp;(try with_reducible rfl)
 try simp only[Act.put,List.setIfInBounds_toArray,List.set_cons_zero,List.set_cons_succ]
 refine wpAnyH_take (i:=26) (oi:={dst:=some 4,op:=Op.assign (Operand.tmp 24),type:=4,pos := "ref.go:324",after:=#[{on:=12,ground:=Ground.data},{on:=24,ground:=Ground.chain},{on:=0,ground:=Ground.phase},{on:=1,ground:=Ground.phase},{on:=2,ground:=Ground.phase},{on:=3,ground:=Ground.phase},{on:=4,ground:=Ground.phase},{on:=5,ground:=Ground.phase},{on:=6,ground:=Ground.phase},{on:=7,ground:=Ground.phase},{on:=8,ground:=Ground.phase},{on:=9,ground:=Ground.phase},{on:=10,ground:=Ground.phase},{on:=11,ground:=Ground.phase},{on:=12,ground:=Ground.phase},{on:=13,ground:=Ground.textOnly Departure.lateStores},{on:=14,ground:=Ground.textOnly Departure.lateStores},{on:=15,ground:=Ground.textOnly Departure.lateStores},{on:=16,ground:=Ground.textOnly Departure.lateStores},{on:=17,ground:=Ground.textOnly Departure.lateStores},{on:=18,ground:=Ground.textOnly Departure.lateStores},{on:=19,ground:=Ground.textOnly Departure.lateStores},{on:=20,ground:=Ground.textOnly Departure.lateStores},{on:=21,ground:=Ground.textOnly Departure.lateStores},{on:=22,ground:=Ground.textOnly Departure.lateStores},{on:=23,ground:=Ground.textOnly Departure.lateStores},{on:=24,ground:=Ground.textOnly Departure.lateStoresUnsure},{on:=25,ground:=Ground.textOnly Departure.lateStores}],guard:=none}) (v:=?v26) rfl (by kernel_rfl) (by kernel_rfl) (by kernel_rfl) (fun _ _ _ h=>h) (Or.inl ⟨by rfl,?y26⟩) (by assumption) ?r26
 case y26=>intro wz hSw;(try dsimp only at hSw);go_simp;(try with_reducible rfl)
 try simp only[Act.put,List.setIfInBounds_toArray,List.set_cons_zero,List.set_cons_succ]
 refine wpAnyH_take (i:=27) (oi:={dst:=some 5,op:=Op.assign (Operand.tmp 37),type:=4,pos := "ref.go:324",after:=#[{on:=25,ground:=Ground.data},{on:=26,ground:=Ground.chain},{on:=0,ground:=Ground.phase},{on:=1,ground:=Ground.phase},{on:=2,ground:=Ground.phase},{on:=3,ground:=Ground.phase},{on:=4,ground:=Ground.phase},{on:=5,ground:=Ground.phase},{on:=6,ground:=Ground.phase},{on:=7,ground:=Ground.phase},{on:=8,ground:=Ground.phase},{on:=9,ground:=Ground.phase},{on:=10,ground:=Ground.phase},{on:=11,ground:=Ground.phase},{on:=12,ground:=Ground.phase},{on:=13,ground:=Ground.phase},{on:=14,ground:=Ground.phase},{on:=15,ground:=Ground.phase},{on:=16,ground:=Ground.phase},{on:=17,ground:=Ground.phase},{on:=18,ground:=Ground.phase},{on:=19,ground:=Ground.phase},{on:=20,ground:=Ground.phase},{on:=21,ground:=Ground.phase},{on:=22,ground:=Ground.phase},{on:=23,ground:=Ground.phase},{on:=24,ground:=Ground.phase},{on:=25,ground:=Ground.phase},{on:=26,ground:=Ground.phase}],guard:=none}) (v:=?v27) rfl (by kernel_rfl) (by kernel_rfl) (by kernel_rfl) (fun _ _ _ h=>h) (Or.inl ⟨by rfl,?y27⟩) (by assumption) ?r27
 case y27=>intro wz hSw;(try dsimp only at hSw);go_simp;(try with_reducible rfl)
 try simp only[Act.put,List.setIfInBounds_toArray,List.set_cons_zero,List.set_cons_succ]
 refine wpAnyH_done (by kernel_rfl) ?_ _
 refine NoPanic.normal ?_
 clear hHeld
 cases hnm:zag name with
 | true =>
  by_cases hn0:n=0
  ·
   have tn:=nF (show ((n:Nat):Int)=0 by omega)
   have hle:n≤0:=by omega
   have HV:Hid ((zag name&&n==0)=true):=by show _=_;simp[hnm,hn0]
   clear hn0
   go_wp2_with fail
   refine wp_loop_rounds 1 ?_
   rw[rounds_succ]
   go_wp2_with fail
   go_ret
   exact⟨zal HV.out.symm,HB2.out⟩
  ·
   have tn:=nT (show ((n:Nat):Int)≠0 by omega)
   have HV:Hid ((zag name&&n==0)=false):=by show _=_;simp[hn0]
   clear hn0
   go_wp2_with fail
   go_ret
   exact⟨zal HV.out.symm,HB2.out⟩
 | false =>
  have HV:Hid ((zag name&&n==0)=false):=by show _=_;simp[hnm]
  go_wp2_with fail
  go_ret
  exact⟨zal HV.out.symm,HB2.out⟩
end Go.Proofs.YtlnbmmgbfgmboaaDoor

namespace Go.Proofs.YtlnbmmgbfgmboaaDoor
open Go.RowKit
def zaW (op num:Int) (name:List UInt8) (n:Nat):Bool :=
 if strV op=6 then ((op==1&&(decide (0≤num)&&name==[]))||(op==2&&(num==0&&zag name)))&&n==0
 else (n==(if strV op=5 then 1 else 2))&&(num==0&&name==[])
mutual
def zaZ:Ex→Bool
 | .mk op num name args=>zaW op num name args.length&&zb8 args
def zb8:List Ex→Bool
 | []=>true
 | e::r=>zaZ e&&zb8 r
end
theorem zbt (op num:Int) (name:List UInt8) (args:List Ex):zaZ (.mk op num name args)=(zaW op num name args.length&&zb8 args):=by rw[zaZ]
theorem zdM (args:List Ex):zb8 args=true↔∀i (h:i<args.length),zaZ args[i]=true:=by
 induction args with
 | nil=>simp[zb8]
 | cons e r ih =>
  rw[zb8,Bool.and_eq_true,ih]
  constructor
  ·
   rintro ⟨h1,h2⟩ i hi
   cases i with
   | zero=>exact h1
   | succ i=>exact h2 i (by simpa using hi)
  ·
   intro h
   exact⟨h 0 (by simp),fun i hi=>h (i+1) (by simpa using hi)⟩
theorem zaV (op num:Int) (name:List UInt8) (args:List Ex) (h:zaW op num name args.length=false):zaZ (.mk op num name args)=false:=by
 rw[zbt,h]
 rfl
theorem ze3 (op num:Int) (name:List UInt8) (args:List Ex) (i:Nat) (hi:i<args.length) (h:zaZ args[i]=false):zaZ (.mk op num name args)=false:=by
 rw[zbt]
 have:zb8 args=false:=by
  rw[Bool.eq_false_iff]
  intro hh
  have:=(zdM args).1 hh i hi
  rw[h] at this
  cases this
 rw[this,Bool.and_false]
theorem zdt (op num:Int) (name:List UInt8) (args:List Ex) (h:zaW op num name args.length=true) (hs:∀i (h:i<args.length),zaZ args[i]=true):zaZ (.mk op num name args)=true:=by
 rw[zbt,h,(zdM args).2 hs]
 rfl
theorem zcv (op num:Int) (name:List UInt8) (n:Nat) (h:strV op=6):zaW op num name n=(((op==1&&(decide (0≤num)&&name==[]))||(op==2&&(num==0&&zag name)))&&n==0):=if_pos h
theorem zdp (op num:Int) (name:List UInt8) (n:Nat) (h:strV op=5):zaW op num name n=(n==1&&(num==0&&name==[])):=by
 unfold zaW
 rw[if_neg (by omega),if_pos h]
theorem zdU (op num:Int) (name:List UInt8) (n:Nat) (h5:strV op≠5) (h6:strV op≠6):zaW op num name n=(n==2&&(num==0&&name==[])):=by
 unfold zaW
 rw[if_neg h6,if_neg h5]
set_option maxRecDepth 100000 in
set_option maxHeartbeats 4000000 in
theorem zhu (N:Nat):∀(E:Ex) (op num:Int) (name:List UInt8) (A:Option Addr) (n c:Nat) (w:World),SizeOf.sizeOf E<N→ExB E→ExM w (fun _=>True) E ⟨op,num,name,A,n,c⟩ →
  Calls Tryd.prog 73 #[.agg #[.int .i64 op,.int .i64 num,.string ⟨name.toArray⟩,.slice A n c]] w fun e w'=>e=.returned (.bool (zaZ E))∧Below w.heap.size w w':=by
 induction N with
 | zero=>intro E op num name A n c w h;omega
 | succ N ih =>
  intro E op num name A n c w hN hok hM
  have IH:=Lib.hid ih
  clear ih
  cases hM with
  | mk _ _ _ args _ _ F hc hs =>
  have HC:=Lib.hid hc
  have HS:=Lib.hid hs
  have hsz:=fun i h=>zdR op num name args i h
  have HSZ:=Lib.hid hsz
  have hal:args.length≤1000000:=by
   cases hok with
   | mk _ _ _ _ hl hn hs=>exact hl
  have HNL:Hid (name.length≤9223372036854775807):=by
   cases hok with
   | mk _ _ _ _ hl hn hs=>exact hn
  have HIO:Hid (∀i (h:i<args.length),ExB args[i]):=by
   cases hok with
   | mk _ _ _ _ hl hn hs=>exact hs
  clear hok hc hs hsz
  have HB0:Hid (Below w.heap.size w (w.alloc (.cells #[.int .i64 op,.int .i64 num,.string ⟨name.toArray⟩,.slice A args.length c] 76))):=(Below.refl _ _).alloc (Nat.le_refl _) _
  by_cases hc20:op=2∧num=0
  ·
   obtain⟨rfl,rfl⟩:=hc20
   refine(shape_nm name A args.length c w hal HNL.out).mono ?_
   rintro e w' ⟨rfl,hb⟩
   refine⟨?_,hb⟩
   have h1:zaZ (.mk 2 0 name args)=(zag name&&args.length==0):=by
    rw[zbt,zcv 2 0 name _ (by decide)]
    by_cases h0:args.length=0
    ·
     obtain rfl:args=[]:=List.length_eq_zero_iff.1 h0
     simp[zb8]
    ·
     simp[h0]
   rw[h1]
  go_enter Tryd.func73,Tryd.ntmps73
  go_wp2_with fail
  refine(zbR op _).mono ?_
  rintro e w1 ⟨rfl,hb1⟩
  obtain⟨q0,q1,q2,q3,f0,f1,f2,f3,hz⟩:=zb4 hb1
  have HBW:=Lib.hid (za1 HB0.out hb1)
  clear hb1 f0 f1 f2 f3 HB0
  by_cases h6:strV op=6
  ·
   have t6:=bT (show ((strV op:Nat):Int)=6 by omega)
   have H6:=Lib.hid h6
   clear h6
   by_cases c1:op=1
   ·
    have t1:=bT c1
    have t2:=bF (show op≠2 by omega)
    have C1:=Lib.hid c1
    by_cases hnum:0≤num
    ·
     have dn:decide (0≤num)=true:=by simp;omega
     by_cases hnm:name=[]
     ·
      have te:(name==[])=true:=by simp[hnm]
      have HNM:=Lib.hid hnm
      clear c1 hnm
      by_cases hn0:args.length=0
      ·
       have tn:=nF (show ((args.length:Nat):Int)=0 by omega)
       have HHD:=Lib.hid (zdt op num name args (by rw[zcv _ _ _ _ H6.out];simp[hn0,C1.out,hnum,HNM.out]) (fun j h=>absurd h (by omega)))
       have hle:args.length≤0:=by omega
       clear hn0
       go_wp2_with fail
       go_quiet (fail)
       go_wp2_with fail
       refine wp_loop_rounds 1 ?_
       rw[rounds_succ]
       go_wp2_with fail
       go_ret
       exact⟨zal HHD.out.symm,zat HBW.out _⟩
      ·
       have tn:=nT (show ((args.length:Nat):Int)≠0 by omega)
       have HF:=Lib.hid (zaV op num name args (by rw[zcv _ _ _ _ H6.out];simp[hn0]))
       clear hn0
       go_wp2_with fail
       go_quiet (fail)
       go_wp2_with fail
       go_ret
       exact⟨zal HF.out.symm,zat HBW.out _⟩
     ·
      have te:(name==[])=false:=by simp[hnm]
      have HF:=Lib.hid (zaV op num name args (by rw[zcv _ _ _ _ H6.out];simp[C1.out,hnm]))
      clear c1 hnm
      go_wp2_with fail
      go_quiet (fail)
      go_wp2_with fail
      go_ret
      exact⟨zal HF.out.symm,zat HBW.out _⟩
    ·
     have dn:decide (0≤num)=false:=decide_eq_false (by omega)
     have HF:=Lib.hid (zaV op num name args (by rw[zcv _ _ _ _ H6.out];simp[C1.out,hnum]))
     go_wp2_with fail
     go_quiet (fail)
     go_wp2_with fail
     go_ret
     exact⟨zal HF.out.symm,zat HBW.out _⟩
   ·
    have t1:=bF c1
    by_cases c2:op=2
    ·
     have t2:=bT c2
     by_cases hnum:num=0
     ·
      exact absurd ⟨c2,hnum⟩ hc20
     ·
      have tm:=bF hnum
      have HF:=Lib.hid (zaV op num name args (by rw[zcv _ _ _ _ H6.out];simp[c2,hnum]))
      clear c1 c2 hnum
      go_wp2_with fail
      go_quiet (fail)
      go_wp2_with fail
      go_ret
      exact⟨zal HF.out.symm,zat HBW.out _⟩
    ·
     have t2:=bF c2
     have HF:=Lib.hid (zaV op num name args (by rw[zcv _ _ _ _ H6.out];simp[c1,c2]))
     clear c1 c2
     go_wp2_with fail
     go_quiet (fail)
     go_wp2_with fail
     go_ret
     exact⟨zal HF.out.symm,zat HBW.out _⟩
  ·
   have t6:=bF (show ((strV op:Nat):Int)≠6 by omega)
   by_cases h5:strV op=5
   ·
    have t5:=bT (show ((strV op:Nat):Int)=5 by omega)
    have H5:=Lib.hid h5
    clear h5 h6
    by_cases hn1:args.length=1
    ·
     have tn:=nF (show ((args.length:Nat):Int)=1 by omega)
     by_cases hnum:num=0
     ·
      have tm:=nF hnum
      by_cases hnm:name=[]
      ·
       have te:(name != [])=false:=by simp[hnm]
       have te2:(name==[])=true:=by simp[hnm]
       have hhd:zaW op num name args.length=true:=by
        rw[zdp _ _ _ _ H5.out]
        simp[hn1,hnum,hnm]
       have HHD:=Lib.hid hhd
       clear hhd
       have hge:1≤args.length:=by omega
       have hle:args.length≤1:=by omega
       have HNM:=Lib.hid hnm
       clear hn1 hnum hnm
       go_wp2_with fail
       go_loopw [6] (fun i wz=>∃m:Nat,m≤1∧i=.int .i64 m∧Hid (∀j (_:j<m) (h:j<args.length),zaZ args[j]=true)∧Below w1.heap.size w1 wz) (fun i _=>1-(intOf i).toNat)
       case atStart=>exact⟨0,by omega,rfl,fun j hj=>absurd hj (by omega),Below.refl _ _⟩
       case round =>
        obtain⟨m,hm,rfl,hrel,hbel⟩:=hrel
        have HBZ:=Lib.hid hbel
        have z3:=cell_later hbel q3
        clear hbel
        by_cases hlt:m<1
        ·
         have hlt':m<args.length:=by omega
         obtain⟨b,off,rfl,-,hat⟩:=HC.out m hlt'
         have HBY:=Lib.hid (za1 HBW.out HBZ.out)
         obtain⟨a0,a1,a2,a3⟩:=hat.keep (HBY.out.block b hat.lt)
         have HCH:=Lib.hid ((HS.out m hlt').later HBY.out)
         go_wp2_with fail
         refine(IH.out args[m] (F m).op (F m).num (F m).name (F m).A (F m).n (F m).c _ (by have:=HSZ.out m hlt';omega) (HIO.out m hlt') HCH.out).mono ?_
         rintro e w3 ⟨rfl,hb3⟩
         have HB3:=Lib.hid (za1 HBZ.out hb3)
         clear hb3 a0 a1 a2 a3 z3
         by_cases hsh:zaZ args[m]=true
         ·
          have HE:Hid (∀j (_:j<m+1) (h:j<args.length),zaZ args[j]=true):=by
           intro j hj h
           by_cases hjm:j=m
           ·
            subst hjm;exact hsh
           ·
            exact hrel.out j (by omega) h
          go_wp2_with fail
          go_roundw
          case rel=>exact⟨m+1,by omega,by go_num,HE,HB3.out⟩
          case measure=>simp[intOf];omega
         ·
          have hsh':zaZ args[m]=false:=by simpa using hsh
          have HE:=Lib.hid (ze3 op num name args m hlt' hsh')
          clear hsh
          go_wp2_with fail
          go_ret
          exact⟨zal HE.out.symm,za1 HBW.out HB3.out⟩
        ·
         have HE:=Lib.hid (zdt op num name args HHD.out (fun j h=>hrel.out j (by omega) h))
         go_wp2_with fail
         go_ret
         exact⟨zal HE.out.symm,za1 HBW.out HBZ.out⟩
      ·
       have te:(name != [])=true:=by simp[hnm]
       have te2:(name==[])=false:=by simp[hnm]
       have HF:=Lib.hid (zaV op num name args (by rw[zdp _ _ _ _ H5.out];simp[hnm]))
       clear hn1 hnum hnm
       go_wp2_with fail
       go_ret
       exact⟨zal HF.out.symm,HBW.out⟩
     ·
      have tm:=nT hnum
      have HF:=Lib.hid (zaV op num name args (by rw[zdp _ _ _ _ H5.out];simp[hnum]))
      clear hn1 hnum
      go_wp2_with fail
      go_ret
      exact⟨zal HF.out.symm,HBW.out⟩
    ·
     have tn:=nT (show ((args.length:Nat):Int)≠1 by omega)
     have HF:=Lib.hid (zaV op num name args (by rw[zdp _ _ _ _ H5.out];simp[hn1]))
     clear hn1
     go_wp2_with fail
     go_ret
     exact⟨zal HF.out.symm,HBW.out⟩
   ·
    have t5:=bF (show ((strV op:Nat):Int)≠5 by omega)
    have H5:=Lib.hid h5
    have H6:=Lib.hid h6
    clear h5 h6
    by_cases hn2:args.length=2
    ·
     have tn:=nF (show ((args.length:Nat):Int)=2 by omega)
     by_cases hnum:num=0
     ·
      have tm:=nF hnum
      by_cases hnm:name=[]
      ·
       have te:(name != [])=false:=by simp[hnm]
       have te2:(name==[])=true:=by simp[hnm]
       have hhd:zaW op num name args.length=true:=by
        rw[zdU _ _ _ _ H5.out H6.out]
        simp[hn2,hnum,hnm]
       have HHD:=Lib.hid hhd
       clear hhd
       have hge:2≤args.length:=by omega
       have hle:args.length≤2:=by omega
       have HNM:=Lib.hid hnm
       clear hn2 hnum hnm
       go_wp2_with fail
       go_loopw [6] (fun i wz=>∃m:Nat,m≤2∧i=.int .i64 m∧Hid (∀j (_:j<m) (h:j<args.length),zaZ args[j]=true)∧Below w1.heap.size w1 wz) (fun i _=>2-(intOf i).toNat)
       case atStart=>exact⟨0,by omega,rfl,fun j hj=>absurd hj (by omega),Below.refl _ _⟩
       case round =>
        obtain⟨m,hm,rfl,hrel,hbel⟩:=hrel
        have HBZ:=Lib.hid hbel
        have z3:=cell_later hbel q3
        clear hbel
        by_cases hlt:m<2
        ·
         have hlt':m<args.length:=by omega
         obtain⟨b,off,rfl,-,hat⟩:=HC.out m hlt'
         have HBY:=Lib.hid (za1 HBW.out HBZ.out)
         obtain⟨a0,a1,a2,a3⟩:=hat.keep (HBY.out.block b hat.lt)
         have HCH:=Lib.hid ((HS.out m hlt').later HBY.out)
         go_wp2_with fail
         refine(IH.out args[m] (F m).op (F m).num (F m).name (F m).A (F m).n (F m).c _ (by have:=HSZ.out m hlt';omega) (HIO.out m hlt') HCH.out).mono ?_
         rintro e w3 ⟨rfl,hb3⟩
         have HB3:=Lib.hid (za1 HBZ.out hb3)
         clear hb3 a0 a1 a2 a3 z3
         by_cases hsh:zaZ args[m]=true
         ·
          have HE:Hid (∀j (_:j<m+1) (h:j<args.length),zaZ args[j]=true):=by
           intro j hj h
           by_cases hjm:j=m
           ·
            subst hjm;exact hsh
           ·
            exact hrel.out j (by omega) h
          go_wp2_with fail
          go_roundw
          case rel=>exact⟨m+1,by omega,by go_num,HE,HB3.out⟩
          case measure=>simp[intOf];omega
         ·
          have hsh':zaZ args[m]=false:=by simpa using hsh
          have HE:=Lib.hid (ze3 op num name args m hlt' hsh')
          clear hsh
          go_wp2_with fail
          go_ret
          exact⟨zal HE.out.symm,za1 HBW.out HB3.out⟩
        ·
         have HE:=Lib.hid (zdt op num name args HHD.out (fun j h=>hrel.out j (by omega) h))
         go_wp2_with fail
         go_ret
         exact⟨zal HE.out.symm,za1 HBW.out HBZ.out⟩
      ·
       have te:(name != [])=true:=by simp[hnm]
       have te2:(name==[])=false:=by simp[hnm]
       have HF:=Lib.hid (zaV op num name args (by rw[zdU _ _ _ _ H5.out H6.out];simp[hnm]))
       clear hn2 hnum hnm
       go_wp2_with fail
       go_ret
       exact⟨zal HF.out.symm,HBW.out⟩
     ·
      have tm:=nT hnum
      have HF:=Lib.hid (zaV op num name args (by rw[zdU _ _ _ _ H5.out H6.out];simp[hnum]))
      clear hn2 hnum
      go_wp2_with fail
      go_ret
      exact⟨zal HF.out.symm,HBW.out⟩
    ·
     have tn:=nT (show ((args.length:Nat):Int)≠2 by omega)
     have HF:=Lib.hid (zaV op num name args (by rw[zdU _ _ _ _ H5.out H6.out];simp[hn2]))
     clear hn2
     go_wp2_with fail
     go_ret
     exact⟨zal HF.out.symm,HBW.out⟩
end Go.Proofs.YtlnbmmgbfgmboaaDoor
