import Derived.Test.YtlnbmmgbfgmboaaDoorQ2
import Derived.Lib.Join
import Derived.Test.YtlnbmmgbfgmboaaDoorQ3
import Derived.Test.YtlnbmmgbfgmboaaDoorQ16
namespace Go.Proofs.YtlnbmmgbfgmboaaDoor
open Go.RowKit
def zb2 (ts:List Tk.Tok):List (List UInt8):=(ts.filter fun t=>t.kind != 5).map (·.text)
def zbl (ts:List Tk.Tok):List UInt8:=Lib.join (zb2 ts) [32]
theorem zhn (ts:List Tk.Tok) (k:Nat) (h:k<ts.length) (h5:ts[k].kind=5):zb2 (ts.take (k+1))=zb2 (ts.take k):=by
 unfold zb2
 rw[List.take_succ_eq_append_getElem h,List.filter_append,List.map_append]
 simp only[List.filter_cons,List.filter_nil,h5]
 simp
theorem zhm (ts:List Tk.Tok) (k:Nat) (h:k<ts.length) (h5:ts[k].kind≠5):zb2 (ts.take (k+1))=zb2 (ts.take k)++[ts[k].text]:=by
 unfold zb2
 rw[List.take_succ_eq_append_getElem h,List.filter_append,List.map_append]
 have:(ts[k].kind != 5)=true:=by simpa using h5
 simp only[List.filter_cons,List.filter_nil,this]
 simp
end Go.Proofs.YtlnbmmgbfgmboaaDoor

namespace Go.Proofs.YtlnbmmgbfgmboaaDoor
open Go.RowKit
theorem join_app (xs ys:List (List UInt8)):(Lib.join xs [32]).length≤(Lib.join (xs++ys) [32]).length:=by
 cases xs with
 | nil=>rw[Lib.join_nil];simp
 | cons x r =>
  rw[List.cons_append,Lib.join_cons,Lib.join_cons]
  unfold Lib.joinTail
  rw[List.map_append,List.flatten_append,List.length_append,List.length_append,List.length_append]
  omega
theorem zj6 (xs:List (List UInt8)) (y:List UInt8):Lib.join (xs++[y]) [32]=if xs=[] then y else Lib.join xs [32]++([32]++y):=by
 cases xs with
 | nil=>rw[if_pos rfl,List.nil_append,Lib.join_one]
 | cons x r =>
  rw[if_neg (by simp),List.cons_append,Lib.join_cons,Lib.join_cons]
  unfold Lib.joinTail
  simp
theorem zi8 (ts:List Tk.Tok) (k:Nat):(zbl (ts.take k)).length≤(zbl ts).length:=by
 have h:zb2 ts=zb2 (ts.take k)++zb2 (ts.drop k):=by
  unfold zb2
  rw[←List.map_append,←List.filter_append,List.take_append_drop]
 unfold zbl
 rw[h]
 exact join_app _ _
set_option maxRecDepth 100000 in
set_option maxHeartbeats 2000000 in
theorem zfD (ts:List Tk.Tok) (A:Option Addr) (cap:Nat) (w:World) (hT:TokS w A ts) (hn:ts.length≤1000000) (hlen:(zbl ts).length≤1000000000) :
  Calls Tryd.prog 12 #[.slice A ts.length cap] w fun e w'=>e=.returned (.string ⟨(zbl ts).toArray⟩)∧Below w.heap.size w w':=by
 have HT:=Lib.hid hT
 have HL:=Lib.hid hlen
 have happ:=bapp
 clear hT hlen
 go_enter Tryd.func12,Tryd.ntmps12
 go_wp2_with fail
 go_loopw [3,4,5] (fun s f i wr=>∃(k:Nat) (t:List UInt8),k≤ts.length∧i=.int .i64 k∧s=.string ⟨t.toArray⟩∧f=.bool (decide (zb2 (ts.take k)=[]))∧Hid (t=zbl (ts.take k))∧Hid (wr=w)) (fun _ _ i _=>ts.length-(intOf i).toNat)
 case atStart=>exact⟨0,[],Nat.zero_le _,rfl,rfl,by simp[zb2],rfl,rfl⟩
 case round =>
  obtain⟨k,t,hk,rfl,rfl,rfl,ht,hw⟩:=hrel
  have hw':wr=w:=hw.out
  subst hw'
  by_cases hlt:k<ts.length
  ·
   obtain⟨b,rfl,c0,c1,-,-⟩:=HT.out k hlt
   have i0:(0:Int)≤(k:Int):=by omega
   have i1:(k:Int)<(ts.length:Int):=by omega
   by_cases h5:ts[k].kind=5
   ·
    have hk5:(((ts[k].kind:Nat):Int)==5)=true:=bT (by omega)
    have HSK:=Lib.hid (zhn ts k hlt h5)
    clear h5
    go_wp2_with fail
    go_roundw
    case rel =>
     refine⟨k+1,t,by omega,by go_num,rfl,?_,?_,trivial⟩
     ·
      rw[HSK.out]
     ·
      show _=_
      rw[ht.out,zbl,zbl,HSK.out]
    case measure=>simp[intOf];omega
   ·
    have hk5:(((ts[k].kind:Nat):Int)==5)=false:=bF (by omega)
    have HSK:=Lib.hid (zhm ts k hlt h5)
    have hle:=zi8 ts (k+1)
    have hL:=HL.out
    have HTK:Hid (zbl (ts.take (k+1))=if zb2 (ts.take k)=[] then ts[k].text else zbl (ts.take k)++([32]++ts[k].text)):=by
     show _=_
     unfold zbl
     rw[HSK.out,zj6]
    have HNE:Hid (decide (zb2 (ts.take (k+1))=[])=false):=by
     show _=_
     rw[HSK.out]
     simp
    clear h5
    by_cases he:zb2 (ts.take k)=[]
    ·
     have hd:decide (zb2 (ts.take k)=[])=true:=decide_eq_true he
     have ht0:t=[]:=by rw[ht.out,zbl,he];rfl
     subst ht0
     have hT1:=HTK.out
     rw[if_pos he] at hT1
     have HT1:=Lib.hid hT1
     have hl1:ts[k].text.length≤1000000000:=by rw[hT1] at hle;omega
     rw[hd]
     clear he hT1 hle hL hd
     go_wp2_with fail
     go_roundw
     case rel =>
      refine⟨k+1,ts[k].text,by omega,by go_num,rfl,?_,?_,trivial⟩
      ·
       rw[HNE.out]
      ·
       show _=_
       rw[HT1.out]
     case measure=>simp[intOf];omega
    ·
     have hd:decide (zb2 (ts.take k)=[])=false:=decide_eq_false he
     have hT1:=HTK.out
     rw[if_neg he,←ht.out] at hT1
     have HT1:=Lib.hid hT1
     have hl1:t.length+(1+ts[k].text.length)≤1000000000:=by rw[hT1] at hle;simp at hle;omega
     rw[hd]
     clear he hT1 hle hL hd
     go_wp2_with fail
     go_roundw
     case rel =>
      refine⟨k+1,t++([32]++ts[k].text),by omega,by go_num,?_,?_,?_,trivial⟩
      ·
       simp
      ·
       rw[HNE.out]
      ·
       show _=_
       rw[HT1.out]
     case measure=>simp[intOf];omega
  ·
   have i1:¬(k:Int)<(ts.length:Int):=by omega
   have HTE:Hid (t=zbl ts):=by show _=_;rw[ht.out,List.take_of_length_le (by omega)]
   go_wp2_with fail
   go_ret
   exact⟨by rw[HTE.out];rfl,Below.refl _ _⟩
end Go.Proofs.YtlnbmmgbfgmboaaDoor

namespace Go.Proofs.YtlnbmmgbfgmboaaDoor
def SameT (p:Bool) (ts us:List Tk.Tok):Prop :=
 us.length=ts.length∧∀i (h:i<ts.length) (h':i<us.length),us[i].kind=ts[i].kind∧us[i].text=ts[i].text∧us[i].num=ts[i].num∧(p=true→us[i].pos=ts[i].pos)
theorem SameT.refl (p:Bool) (ts:List Tk.Tok):SameT p ts ts:=⟨rfl,fun _ _ _=>⟨rfl,rfl,rfl,fun _=>rfl⟩⟩
end Go.Proofs.YtlnbmmgbfgmboaaDoor

namespace Go.Proofs.YtlnbmmgbfgmboaaDoor
def Aft (r:List UInt8):Prop:=r=[]∨∃c r',r=c::r'∧(c.toNat=32∨c.toNat=9∨c.toNat=13∨c.toNat=10)
structure Good (t:Tk.Tok):Prop where
 ne:t.text≠[]
 again:∀(pre r:List UInt8),Aft r→Tk.tokAt (pre++(t.text++r)) pre.length=.ok {t with pos:=pre.length}
 stop:∀r,Aft r→Tk.sepLen false (t.text++r)=0
theorem zda (p:UInt8→Bool) (s r:List UInt8) (hs:∀c∈s,p c=true) (hr:Aft r) (hp:∀c:UInt8,(c.toNat=32∨c.toNat=9∨c.toNat=13∨c.toNat=10)→p c=false):(s++r).takeWhile p=s:=by
 induction s with
 | nil =>
  rcases hr with rfl|⟨c,r',rfl,hc⟩
  ·
   rfl
  ·
   rw[List.nil_append,List.takeWhile_cons,if_neg (by simp[hp c hc])]
 | cons a s ih =>
  rw[List.cons_append,List.takeWhile_cons,if_pos (hs a (by simp)),ih (fun c hc=>hs c (by simp[hc]))]
theorem zdW (pre s:List UInt8):(pre++s).drop pre.length=s:=by simp
theorem zdV (pre:List UInt8) (c:UInt8) (s:List UInt8):(pre++c::s).getD pre.length 0=c:=by simp[List.getD]
theorem zd8 (p:UInt8→Bool) (s:List UInt8):∀c∈s.takeWhile p,p c=true:=by
 induction s with
 | nil=>simp
 | cons a r ih =>
  rw[List.takeWhile_cons]
  split
  ·
   rename_i h
   intro c hc
   rcases List.mem_cons.1 hc with rfl|hc
   ·
    exact h
   ·
    exact ih c hc
  ·
   simp
theorem ld_spc (c:UInt8) (h:c.toNat=32∨c.toNat=9∨c.toNat=13∨c.toNat=10):Tk.isLD c=false∧Tk.isDig c=false:=by
 unfold Tk.isLD Tk.isLet Tk.isDig
 rcases h with h|h|h|h<;>simp[h]
theorem sep_ld (c:UInt8) (s:List UInt8) (h:Tk.isLD c=true):Tk.sepLen false (c::s)=0:=by
 have h1:Tk.isSpc c=false∧c.toNat≠47:=by
  unfold Tk.isLD Tk.isLet Tk.isDig at h
  unfold Tk.isSpc
  simp at h ⊢
  omega
 rw[Tk.sepLen_f,if_neg (by simp[h1.1]),if_neg (fun h=>h1.2 h.1)]
theorem zja (l:List UInt8) (k:Nat) (t:Tk.Tok) (hk:k<l.length) (hL:Tk.isLet l[k]=true) (h:Tk.nameAt l k=.ok t):Good t:=by
 have hd:l.drop k=l[k]::l.drop (k+1):=List.drop_eq_getElem_cons hk
 have hLD:Tk.isLD l[k]=true:=by simp[Tk.isLD,hL]
 have hx:(l.drop k).takeWhile Tk.isLD=l[k]::(l.drop (k+1)).takeWhile Tk.isLD:=by rw[hd,List.takeWhile_cons,if_pos hLD]
 have hall:=zd8 Tk.isLD (l.drop k)
 unfold Tk.nameAt at h
 dsimp only at h
 split at h
 ·
  cases h
 ·
  rename_i h16
  injection h with h
  subst h
  rw[hx] at hall h16
  refine⟨by rw[hx];simp,?_,?_⟩
  ·
   intro pre r hr
   dsimp only
   rw[hx]
   have htw:=zda Tk.isLD _ r hall hr (fun c hc=>(ld_spc c hc).1)
   unfold Tk.tokAt
   rw[List.cons_append,zdV,if_pos hL]
   unfold Tk.nameAt
   rw[zdW]
   rw[List.cons_append] at htw
   rw[htw]
   dsimp only
   rw[if_neg h16]
  ·
   intro r _
   dsimp only
   rw[hx,List.cons_append]
   exact sep_ld _ _ hLD
theorem good_num (l:List UInt8) (k:Nat) (t:Tk.Tok) (hk:k<l.length) (hL:Tk.isLet l[k]=false) (hD:Tk.isDig l[k]=true) (h:Tk.numAt l k=.ok t):Good t:=by
 have hd:l.drop k=l[k]::l.drop (k+1):=List.drop_eq_getElem_cons hk
 have hLD:Tk.isLD l[k]=true:=by simp[Tk.isLD,hD]
 have hx:(l.drop k).takeWhile Tk.isDig=l[k]::(l.drop (k+1)).takeWhile Tk.isDig:=by rw[hd,List.takeWhile_cons,if_pos hD]
 have hall:=zd8 Tk.isDig (l.drop k)
 unfold Tk.numAt at h
 dsimp only at h
 split at h
 ·
  cases h
 ·
  rename_i v hv
  injection h with h
  subst h
  rw[hx] at hall hv
  refine⟨by rw[hx];simp,?_,?_⟩
  ·
   intro pre r hr
   dsimp only
   rw[hx]
   have htw:=zda Tk.isDig _ r hall hr (fun c hc=>(ld_spc c hc).2)
   unfold Tk.tokAt
   rw[List.cons_append,zdV,if_neg (by simp[hL]),if_pos hD]
   unfold Tk.numAt
   rw[zdW]
   rw[List.cons_append] at htw
   rw[htw]
   dsimp only
   rw[hv]
  ·
   intro r _
   dsimp only
   rw[hx,List.cons_append]
   exact sep_ld _ _ hLD
theorem zga (s:List UInt8) (h:Tk.signs2.contains s=true):∃a b,s=[a,b]∧Tk.isLet a=false∧Tk.isDig a=false∧Tk.isSpc a=false∧a.toNat≠47:=by
 simp[Tk.signs2] at h
 rcases h with rfl|rfl|rfl|rfl|rfl|rfl<;>exact⟨_,_,rfl,by decide,by decide,by decide,by decide⟩
theorem zgb (s:List UInt8) (h:Tk.signs1.contains s=true):∃a,s=[a]∧Tk.isLet a=false∧Tk.isDig a=false∧Tk.isSpc a=false:=by
 simp[Tk.signs1] at h
 rcases h with rfl|rfl|rfl|rfl|rfl|rfl|rfl|rfl|rfl|rfl|rfl|rfl|rfl|rfl|rfl|rfl|rfl<;>exact⟨_,rfl,by decide,by decide,by decide⟩
theorem zig (a c:UInt8) (hc:c.toNat=32∨c.toNat=9∨c.toNat=13∨c.toNat=10):Tk.signs2.contains [a,c]=false:=by
 have h1:c≠61∧c≠38∧c≠124:=by
  refine⟨?_,?_,?_⟩<;>(rintro rfl;revert hc;decide)
 simp[Tk.signs2,h1]
theorem zj9 (l:List UInt8) (k:Nat) (t:Tk.Tok) (h:Tk.signAt l k=.ok t):Good t:=by
 unfold Tk.signAt at h
 split at h
 ·
  rename_i h2
  injection h with h
  subst h
  obtain⟨a,b,e,hL,hD,hS,h47⟩:=zga _ h2.2
  have hc:=h2.2
  rw[e] at hc
  refine⟨by rw[e];simp,?_,?_⟩
  ·
   intro pre r hr
   dsimp only
   rw[e]
   unfold Tk.tokAt
   rw[List.cons_append,zdV,if_neg (by simp[hL]),if_neg (by simp[hD])]
   unfold Tk.signAt
   rw[zdW]
   have ht:(a::([b]++r)).take 2=[a,b]:=rfl
   rw[ht,if_pos ⟨by simp,hc⟩]
  ·
   intro r _
   dsimp only
   rw[e,List.cons_append,Tk.sepLen_f,if_neg (by simp[hS]),if_neg (fun h=>h47 h.1)]
 ·
  split at h
  ·
   rename_i h1
   injection h with h
   subst h
   obtain⟨a,e,hL,hD,hS⟩:=zgb _ h1
   rw[e] at h1
   refine⟨by rw[e];simp,?_,?_⟩
   ·
    intro pre r hr
    dsimp only
    rw[e]
    unfold Tk.tokAt
    rw[List.cons_append,zdV,if_neg (by simp[hL]),if_neg (by simp[hD])]
    unfold Tk.signAt
    rw[zdW]
    have ht:(a::([]++r)).take 1=[a]:=rfl
    rw[ht]
    have h2:¬(pre.length+2≤(pre++a::([]++r)).length∧Tk.signs2.contains ((a::([]++r)).take 2)=true):=by
     rintro ⟨g1,g2⟩
     rcases hr with rfl|⟨c,r',rfl,hc⟩
     ·
      simp at g1
     ·
      have:(a::([]++c::r')).take 2=[a,c]:=rfl
      rw[this,zig a c hc] at g2
      cases g2
    rw[if_neg h2,if_pos h1]
   ·
    intro r hr
    dsimp only
    rw[e,List.cons_append,Tk.sepLen_f,if_neg (by simp[hS]),if_neg]
    rintro ⟨_,g⟩
    rcases hr with rfl|⟨c,r',rfl,hc⟩
    ·
     simp at g
    ·
     simp at g
     omega
  ·
   cases h
theorem tok_kind (l:List UInt8) (k:Nat) (t:Tk.Tok) (h:Tk.tokAt l k=.ok t):t.kind≠5:=by
 unfold Tk.tokAt at h
 split at h
 ·
  unfold Tk.nameAt at h
  dsimp only at h
  split at h
  ·
   cases h
  ·
   injection h with h
   subst h
   dsimp only
   split<;>omega
 ·
  split at h
  ·
   unfold Tk.numAt at h
   dsimp only at h
   split at h
   ·
    cases h
   ·
    injection h with h
    subst h
    dsimp only
    omega
  ·
   unfold Tk.signAt at h
   split at h
   ·
    injection h with h
    subst h
    dsimp only
    omega
   ·
    split at h
    ·
     injection h with h
     subst h
     dsimp only
     omega
    ·
     cases h
theorem good_tok (l:List UInt8) (k:Nat) (t:Tk.Tok) (hk:k<l.length) (h:Tk.tokAt l k=.ok t):Good t:=by
 have hg:l.getD k 0=l[k]:=by simp[List.getD,List.getElem?_eq_getElem hk]
 unfold Tk.tokAt at h
 rw[hg] at h
 split at h
 ·
  exact zja l k t hk (by assumption) h
 ·
  split at h
  ·
   rename_i h1 h2
   exact good_num l k t hk (by simpa using h1) h2 h
  ·
   exact zj9 l k t h
theorem zhK (l:List UInt8) (f:Nat):∀(k:Nat) (acc:List Tk.Tok),k≤l.length→l.length-k<f→acc.length≤4000→(∀t∈acc,Good t∧t.kind≠5)→(Tk.lexGo f l k acc).2.2=0 →
  ∃ts,Tk.lexGo f l k acc=(ts++[⟨5,[],0,l.length⟩],l.length,0)∧(∀t∈ts,Good t∧t.kind≠5)∧ts.length≤4000:=by
 induction f with
 | zero=>intro k acc _ h;omega
 | succ f ih =>
  intro k acc hk hf ha hg h0
  by_cases hlt:k<l.length
  ·
   cases ht:Tk.tokAt l k with
   | error e =>
    rw[zbo f l k e acc hlt ht] at h0
    have:=zg6 l k e ht
    dsimp only at h0
    omega
   | ok t =>
    by_cases hn:acc.length=4000
    ·
     rw[zaU f l k acc t hlt ht hn] at h0
     cases h0
    ·
     rw[zaK f l k acc t hlt ht hn] at h0 ⊢
     obtain⟨hp,hle,_⟩:=zfo l k t hlt ht
     have hs:k+t.text.length≤Tk.skipTo l (k+t.text.length):=by unfold Tk.skipTo;omega
     refine ih _ _ (Tk.skipTo_le l _ hle) (by omega) (by simp;omega) ?_ h0
     intro u hu
     rcases List.mem_append.1 hu with hu|hu
     ·
      exact hg u hu
     ·
      rw[List.mem_singleton.1 hu]
      exact⟨good_tok l k t hlt ht,tok_kind l k t ht⟩
  ·
   exact⟨acc,zbU f l k acc (by omega),hg,ha⟩
theorem lex_good (l:List UInt8) (h0:(Tk.lex l).2.2=0):∃ts,Tk.lex l=(ts++[⟨5,[],0,l.length⟩],l.length,0)∧(∀t∈ts,Good t∧t.kind≠5)∧ts.length≤4000∧l.length≤262144:=by
 by_cases hl:l.length>262144
 ·
  unfold Tk.lex at h0
  rw[if_pos hl] at h0
  cases h0
 ·
  have e:Tk.lex l=Tk.lexGo (l.length+1) l (Tk.skipTo l 0) []:=by unfold Tk.lex;rw[if_neg hl]
  rw[e] at h0 ⊢
  obtain⟨ts,h1,h2,h3⟩:=zhK l (l.length+1) (Tk.skipTo l 0) [] (Tk.skipTo_le l 0 (by omega)) (by omega) (by simp) (by simp) h0
  exact⟨ts,h1,h2,h3,by omega⟩
def SepOk (s:List UInt8):Prop:=∀tail,Tk.sepLen false (s++tail)=s.length+Tk.sepLen false tail
theorem SepOk.nil:SepOk []:=fun tail=>by simp
theorem SepOk.app {s r:List UInt8} (h:SepOk s) (h':SepOk r):SepOk (s++r):=fun tail=>by
 rw[List.append_assoc,h,h',List.length_append]
 omega
theorem SepOk.spc (c:UInt8) (hc:Tk.isSpc c=true):SepOk [c]:=fun tail=>by
 rw[List.cons_append,Tk.sepLen_f,if_pos hc]
 simp
 omega
def zaI:List (Tk.Tok × List UInt8)→List UInt8
 | []=>[]
 | p::r=>p.1.text++(p.2++zaI r)
def zg1:List (Tk.Tok × List UInt8)→Prop
 | []=>True
 | p::r=>Good p.1∧SepOk p.2∧Aft (p.2++zaI r)∧zg1 r
def zjl (t u:Tk.Tok):Prop:=u.kind=t.kind∧u.text=t.text∧u.num=t.num
theorem ze2 (ps:List (Tk.Tok × List UInt8)) (h:zg1 ps):Tk.sepLen false (zaI ps)=0:=by
 cases ps with
 | nil=>rfl
 | cons p r=>exact h.1.stop _ h.2.2.1
theorem relex_go (ps:List (Tk.Tok × List UInt8)):∀(f:Nat) (acc:List Tk.Tok) (pre:List UInt8),zg1 ps→acc.length+ps.length≤4000→ps.length<f →
  ∃us,Tk.lexGo f (pre++zaI ps) pre.length acc=(acc++us++[⟨5,[],0,(pre++zaI ps).length⟩],(pre++zaI ps).length,0)∧us.length=ps.length∧∀i (h:i<ps.length) (h':i<us.length),zjl ps[i].1 us[i]:=by
 induction ps with
 | nil =>
  intro f acc pre _ _ hf
  obtain⟨f,rfl⟩:∃g,f=g+1:=⟨f-1,by omega⟩
  refine⟨[],?_,rfl,fun i h=>absurd h (by simp)⟩
  rw[zbU f _ _ _ (by simp[zaI])]
  simp
 | cons p r ih =>
  intro f acc pre hS ha hf
  obtain⟨hG,hO,hA,hR⟩:=hS
  obtain⟨f,rfl⟩:∃g,f=g+1:=⟨f-1,by omega⟩
  have ht:=hG.again pre (p.2++zaI r) hA
  have hne:0<p.1.text.length:=List.length_pos_iff.2 hG.ne
  have hlt:pre.length<(pre++zaI (p::r)).length:=by simp[zaI];omega
  have hstep:=zaK f (pre++zaI (p::r)) pre.length acc {p.1 with pos:=pre.length} hlt ht (by simp at ha;omega)
  have hskip:Tk.skipTo (pre++zaI (p::r)) (pre.length+p.1.text.length)=(pre++(p.1.text++p.2)).length:=by
   unfold Tk.skipTo
   have hd:(pre++zaI (p::r)).drop (pre.length+p.1.text.length)=p.2++zaI r:=by
    rw[zaI,←List.drop_drop]
    simp
   rw[hd,hO,ze2 r hR]
   simp
   omega
  have e:pre++zaI (p::r)=(pre++(p.1.text++p.2))++zaI r:=by rw[zaI];simp
  obtain⟨us,h1,h2,h3⟩:=ih f (acc++[{p.1 with pos:=pre.length}]) (pre++(p.1.text++p.2)) hR (by simp at ha ⊢;omega) (by simp at hf;omega)
  refine⟨{p.1 with pos:=pre.length}::us,?_,by simp[h2],?_⟩
  ·
   rw[hstep]
   dsimp only
   rw[hskip]
   rw[←e] at h1
   rw[h1]
   simp
  ·
   intro i h h'
   cases i with
   | zero=>exact⟨rfl,rfl,rfl⟩
   | succ i=>exact h3 i (by simpa using h) (by simpa using h')
theorem relex (ps:List (Tk.Tok × List UInt8)) (hS:zg1 ps) (hn:ps.length≤4000) (hl:(zaI ps).length≤262144) :
  ∃us,Tk.lex (zaI ps)=(us++[⟨5,[],0,(zaI ps).length⟩],(zaI ps).length,0)∧us.length=ps.length∧∀i (h:i<ps.length) (h':i<us.length),zjl ps[i].1 us[i]:=by
 have hpl:ps.length≤(zaI ps).length:=by
  clear hn hl
  induction ps with
  | nil=>simp
  | cons p r ih =>
   have:=ih hS.2.2.2
   have hne:0<p.1.text.length:=List.length_pos_iff.2 hS.1.ne
   simp[zaI]
   omega
 have h:=relex_go ps ((zaI ps).length+1) [] [] hS (by simp;omega) (by omega)
 simp only[List.nil_append,List.length_nil] at h
 have e:Tk.lex (zaI ps)=Tk.lexGo ((zaI ps).length+1) (zaI ps) 0 []:=by
  unfold Tk.lex
  rw[if_neg (by omega)]
  have:Tk.skipTo (zaI ps) 0=0:=by
   unfold Tk.skipTo
   rw[List.drop_zero,ze2 ps hS]
  rw[this]
 rw[e]
 exact h
def zd0:List Tk.Tok→List (Tk.Tok × List UInt8)
 | []=>[]
 | [t]=>[(t,[])]
 | t::u::r=>(t,[32])::zd0 (u::r)
theorem zdk (ts:List Tk.Tok):(zd0 ts).length=ts.length:=by
 induction ts with
 | nil=>rfl
 | cons t r ih =>
  cases r with
  | nil=>rfl
  | cons u r=>simp[zd0,ih]
theorem pairs_at (ts:List Tk.Tok) (i:Nat) (h:i<ts.length) (h':i<(zd0 ts).length):((zd0 ts)[i]).1=ts[i]:=by
 induction ts generalizing i with
 | nil=>simp at h
 | cons t r ih =>
  cases r with
  | nil =>
   have:i=0:=by simpa using h
   subst this
   rfl
  | cons u r =>
   cases i with
   | zero=>rfl
   | succ i=>exact ih i (by simpa using h) (by rw[zdk] at h' ⊢;simpa using h')
theorem zfK (ts:List Tk.Tok) (h:∀t∈ts,Good t):zg1 (zd0 ts):=by
 induction ts with
 | nil=>exact trivial
 | cons t r ih =>
  cases r with
  | nil=>exact⟨h t (by simp),SepOk.nil,.inl rfl,trivial⟩
  | cons u r=>exact⟨h t (by simp),SepOk.spc 32 (by decide),.inr ⟨32,_,rfl,.inl rfl⟩,ih (fun x hx=>h x (by simp[hx]))⟩
theorem zgw (ts:List Tk.Tok):Lib.join (ts.map (·.text)) [32]=zaI (zd0 ts):=by
 induction ts with
 | nil=>rfl
 | cons t r ih =>
  cases r with
  | nil=>simp[zd0,zaI,Lib.join_one]
  | cons u r =>
   rw[List.map_cons] at ih
   rw[List.map_cons,List.map_cons,Lib.join_cons]
   rw[Lib.join_cons] at ih
   simp only[zd0,zaI]
   rw[←ih]
   simp[Lib.joinTail]
def zc9 (ts:List Tk.Tok):Nat:=(ts.map fun t=>t.text.length).sum
theorem zhs (ts:List Tk.Tok):(zaI (zd0 ts)).length≤zc9 ts+ts.length:=by
 induction ts with
 | nil=>simp[zd0,zaI]
 | cons t r ih =>
  cases r with
  | nil=>simp[zd0,zaI,zc9]
  | cons u r =>
   simp only[zd0,zaI,zc9,List.map_cons,List.sum_cons,List.length_append,List.length_cons] at ih ⊢
   simp only[List.length_nil]
   omega
theorem zj3 (l:List UInt8) (f:Nat):∀(k:Nat) (acc:List Tk.Tok),k≤l.length→zc9 acc≤k→zc9 (Tk.lexGo f l k acc).1≤l.length:=by
 induction f with
 | zero=>intro k acc _ _;simp[Tk.lexGo,zc9]
 | succ f ih =>
  intro k acc hk hs
  by_cases hlt:k<l.length
  ·
   cases ht:Tk.tokAt l k with
   | error e=>rw[zbo f l k e acc hlt ht];simp[zc9]
   | ok t =>
    by_cases hn:acc.length=4000
    ·
     rw[zaU f l k acc t hlt ht hn];simp[zc9]
    ·
     rw[zaK f l k acc t hlt ht hn]
     obtain⟨hp,hle,_⟩:=zfo l k t hlt ht
     have hsk:k+t.text.length≤Tk.skipTo l (k+t.text.length):=by unfold Tk.skipTo;omega
     refine ih _ _ (Tk.skipTo_le l _ hle) ?_
     simp[zc9] at hs ⊢
     omega
  ·
   rw[zbU f l k acc (by omega)]
   simp[zc9] at hs ⊢
   omega
theorem lex_sum (l:List UInt8):zc9 (Tk.lex l).1≤l.length:=by
 unfold Tk.lex
 split
 ·
  simp[zc9]
 ·
  exact zj3 l _ _ [] (Tk.skipTo_le l 0 (by omega)) (by simp[zc9])
theorem zho (ts:List Tk.Tok) (n:Nat) (h:∀t∈ts,t.kind≠5):zb2 (ts++[⟨5,[],0,n⟩])=ts.map (·.text):=by
 unfold zb2
 rw[List.filter_append,List.filter_eq_self.2 (fun t ht=>by simpa using h t ht)]
 simp
theorem zhp (l:List UInt8) (h0:(Tk.lex l).2.2=0) (hb:l.length≤258000) :
  (zbl (Tk.lex l).1).length≤262144∧(Tk.lex (zbl (Tk.lex l).1)).2.2=0∧SameT false (Tk.lex l).1 (Tk.lex (zbl (Tk.lex l).1)).1:=by
 obtain⟨ts,e,hg,hn,_⟩:=lex_good l h0
 have hsum:=lex_sum l
 rw[e] at hsum ⊢
 dsimp only at hsum ⊢
 have ht:zbl (ts++[⟨5,[],0,l.length⟩])=zaI (zd0 ts):=by
  unfold zbl
  rw[zho ts _ (fun t h=>(hg t h).2),zgw]
 have hs2:zc9 ts≤l.length:=by
  simp[zc9] at hsum ⊢
  omega
 have hlen:=zhs ts
 rw[ht]
 obtain⟨us,h1,h2,h3⟩:=relex (zd0 ts) (zfK ts (fun t h=>(hg t h).1)) (by rw[zdk];exact hn) (by omega)
 rw[zdk] at h2
 refine⟨by omega,by rw[h1],?_⟩
 rw[h1]
 refine⟨by simp[h2],fun i hi hi'=>?_⟩
 by_cases hit:i<ts.length
 ·
  have hs:=h3 i (by rw[zdk];exact hit) (by omega)
  rw[pairs_at ts i hit] at hs
  rw[List.getElem_append_left hit,List.getElem_append_left (by omega)]
  exact⟨hs.1,hs.2.1,hs.2.2,fun h=>by cases h⟩
 ·
  have hi2:i=ts.length:=by simp at hi;omega
  subst hi2
  rw[List.getElem_append_right (by omega),List.getElem_append_right (by omega)]
  simp[h2]
end Go.Proofs.YtlnbmmgbfgmboaaDoor

namespace Go.Proofs.YtlnbmmgbfgmboaaDoor
open Go.RowKit
abbrev K3:=Nat × List UInt8 × Nat
def k3 (t:Tk.Tok):K3:=(t.kind,t.text,t.num)
def parK (p:Bool) (l:List K3):List K3:=if p then (4,[40],0)::(l++[(4,[41],0)]) else l
structure NmOk (s:List UInt8):Prop where
 ld:∀c∈s,Tk.isLD c=true
 head:∃c r,s=c::r∧Tk.isLet c=true
 len:s.length≤16
 resv:Tk.resv s=false
 nb:zag s=true
inductive TkOf:Ex→List K3→Prop
 | num (n:Nat) (h:n≤9223372036854775807):TkOf (.mk 1 (n:Int) [] []) [(2,zas (n:Int),n)]
 | name (s:List UInt8) (h:NmOk s):TkOf (.mk 2 0 s []) [(1,s,0)]
 | un (op:Nat) (ho:op=3∨op=4) (a:Ex) (la:List K3) (ha:TkOf a la):TkOf (.mk (op:Int) 0 [] [a]) ((4,Ps.sgTab.getD op [],0)::parK (zav op a.op 0) la)
 | bin (op:Nat) (ho:5≤op∧op≤17) (a b:Ex) (la lb:List K3) (ha:TkOf a la) (hb:TkOf b lb):TkOf (.mk (op:Int) 0 [] [a,b]) (parK (zav op a.op 0) la++(4,Ps.sgTab.getD op [],0)::parK (zav op b.op 1) lb)
def zeB (c:UInt8):Bool:=Tk.isLet c||Tk.isDig c||c==40||c==45||c==33
def EndR (r:List UInt8):Prop:=r=[]∨∃c r',r=c::r'∧(c=32∨c=41)
theorem zfr {c:UInt8} (h:zeB c=true):Tk.isLD c=true∨c=40∨c=45∨c=33:=by
 unfold zeB at h
 unfold Tk.isLD
 simp only[Bool.or_eq_true,beq_iff_eq] at h ⊢
 rcases h with(((h|h)|h)|h)|h
 ·
  exact .inl (.inl h)
 ·
  exact .inl (.inr h)
 ·
  exact .inr (.inl h)
 ·
  exact .inr (.inr (.inl h))
 ·
  exact .inr (.inr (.inr h))
theorem zim {c:UInt8} (r:List UInt8) (h:zeB c=true):Tk.sepLen false (c::r)=0:=by
 have h1:Tk.isSpc c=false∧c.toNat≠47:=by
  rcases zfr h with h|rfl|rfl|rfl
  ·
   unfold Tk.isLD Tk.isLet Tk.isDig at h
   unfold Tk.isSpc
   simp at h ⊢
   omega
  ·
   decide
  ·
   decide
  ·
   decide
 rw[Tk.sepLen_f,if_neg (by simp[h1.1]),if_neg (fun h=>h1.2 h.1)]
def zds (s:List UInt8):Prop:=∃c r,s=c::r∧zeB c=true
theorem zck (n:Nat):zds (zas (n:Int))∧(∀c∈zas (n:Int),Tk.isDig c=true):=by
 have e:zas (n:Int)=zaC 20 n []:=by
  unfold zas
  rw[if_neg (by omega),Int.toNat_natCast]
 have hd:∀c∈zaC 20 n [],Tk.isDig c=true:=zgH 20 n [] (fun c h=>absurd h (by simp))
 have hne:zaC 20 n []≠[]:=by
  rw[zdB 19 n [] (.inr rfl)]
  exact zhU _ _ _ (by simp)
 rw[e]
 refine⟨?_,hd⟩
 cases hs:zaC 20 n [] with
 | nil=>exact absurd hs hne
 | cons c r =>
  refine⟨c,r,rfl,?_⟩
  have:=hd c (by rw[hs];simp)
  unfold zeB
  rw[this]
  simp
theorem zeb {op:Int} {k:Nat} {e:Ex} (h:zds (zad e)):zds (zaE op k e):=by
 unfold zaE
 split
 ·
  exact⟨40,_,rfl,by decide⟩
 ·
  exact h
theorem zi0 (op:Nat) (ho:op=3∨op=4) (a:Ex):zad (.mk (op:Int) 0 [] [a])=Ps.sgTab.getD op []++zaE op 0 a:=by
 rw[zba,zaH,zb9]
 unfold zaT
 rcases ho with rfl|rfl<;>rfl
theorem zif (op:Int) (h:5≤op∧op≤17):zeE op=some (Ps.sgTab.getD op.toNat []):=by
 have hc:op=5∨op=6∨op=7∨op=8∨op=9∨op=10∨op=11∨op=12∨op=13∨op=14∨op=15∨op=16∨op=17:=by omega
 rcases hc with rfl|rfl|rfl|rfl|rfl|rfl|rfl|rfl|rfl|rfl|rfl|rfl|rfl<;>rfl
theorem zht (op:Nat) (ho:5≤op∧op≤17):zeE (op:Int)=some (Ps.sgTab.getD op []):=by
 have h:=zif (op:Int) (by omega)
 rw[Int.toNat_natCast] at h
 exact h
theorem zhg (op:Nat) (ho:5≤op∧op≤17) (a b:Ex):zad (.mk (op:Int) 0 [] [a,b])=zaE op 0 a++(32::(Ps.sgTab.getD op []++32::zaE op 1 b)):=by
 rw[zba,zaH,zaH,zb9]
 unfold zaT
 rw[if_neg (by omega),if_neg (by omega),if_neg (by omega),if_neg (by omega),zht op ho]
 simp
theorem zi6 {E:Ex} {l:List K3} (h:TkOf E l):zds (zad E):=by
 induction h with
 | num n h =>
  have:zad (.mk 1 (n:Int) [] [])=zas (n:Int):=by rw[zba];rfl
  rw[this]
  exact(zck n).1
 | name s h =>
  have:zad (.mk 2 0 s [])=s:=by rw[zba];rfl
  rw[this]
  obtain⟨c,r,e,hc⟩:=h.head
  exact⟨c,r,e,by unfold zeB;rw[hc];rfl⟩
 | un op ho a la ha ih =>
  rw[zi0 op ho a]
  rcases ho with rfl|rfl
  ·
   exact⟨45,_,rfl,by decide⟩
  ·
   exact⟨33,_,rfl,by decide⟩
 | bin op ho a b la lb ha hb iha ihb =>
  rw[zhg op ho a b]
  obtain⟨c,r,e,hc⟩:=zeb (op:=(op:Int)) (k:=0) iha
  exact⟨c,_,by rw[e];rfl,hc⟩
theorem zgE (pre s:List UInt8):(pre++s).drop pre.length=s:=by simp
theorem zgz (pre:List UInt8) (c:UInt8) (s:List UInt8):(pre++c::s).getD pre.length 0=c:=by simp[List.getD]
theorem zhl (pre r:List UInt8) (c:UInt8) (hc:c=40∨c=45∨c=33∨c=41) (hr:zds r∨EndR r):Tk.tokAt (pre++([c]++r)) pre.length=.ok ⟨4,[c],0,pre.length⟩:=by
 have hL:Tk.isLet c=false∧Tk.isDig c=false∧Tk.signs1.contains [c]=true:=by rcases hc with rfl|rfl|rfl|rfl<;>decide
 have h2:Tk.signs2.contains ((c::r).take 2)=false:=by
  have hn:∀d:UInt8,d≠61→Tk.signs2.contains [c,d]=false:=by
   intro d hd
   rcases hc with rfl|rfl|rfl|rfl<;>simp[Tk.signs2,hd]
  cases r with
  | nil=>rcases hc with rfl|rfl|rfl|rfl<;>decide
  | cons d r' =>
   refine hn d ?_
   rintro rfl
   rcases hr with⟨c',r2,e,h⟩|h
   ·
    injection e with e _
    rw[←e] at h
    exact absurd h (by decide)
   ·
    rcases h with h|⟨c',r2,e,h⟩
    ·
     cases h
    ·
     injection e with e _
     rw[←e] at h
     exact absurd h (by decide)
 unfold Tk.tokAt
 rw[List.singleton_append,zgz,if_neg (by rw[hL.1];decide),if_neg (by rw[hL.2.1];decide)]
 unfold Tk.signAt
 rw[zgE,if_neg (by rw[h2];intro h;exact absurd h.2 (by decide)),show (c::r).take 1=[c] from rfl,if_pos hL.2.2]
theorem zi1 (pre r:List UInt8) (op:Nat) (ho:5≤op∧op≤17):Tk.tokAt (pre++(Ps.sgTab.getD op []++32::r)) pre.length=.ok ⟨4,Ps.sgTab.getD op [],0,pre.length⟩∧Tk.sepLen false (Ps.sgTab.getD op []++32::r)=0∧Ps.sgTab.getD op []≠[]:=by
 have hc:op=5∨op=6∨op=7∨op=8∨op=9∨op=10∨op=11∨op=12∨op=13∨op=14∨op=15∨op=16∨op=17:=by omega
 have one:∀c:UInt8,Tk.isLet c=false→Tk.isDig c=false→Tk.signs2.contains [c,32]=false→Tk.signs1.contains [c]=true→Tk.tokAt (pre++([c]++32::r)) pre.length=.ok ⟨4,[c],0,pre.length⟩:=by
  intro c h1 h2 h3 h4
  unfold Tk.tokAt
  rw[List.singleton_append,zgz,if_neg (by rw[h1];decide),if_neg (by rw[h2];decide)]
  unfold Tk.signAt
  rw[zgE,show (c::32::r).take 2=[c,32] from rfl,if_neg (by rw[h3];intro h;exact absurd h.2 (by decide)),show (c::32::r).take 1=[c] from rfl,if_pos h4]
 have two:∀c d:UInt8,Tk.isLet c=false→Tk.isDig c=false→Tk.signs2.contains [c,d]=true→Tk.tokAt (pre++([c,d]++32::r)) pre.length=.ok ⟨4,[c,d],0,pre.length⟩:=by
  intro c d h1 h2 h3
  unfold Tk.tokAt
  rw[show [c,d]++32::r=c::(d::32::r) from rfl,zgz,if_neg (by rw[h1];decide),if_neg (by rw[h2];decide)]
  unfold Tk.signAt
  rw[zgE,show (c::d::32::r).take 2=[c,d] from rfl,if_pos ⟨by simp,h3⟩]
 rcases hc with rfl|rfl|rfl|rfl|rfl|rfl|rfl|rfl|rfl|rfl|rfl|rfl|rfl
 ·
  exact⟨one 42 (by decide) (by decide) (by decide) (by decide),rfl,by decide⟩
 ·
  exact⟨one 47 (by decide) (by decide) (by decide) (by decide),rfl,by decide⟩
 ·
  exact⟨one 37 (by decide) (by decide) (by decide) (by decide),rfl,by decide⟩
 ·
  exact⟨one 43 (by decide) (by decide) (by decide) (by decide),rfl,by decide⟩
 ·
  exact⟨one 45 (by decide) (by decide) (by decide) (by decide),rfl,by decide⟩
 ·
  exact⟨one 60 (by decide) (by decide) (by decide) (by decide),rfl,by decide⟩
 ·
  exact⟨two 60 61 (by decide) (by decide) (by decide),rfl,by decide⟩
 ·
  exact⟨one 62 (by decide) (by decide) (by decide) (by decide),rfl,by decide⟩
 ·
  exact⟨two 62 61 (by decide) (by decide) (by decide),rfl,by decide⟩
 ·
  exact⟨two 61 61 (by decide) (by decide) (by decide),rfl,by decide⟩
 ·
  exact⟨two 33 61 (by decide) (by decide) (by decide),rfl,by decide⟩
 ·
  exact⟨two 38 38 (by decide) (by decide) (by decide),rfl,by decide⟩
 ·
  exact⟨two 124 124 (by decide) (by decide) (by decide),rfl,by decide⟩
theorem zeU {s r:List UInt8} (h:zds s):zds (s++r):=by
 obtain⟨c,s',e,hc⟩:=h
 exact⟨c,s'++r,by rw[e];rfl,hc⟩
end Go.Proofs.YtlnbmmgbfgmboaaDoor

namespace Go.Proofs.YtlnbmmgbfgmboaaDoor
open Go.RowKit
def AtK (ts:List Tk.Tok) (k:Nat) (l:List K3):Prop:=∀i (h:i<l.length),(ts[k+i]?).map k3=some l[i]
theorem AtK.left {ts:List Tk.Tok} {k:Nat} {l m:List K3} (h:AtK ts k (l++m)):AtK ts k l:=by
 intro i hi
 have h1:=h i (by simp;omega)
 rw[List.getElem_append_left hi] at h1
 exact h1
theorem AtK.right {ts:List Tk.Tok} {k:Nat} {l m:List K3} (h:AtK ts k (l++m)):AtK ts (k+l.length) m:=by
 intro i hi
 have h1:=h (l.length+i) (by simp;omega)
 rw[List.getElem_append_right (by omega)] at h1
 simp only[Nat.add_sub_cancel_left] at h1
 rw[Nat.add_assoc]
 exact h1
theorem AtK.tail {ts:List Tk.Tok} {k:Nat} {x:K3} {l:List K3} (h:AtK ts k (x::l)):AtK ts (k+1) l:=(show AtK ts k ([x]++l) from h).right
theorem AtK.head {ts:List Tk.Tok} {k a c:Nat} {b:List UInt8} {l:List K3} (h:AtK ts k ((a,b,c)::l)):Ps.kindAt ts k=a∧Ps.textAt ts k=b∧Ps.numAt ts k=c∧(a=4→Ps.sgn ts k=b):=by
 have h1:=h 0 (by simp)
 rw[Nat.add_zero,List.getElem_cons_zero] at h1
 cases ht:ts[k]? with
 | none=>rw[ht] at h1;cases h1
 | some t =>
  rw[ht] at h1
  injection h1 with h1
  unfold k3 at h1
  injection h1 with e1 e2
  injection e2 with e2 e3
  refine⟨?_,?_,?_,?_⟩
  ·
   unfold Ps.kindAt;rw[ht];exact e1
  ·
   unfold Ps.textAt;rw[ht];exact e2
  ·
   unfold Ps.numAt;rw[ht];exact e3
  ·
   intro h4
   unfold Ps.sgn
   rw[ht]
   dsimp only
   rw[if_pos (e1.trans h4)]
   exact e2
theorem ziE {ts:List Tk.Tok} {o k m lv:Nat} {E:Ex} (h:Ps.PO ts o k=.ok E m) (hl:1≤lv):Ps.PE ts lv o k=Ps.PC ts lv o E m:=by
 rw[Ps.PE_eq ts lv o k hl,h]
 rfl
theorem paren_po {ts:List Tk.Tok} {o k m:Nat} {E:Ex} {l:List K3} (hA:AtK ts k ((4,[40],0)::l)) (ho:o<24) (h:Ps.PE ts 1 (o+1) (k+1)=Ps.PC ts 1 (o+1) E m) (hm:Ps.sgn ts m=[41]):Ps.PO ts o k=.ok E (m+1):=by
 obtain⟨h1,_,_,h4⟩:=hA.head
 have hs:=h4 rfl
 rw[Ps.PO_eq,if_neg (by rw[h1];decide),if_neg (by rw[h1];decide),hs,if_neg (by intro h;exact absurd rfl h.2),if_neg (by omega),if_pos (by decide),h,Ps.PC_stop ts 1 (o+1) E m (by rw[hm];decide)]
 show (if Ps.sgn ts m=[41] then _ else _)=_
 rw[if_pos hm]
theorem bin_tab:((List.range 13).all fun k=>Ps.bop (Ps.sgTab.getD (k+5) [])==k+5&&(Ps.strD ((k+5:Nat):Int)==strV ((k+5:Nat):Int)+1&&decide (strV ((k+5:Nat):Int)≤4)))=true:=by kernel_rfl
theorem zjg (op:Nat) (ho:5≤op∧op≤17):Ps.bop (Ps.sgTab.getD op [])=op∧Ps.strD (op:Int)=strV (op:Int)+1∧strV (op:Int)≤4:=by
 have h:=List.all_eq_true.1 bin_tab (op-5) (List.mem_range.2 (by omega))
 rw[show op-5+5=op by omega] at h
 simpa using h
theorem zf6 {op aop:Int} {k:Nat} (h:zav op aop k=false):strV op≤strV aop∧(k=1→strV op<strV aop):=by
 unfold zav at h
 simp at h
 refine⟨by omega,fun hk=>?_⟩
 have:=h.2
 subst hk
 by_cases e:strV aop=strV op
 ·
  exact absurd rfl (this e)
 ·
  omega
def TkP (E:Ex) (l:List K3):Prop :=
 (∀ts k o,AtK ts k l→o+exHt E≤24→5≤strV E.op→Ps.PO ts o k=.ok E (k+l.length)) ∧
 (∀ts k o lv,AtK ts k l→o+exHt E≤24→1≤lv→lv≤strV E.op+1→Ps.strD (Ps.bop (Ps.sgn ts (k+l.length)):Int)≤strV E.op+1→Ps.PE ts lv o k=Ps.PC ts lv o E (k+l.length))
theorem ziL {E:Ex} {l:List K3} (h:TkP E l) (ts:List Tk.Tok) (k o:Nat) (hA:AtK ts k (parK true l)) (hh:o+exHt E+1≤24):Ps.PO ts o k=.ok E (k+(parK true l).length):=by
 have hA':AtK ts k ((4,[40],0)::(l++[(4,[41],0)])):=hA
 have h1:=hA'.tail.left
 have h2:=hA'.tail.right
 obtain⟨_,_,_,h4⟩:=h2.head
 have hm:=h4 rfl
 have h5:=h.2 ts (k+1) (o+1) 1 h1 (by omega) (by omega) (by omega) (by rw[hm];exact Nat.zero_le _)
 rw[paren_po hA' (by omega) h5 hm]
 congr 1
 unfold parK
 simp
 omega
theorem parK_len (q:Bool) (l:List K3):(parK q l).length=l.length+(if q then 2 else 0):=by
 unfold parK
 cases q<;>simp
theorem tk_parse {E:Ex} {l:List K3} (h:TkOf E l):TkP E l:=by
 induction h with
 | num n hn =>
  have hO:∀ts k o,AtK ts k [(2,zas (n:Int),n)]→Ps.PO ts o k=.ok (.mk 1 (n:Int) [] []) (k+1):=by
   intro ts k o hA
   obtain⟨h1,_,h3,_⟩:=hA.head
   rw[Ps.PO_eq,if_pos h1,h3]
  exact⟨fun ts k o hA _ _=>hO ts k o hA,fun ts k o lv hA _ hl _ _=>ziE (hO ts k o hA) hl⟩
 | name s hs =>
  have hO:∀ts k o,AtK ts k [(1,s,0)]→Ps.PO ts o k=.ok (.mk 2 0 s []) (k+1):=by
   intro ts k o hA
   obtain⟨h1,h2,_,_⟩:=hA.head
   rw[Ps.PO_eq,if_neg (by rw[h1];decide),if_pos h1,h2]
  exact⟨fun ts k o hA _ _=>hO ts k o hA,fun ts k o lv hA _ hl _ _=>ziE (hO ts k o hA) hl⟩
 | un op ho a la hta ih =>
  have h5:strV (op:Int)=5:=by rcases ho with rfl|rfl<;>rfl
  have hht:exHt (.mk (op:Int) 0 [] [a])=exHt a+(if zav op a.op 0 then 1 else 0)+1:=by
   rw[zcJ,zb0,zbp,if_pos h5]
   unfold zcf
   omega
  have hO:∀ts k o,AtK ts k ((4,Ps.sgTab.getD op [],0)::parK (zav op a.op 0) la)→o+exHt (.mk (op:Int) 0 [] [a])≤24→Ps.PO ts o k=.ok (.mk (op:Int) 0 [] [a]) (k+((4,Ps.sgTab.getD op [],0)::parK (zav op a.op 0) la).length):=by
   intro ts k o hA hh
   obtain⟨h1,_,_,h4⟩:=hA.head
   have hs:=h4 rfl
   have hu:Ps.uop (Ps.sgTab.getD op [])=op:=by rcases ho with rfl|rfl<;>decide
   rw[hht] at hh
   rw[Ps.PO_eq,if_neg (by rw[h1];decide),if_neg (by rw[h1];decide),hs,hu,if_neg (by intro h;have:=h.1;omega),if_neg (by omega),if_neg (by omega)]
   have hp:Ps.PO ts (o+1) (k+1)=.ok a (k+1+(parK (zav op a.op 0) la).length):=by
    have hA2:=hA.tail
    cases hq:zav (op:Int) a.op 0 with
    | true =>
     rw[hq] at hA2 hh
     exact ziL ih ts (k+1) (o+1) hA2 (by simp at hh;omega)
    | false =>
     rw[hq] at hA2 hh
     have:=(zf6 hq).1
     exact ih.1 ts (k+1) (o+1) hA2 (by simp at hh;omega) (by omega)
   rw[hp]
   show Ps.R.ok _ _=_
   congr 1
   simp
   omega
  exact⟨fun ts k o hA hh _=>hO ts k o hA hh,fun ts k o lv hA hh hl _ _=>ziE (hO ts k o hA hh) hl⟩
 | bin op ho a b la lb hta htb iha ihb =>
  obtain⟨hbop,hstr,hs4⟩:=zjg op ho
  have hht:exHt (.mk (op:Int) 0 [] [a,b])=max (exHt a+(if zav op a.op 0 then 1 else 0)) (exHt b+(if zav op b.op 1 then 1 else 0)):=by
   rw[zcJ,zb0,zb0,zbp,if_neg (by omega)]
   simp only[zcf,Nat.zero_add]
   omega
  refine⟨fun ts k o hA hh h5=>absurd (show 5≤strV (op:Int) from h5) (by omega),?_⟩
  intro ts k o lv hA hh hl1 hl2 hnx
  have hl2':lv≤strV (op:Int)+1:=hl2
  have hnx':Ps.strD (Ps.bop (Ps.sgn ts (k+(parK (zav op a.op 0) la++(4,Ps.sgTab.getD op [],0)::parK (zav op b.op 1) lb).length)):Int)≤strV (op:Int)+1:=hnx
  rw[hht] at hh
  have hAa:=hA.left
  have hAs:=hA.right
  obtain⟨_,_,_,h4⟩:=hAs.head
  have hsg:=h4 rfl
  have hAb:=hAs.tail
  have hend:k+(parK (zav op a.op 0) la++(4,Ps.sgTab.getD op [],0)::parK (zav op b.op 1) lb).length=k+(parK (zav op a.op 0) la).length+1+(parK (zav op b.op 1) lb).length:=by simp;omega
  rw[hend] at hnx' ⊢
  have hpa:Ps.PE ts lv o k=Ps.PC ts lv o a (k+(parK (zav op a.op 0) la).length):=by
   cases hq:zav (op:Int) a.op 0 with
   | true =>
    rw[hq] at hAa hh
    exact ziE (ziL iha ts k o hAa (by simp at hh;omega)) hl1
   | false =>
    rw[hq] at hAa hh hsg
    have h0:=(zf6 hq).1
    exact iha.2 ts k o lv hAa (by simp at hh;omega) hl1 (by omega) (by
     have e:parK false la=la:=rfl
     rw[e] at hsg
     rw[hsg,hbop,hstr]
     omega)
  have hpb:Ps.PE ts (strV (op:Int)+2) o (k+(parK (zav op a.op 0) la).length+1)=.ok b (k+(parK (zav op a.op 0) la).length+1+(parK (zav op b.op 1) lb).length):=by
   generalize k+(parK (zav op a.op 0) la).length+1=k2 at *
   have hstop:∀m,m=k2+(parK (zav op b.op 1) lb).length→Ps.PC ts (strV (op:Int)+2) o b m=.ok b m:=fun m hm=>Ps.PC_stop _ _ _ _ _ (by rw[hm];omega)
   cases hq:zav (op:Int) b.op 1 with
   | true =>
    rw[hq] at hAb hh hstop
    rw[ziE (ziL ihb ts k2 o hAb (by simp at hh;omega)) (by omega)]
    exact hstop _ rfl
   | false =>
    rw[hq] at hAb hh hstop hnx'
    have h0:=(zf6 hq).2 rfl
    rw[ihb.2 ts k2 o (strV (op:Int)+2) hAb (by simp at hh;omega) (by omega) (by omega) (by
     have e:parK false lb=lb:=rfl
     rw[e] at hnx'
     omega)]
    exact hstop _ rfl
  rw[hpa,Ps.PC_go ts lv o a _ hl1 (by rw[hsg,hbop,hstr];omega),hsg,hbop,hstr,hpb]
  rfl
end Go.Proofs.YtlnbmmgbfgmboaaDoor

namespace Go.Proofs.YtlnbmmgbfgmboaaDoor
def kt (t:Tk.Tok):Nat × List UInt8 × Nat:=(t.kind,t.text,t.num)
def lxt (f:Nat) (pre s:List UInt8) (acc:List Tk.Tok):List Tk.Tok × Nat × Nat:=Tk.lexGo f (pre++s) (pre.length+Tk.sepLen false s) acc
theorem zcG (f:Nat) (pre s:List UInt8) (acc:List Tk.Tok):lxt f pre (32::s) acc=lxt f (pre++[32]) s acc:=by
 unfold lxt
 have h1:Tk.sepLen false (32::s)=Tk.sepLen false s+1:=by rw[Tk.sepLen_f,if_pos (by decide)]
 rw[h1,List.append_assoc]
 simp only[List.length_append,List.length_singleton,List.singleton_append]
 congr 1
 omega
theorem zd2 (f:Nat) (pre t r:List UInt8) (acc:List Tk.Tok) (tk:Tk.Tok) (h:Tk.tokAt (pre++(t++r)) pre.length=.ok tk) (ht:tk.text=t) (hne:t≠[]) (hs:Tk.sepLen false (t++r)=0) (ha:acc.length<4000) :
  lxt (f+1) pre (t++r) acc=lxt f (pre++t) r (acc++[tk]):=by
 have hl:0<t.length:=List.length_pos_iff.2 hne
 have e0:pre.length+Tk.sepLen false (t++r)=pre.length:=by rw[hs];rfl
 unfold lxt
 rw[e0,zaK f _ _ acc tk (by simp;omega) h (by omega),ht]
 have hd:(pre++(t++r)).drop (pre.length+t.length)=r:=by
  rw[←List.append_assoc,show pre.length+t.length=(pre++t).length by simp,List.drop_left]
 unfold Tk.skipTo
 rw[hd,List.append_assoc,List.length_append]
theorem ziZ (f:Nat) (pre:List UInt8) (acc:List Tk.Tok):lxt (f+1) pre [] acc=(acc++[⟨5,[],0,pre.length⟩],pre.length,0):=by
 unfold lxt
 rw[List.append_nil]
 exact zbU f pre _ acc (by omega)
theorem zeo (pre s:List UInt8):(pre++s).drop pre.length=s:=by simp
theorem zel (pre:List UInt8) (c:UInt8) (s:List UInt8):(pre++c::s).getD pre.length 0=c:=by simp[List.getD]
def EndW (r:List UInt8):Prop:=∀c r',r=c::r'→Tk.isLD c=false
theorem zg8 (p:UInt8→Bool) (s r:List UInt8) (hs:s.all p=true) (hr:∀c r',r=c::r'→p c=false):(s++r).takeWhile p=s:=by
 induction s with
 | nil =>
  cases r with
  | nil=>rfl
  | cons c r=>rw[List.nil_append,List.takeWhile_cons,if_neg (by rw[hr c r rfl];decide)]
 | cons a s ih =>
  rw[List.all_cons,Bool.and_eq_true] at hs
  rw[List.cons_append,List.takeWhile_cons,if_pos hs.1,ih hs.2]
def zfm (s:List UInt8):Bool:=s.all Tk.isLD&&decide (s.length≤16)&&(match s with|[]=>false|c::_=>Tk.isLet c)
theorem zgd (c:UInt8) (r:List UInt8) (h:Tk.isLD c=true):Tk.sepLen false (c::r)=0:=by
 have h1:Tk.isSpc c=false∧c.toNat≠47:=by
  unfold Tk.isLD Tk.isLet Tk.isDig at h
  unfold Tk.isSpc
  simp at h ⊢
  omega
 rw[Tk.sepLen_f,if_neg (by rw[h1.1];decide),if_neg (fun h=>h1.2 h.1)]
theorem lxt_word (f:Nat) (pre s r:List UInt8) (acc:List Tk.Tok) (h:zfm s=true) (hr:EndW r) (ha:acc.length<4000) :
  lxt (f+1) pre (s++r) acc=lxt f (pre++s) r (acc++[⟨if Tk.resv s then 3 else 1,s,0,pre.length⟩]):=by
 cases s with
 | nil=>simp[zfm] at h
 | cons c s =>
  unfold zfm at h
  simp only[Bool.and_eq_true,decide_eq_true_eq] at h
  obtain⟨⟨h1,h2⟩,h3⟩:=h
  have hld:Tk.isLD c=true:=by unfold Tk.isLD;rw[h3];rfl
  refine zd2 f pre (c::s) r acc _ ?_ rfl (by simp) (zgd c _ hld) ha
  unfold Tk.tokAt
  rw[show pre++(c::s++r)=pre++c::(s++r) from rfl,zel,if_pos h3]
  unfold Tk.nameAt
  rw[zeo,show c::(s++r)=(c::s)++r from rfl,zg8 Tk.isLD (c::s) r h1 hr]
  dsimp only
  rw[if_neg (by omega)]
theorem lxt_num (f:Nat) (pre r:List UInt8) (c:UInt8) (acc:List Tk.Tok) (h:Tk.isDig c=true) (hl:Tk.isLet c=false) (hr:EndW r) (ha:acc.length<4000) :
  lxt (f+1) pre (c::r) acc=lxt f (pre++[c]) r (acc++[⟨2,[c],c.toNat-48,pre.length⟩]):=by
 refine zd2 f pre [c] r acc _ ?_ rfl (by simp) (zgd c _ (by unfold Tk.isLD;rw[h];simp)) ha
 unfold Tk.tokAt
 rw[show pre++([c]++r)=pre++c::r from rfl,zel,if_neg (by rw[hl];decide),if_pos h]
 unfold Tk.numAt
 rw[zeo,show c::r=[c]++r from rfl,zg8 Tk.isDig [c] r (by simp[h]) (fun c r' e=>by have:=hr c r' e;unfold Tk.isLD at this;simp at this;exact this.2)]
 have hc:c.toNat≤57∧48≤c.toNat:=by unfold Tk.isDig at h;simp at h;omega
 have hv:Tk.numVal 0 [c]=some (c.toNat-48):=by
  rw[Tk.numVal,if_neg (by omega),Tk.numVal]
  simp
 dsimp only
 rw[hv]
def sgB (c:UInt8):Bool:=c==59||c==40||c==41||c==123||c==125||c==91||c==93||c==44
theorem zil {c:UInt8} (h:sgB c=true):c=59∨c=40∨c=41∨c=123∨c=125∨c=91∨c=93∨c=44:=by
 unfold sgB at h
 simpa[or_assoc] using h
theorem lxt_sg (f:Nat) (pre r:List UInt8) (c:UInt8) (acc:List Tk.Tok) (h:sgB c=true) (ha:acc.length<4000) :
  lxt (f+1) pre (c::r) acc=lxt f (pre++[c]) r (acc++[⟨4,[c],0,pre.length⟩]):=by
 have hc:=zil h
 have hL:Tk.isLet c=false∧Tk.isDig c=false∧Tk.signs1.contains [c]=true∧Tk.isSpc c=false∧c.toNat≠47:=by
  rcases hc with rfl|rfl|rfl|rfl|rfl|rfl|rfl|rfl<;>decide
 have h2:Tk.signs2.contains ((c::r).take 2)=false:=by
  cases r with
  | nil=>rcases hc with rfl|rfl|rfl|rfl|rfl|rfl|rfl|rfl<;>decide
  | cons d r'=>rcases hc with rfl|rfl|rfl|rfl|rfl|rfl|rfl|rfl<;>simp[Tk.signs2]
 refine zd2 f pre [c] r acc _ ?_ rfl (by simp) ?_ ha
 ·
  unfold Tk.tokAt
  rw[show pre++([c]++r)=pre++c::r from rfl,zel,if_neg (by rw[hL.1];decide),if_neg (by rw[hL.2.1];decide)]
  unfold Tk.signAt
  rw[zeo,if_neg (by rw[h2];intro h;exact absurd h.2 (by decide)),show (c::r).take 1=[c] from rfl,if_pos hL.2.2.1]
 ·
  rw[show [c]++r=c::r from rfl,Tk.sepLen_f,if_neg (by rw[hL.2.2.2.1];decide),if_neg (fun h=>hL.2.2.2.2 h.1)]
def LxA (s:List UInt8) (T:List (Nat × List UInt8 × Nat)):Prop :=
 ∀f pre r acc,acc.length+T.length≤4000→∃A:List Tk.Tok,A.map kt=T∧lxt (f+T.length) pre (s++r) acc=lxt f (pre++s) r (acc++A)
def LxN (s:List UInt8) (T:List (Nat × List UInt8 × Nat)):Prop :=
 ∀f pre r acc,acc.length+T.length≤4000→EndW r→∃A:List Tk.Tok,A.map kt=T∧lxt (f+T.length) pre (s++r) acc=lxt f (pre++s) r (acc++A)
theorem LxA.nil:LxA [] []:=fun f pre r acc _=>⟨[],rfl,by simp⟩
theorem LxA.sp:LxA [32] []:=fun f pre r acc _=>⟨[],rfl,by simpa using zcG f pre r acc⟩
theorem LxA.sg (c:UInt8) (h:sgB c=true):LxA [c] [(4,[c],0)]:=fun f pre r acc ha=>⟨[⟨4,[c],0,pre.length⟩],rfl,lxt_sg f pre r c acc h (by simp at ha;omega)⟩
theorem LxN.word (s:List UInt8) (h:zfm s=true):LxN s [(if Tk.resv s then 3 else 1,s,0)]:=fun f pre r acc ha hr=>⟨[⟨if Tk.resv s then 3 else 1,s,0,pre.length⟩],rfl,lxt_word f pre s r acc h hr (by simp at ha;omega)⟩
theorem LxN.num (c:UInt8) (h:Tk.isDig c=true) (hl:Tk.isLet c=false):LxN [c] [(2,[c],c.toNat-48)]:=fun f pre r acc ha hr=>⟨[⟨2,[c],c.toNat-48,pre.length⟩],rfl,lxt_num f pre r c acc h hl hr (by simp at ha;omega)⟩
theorem LxA.app {s s':List UInt8} {T T':List (Nat × List UInt8 × Nat)} (h:LxA s T) (h':LxA s' T'):LxA (s++s') (T++T'):=by
 intro f pre r acc ha
 rw[List.length_append] at ha
 obtain⟨A,e1,e2⟩:=h (f+T'.length) pre (s'++r) acc (by omega)
 have hA:A.length=T.length:=by rw[←e1,List.length_map]
 obtain⟨B,e3,e4⟩:=h' f (pre++s) r (acc++A) (by rw[List.length_append];omega)
 refine⟨A++B,by rw[List.map_append,e1,e3],?_⟩
 rw[List.append_assoc,List.length_append,show f+(T.length+T'.length)=f+T'.length+T.length by omega,e2,e4,List.append_assoc,List.append_assoc]
theorem LxA.appN {s s':List UInt8} {T T':List (Nat × List UInt8 × Nat)} (h:LxA s T) (h':LxN s' T'):LxN (s++s') (T++T'):=by
 intro f pre r acc ha hr
 rw[List.length_append] at ha
 obtain⟨A,e1,e2⟩:=h (f+T'.length) pre (s'++r) acc (by omega)
 have hA:A.length=T.length:=by rw[←e1,List.length_map]
 obtain⟨B,e3,e4⟩:=h' f (pre++s) r (acc++A) (by rw[List.length_append];omega) hr
 refine⟨A++B,by rw[List.map_append,e1,e3],?_⟩
 rw[List.append_assoc,List.length_append,show f+(T.length+T'.length)=f+T'.length+T.length by omega,e2,e4,List.append_assoc,List.append_assoc]
theorem LxN.app {s s':List UInt8} {T T':List (Nat × List UInt8 × Nat)} {c:UInt8} (h:LxN s T) (hc:Tk.isLD c=false) (h':LxA (c::s') T'):LxA (s++c::s') (T++T'):=by
 intro f pre r acc ha
 rw[List.length_append] at ha
 obtain⟨A,e1,e2⟩:=h (f+T'.length) pre (c::s'++r) acc (by omega) (fun d r' e=>by injection e with e _;rw[←e];exact hc)
 have hA:A.length=T.length:=by rw[←e1,List.length_map]
 obtain⟨B,e3,e4⟩:=h' f (pre++s) r (acc++A) (by rw[List.length_append];omega)
 refine⟨A++B,by rw[List.map_append,e1,e3],?_⟩
 rw[List.append_assoc,List.length_append,show f+(T.length+T'.length)=f+T'.length+T.length by omega,e2,e4,List.append_assoc,List.append_assoc]
theorem LxN.appN {s s':List UInt8} {T T':List (Nat × List UInt8 × Nat)} {c:UInt8} (h:LxN s T) (hc:Tk.isLD c=false) (h':LxN (c::s') T'):LxN (s++c::s') (T++T'):=by
 intro f pre r acc ha hr
 rw[List.length_append] at ha
 obtain⟨A,e1,e2⟩:=h (f+T'.length) pre (c::s'++r) acc (by omega) (fun d r' e=>by injection e with e _;rw[←e];exact hc)
 have hA:A.length=T.length:=by rw[←e1,List.length_map]
 obtain⟨B,e3,e4⟩:=h' f (pre++s) r (acc++A) (by rw[List.length_append];omega) hr
 refine⟨A++B,by rw[List.map_append,e1,e3],?_⟩
 rw[List.append_assoc,List.length_append,show f+(T.length+T'.length)=f+T'.length+T.length by omega,e2,e4,List.append_assoc,List.append_assoc]
theorem LxA.lex {s:List UInt8} {T:List (Nat × List UInt8 × Nat)} (h:LxA s T) (h1:T.length≤4000) (h2:T.length≤s.length) (h3:s.length≤262144):∃A:List Tk.Tok,A.map kt=T∧Tk.lex s=(A++[⟨5,[],0,s.length⟩],s.length,0):=by
 obtain⟨A,e1,e2⟩:=h (s.length-T.length+1) [] [] [] (by simpa using h1)
 refine⟨A,e1,?_⟩
 have e3:Tk.lex s=lxt (s.length+1) [] s []:=by
  unfold Tk.lex lxt Tk.skipTo
  rw[if_neg (by omega)]
  rfl
 rw[e3]
 rw[List.append_nil,show s.length-T.length+1+T.length=s.length+1 by omega] at e2
 rw[e2,List.nil_append,List.nil_append]
 exact ziZ _ _ _
end Go.Proofs.YtlnbmmgbfgmboaaDoor

namespace Go.Proofs.YtlnbmmgbfgmboaaDoor
theorem nm_of {s:List UInt8} (h:zag s=true):NmOk s:=by
 have h0:=h
 simp only[zag,Bool.and_eq_true,decide_eq_true_eq,Bool.not_eq_true'] at h
 obtain⟨hc,⟨h1,h2⟩,h3⟩:=h
 refine⟨fun c hm=>?_,?_,h2,h3,h0⟩
 ·
  obtain⟨i,hi,rfl⟩:=List.mem_iff_getElem.1 hm
  have:=hc i hi
  unfold zcW at this
  unfold Tk.isLD
  simp only[Bool.or_eq_true,Bool.and_eq_true] at this ⊢
  rcases this with h|h
  ·
   exact .inl h
  ·
   exact .inr h.2
 ·
  cases s with
  | nil=>simp at h1
  | cons c r =>
   refine⟨c,r,rfl,?_⟩
   have:=hc 0 (by simp)
   simpa[zcW] using this
theorem NmOk.word {s:List UInt8} (h:NmOk s):zfm s=true:=by
 obtain⟨c,r,rfl,hc⟩:=h.head
 unfold zfm
 simp only[Bool.and_eq_true,decide_eq_true_eq]
 exact⟨⟨List.all_eq_true.2 h.ld,h.len⟩,hc⟩
theorem LxN.nm {s:List UInt8} (h:zag s=true):LxN s [(1,s,0)]:=by
 have:=LxN.word s (nm_of h).word
 rw[(nm_of h).resv] at this
 exact this
theorem LxA.toN {s:List UInt8} {T:List K3} (h:LxA s T):LxN s T:=fun f pre r acc ha _=>h f pre r acc ha
theorem LxN.nu (n:Nat) (hn:n≤9223372036854775807):LxN (zas (n:Int)) [(2,zas (n:Int),n)]:=by
 intro f pre r acc ha hr
 obtain⟨⟨c,s,e,_⟩,hd⟩:=zck n
 have hc:=hd c (by rw[e];simp)
 obtain⟨_,_,hL⟩:=dig_nums c hc
 have htw:=zg8 Tk.isDig (zas (n:Int)) r (List.all_eq_true.2 hd) (fun c r' e=>by have:=hr c r' e;unfold Tk.isLD at this;simp at this;exact this.2)
 have hv:Tk.numVal 0 (zas (n:Int))=some n:=by
  have e1:zas (n:Int)=zaC 20 n []:=by
   unfold zas
   rw[if_neg (by omega),Int.toNat_natCast]
  have h1:zcK 0 (zas (n:Int))=n:=by
   rw[e1,zgF 20 n [] (Nat.lt_of_le_of_lt hn (by decide)) (.inr (by omega)),zdA]
  rw[zfP _ hd 0 (by rw[h1];exact hn),h1]
 refine⟨[⟨2,zas (n:Int),n,pre.length⟩],rfl,zd2 f pre _ r acc _ ?_ rfl (by rw[e];simp) ?_ (by simp at ha;omega)⟩
 ·
  unfold Tk.tokAt
  have hg:(pre++(zas (n:Int)++r)).getD pre.length 0=c:=by rw[e];exact zel pre c _
  rw[hg,if_neg (by simp[hL]),if_pos hc]
  unfold Tk.numAt
  rw[zeo,htw]
  dsimp only
  rw[hv]
 ·
  rw[e]
  exact zgd c _ (by unfold Tk.isLD;rw[hc];simp)
theorem lxn_par {s:List UInt8} {l:List K3} (h:LxN s l):LxN (40::(s++[41])) ((4,[40],0)::(l++[(4,[41],0)])) :=
 ((LxA.sg 40 (by decide)).app (h.app (c:=41) (s':=[]) (by decide) (LxA.sg 41 (by decide)))).toN
theorem zdT {op:Int} {k:Nat} {e:Ex} {l:List K3} (h:LxN (zad e) l):LxN (zaE op k e) (parK (zav op e.op k) l):=by
 unfold zaE parK
 split
 ·
  exact lxn_par h
 ·
  exact h
theorem zj0 {c:UInt8} {s:List UInt8} {l:List K3} (hc:c=45∨c=33) (hS:zds s) (h:LxN s l):LxN (c::s) ((4,[c],0)::l):=by
 intro f pre r acc ha hr
 simp only[List.length_cons] at ha
 obtain⟨A,e1,e2⟩:=h f (pre++[c]) r (acc++[⟨4,[c],0,pre.length⟩]) (by simp;omega) hr
 refine⟨⟨4,[c],0,pre.length⟩::A,by rw[List.map_cons,e1];rfl,?_⟩
 have h0:=zd2 (f+l.length) pre [c] (s++r) acc ⟨4,[c],0,pre.length⟩ (zhl pre _ c (by rcases hc with rfl|rfl;exact .inr (.inl rfl);exact .inr (.inr (.inl rfl))) (.inl (zeU hS))) rfl (by simp) (by rcases hc with rfl|rfl<;>exact zim _ (by decide)) (by omega)
 rw[show c::s++r=[c]++(s++r) from rfl,show f+((4,[c],0)::l:List K3).length=f+l.length+1 by simp;omega,h0,e2]
 simp
theorem lxa_op (op:Nat) (ho:5≤op∧op≤17):LxA (32::(Ps.sgTab.getD op []++[32])) [(4,Ps.sgTab.getD op [],0)]:=by
 intro f pre r acc ha
 obtain⟨hk,hsep,hne⟩:=zi1 (pre++[32]) r op ho
 refine⟨[⟨4,Ps.sgTab.getD op [],0,(pre++[32]).length⟩],rfl,?_⟩
 have h2:=zd2 f (pre++[32]) (Ps.sgTab.getD op []) (32::r) acc _ hk rfl hne hsep (by simp at ha;omega)
 rw[show 32::(Ps.sgTab.getD op []++[32])++r=32::(Ps.sgTab.getD op []++32::r) by simp,zcG,show f+([(4,Ps.sgTab.getD op [],0)]:List K3).length=f+1 from rfl,h2,zcG]
 simp
theorem zen {E:Ex} {l:List K3} (h:TkOf E l):LxN (zad E) l:=by
 induction h with
 | num n hn =>
  rw[show zad (.mk 1 (n:Int) [] [])=zas (n:Int) by rw[zba];rfl]
  exact LxN.nu n hn
 | name s h =>
  rw[show zad (.mk 2 0 s [])=s by rw[zba];rfl]
  exact LxN.nm h.nb
 | un op ho a la hta ih =>
  rw[zi0 op ho a]
  have hpS:zds (zaE op 0 a):=zeb (zi6 hta)
  rcases ho with rfl|rfl
  ·
   exact zj0 (c:=45) (.inl rfl) hpS (zdT ih)
  ·
   exact zj0 (c:=33) (.inr rfl) hpS (zdT ih)
 | bin op ho a b la lb hta htb iha ihb =>
  rw[zhg op ho a b]
  have h1:=(zdT (op:=(op:Int)) (k:=0) iha).app (c:=32) (s':=Ps.sgTab.getD op []++[32]) (by decide) (lxa_op op ho)
  have h2:=h1.appN (zdT (op:=(op:Int)) (k:=1) ihb)
  have e1:zaE op 0 a++32::(Ps.sgTab.getD op []++[32])++zaE op 1 b=zaE op 0 a++(32::(Ps.sgTab.getD op []++32::zaE op 1 b)):=by simp
  have e2:parK (zav op a.op 0) la++[(4,Ps.sgTab.getD op [],0)]++parK (zav op b.op 1) lb=parK (zav op a.op 0) la++(4,Ps.sgTab.getD op [],0)::parK (zav op b.op 1) lb:=by simp
  rw[e1,e2] at h2
  exact h2
theorem zgm (q:Bool) (l:List K3):(parK q l).length≤l.length+2:=by
 rw[parK_len]
 split<;>omega
theorem tk_ne {E:Ex} {l:List K3} (h:TkOf E l):1≤l.length:=by
 cases h<;>simp<;>omega
theorem exG_tk (names:List (List UInt8)) (hN:∀n∈names,zag n=true) (xs:List Int) (d:Nat):∀i,∃l,TkOf (exprG names xs d i).1 l∧l.length+5≤6*2 ^ d:=by
 have leaf:∀i,∃l,TkOf (exprG.leafG names xs i).1 l∧l.length=1:=by
  intro i
  unfold exprG.leafG
  split
  ·
   rename_i h
   refine⟨_,TkOf.name _ (nm_of (hN _ ?_)),rfl⟩
   have:=zau xs (zaa xs i) names.length h.1
   rw[List.getD_eq_getElem?_getD,List.getElem?_eq_getElem this]
   exact List.getElem_mem this
  ·
   exact⟨_,TkOf.num _ (Nat.le_trans (ziW _ _) (by omega)),rfl⟩
 induction d with
 | zero =>
  intro i
  have e:exprG names xs 0 i=exprG.leafG names xs (zaa xs i):=by rw[exprG]
  rw[e]
  obtain⟨l,h1,h2⟩:=leaf (zaa xs i)
  exact⟨l,h1,by omega⟩
 | succ d ih =>
  intro i
  have hp:=zbG d
  have hq:2 ^ (d+1)=2*2 ^ d:=by rw[Nat.pow_succ];omega
  by_cases h2:zab xs i 10<2
  ·
   rw[zdy names xs d i h2]
   obtain⟨l,h1,h3⟩:=leaf (zaa xs i)
   exact⟨l,h1,by omega⟩
  ·
   by_cases h4:zab xs i 10<4
   ·
    rw[zfa names xs d i h2 h4]
    obtain⟨l,h5,h6⟩:=ih (zaa xs i)
    have ho:3+zab xs i 10 % 2=3∨3+zab xs i 10 % 2=4:=by omega
    refine⟨_,TkOf.un (3+zab xs i 10 % 2) ho _ l h5,?_⟩
    have:=zgm (zav ((3+zab xs i 10 % 2:Nat):Int) (exprG names xs d (zaa xs i)).1.op 0) l
    rw[List.length_cons]
    omega
   ·
    rw[zem names xs d i h2 h4]
    have hv:=zau xs (zaa xs i) 13 (by omega)
    obtain⟨la,a1,a2⟩:=ih (zaa xs (zaa xs i))
    obtain⟨lb,b1,b2⟩:=ih (exprG names xs d (zaa xs (zaa xs i))).2
    have ho:5≤5+zab xs (zaa xs i) 13∧5+zab xs (zaa xs i) 13≤17:=by omega
    refine⟨_,TkOf.bin (5+zab xs (zaa xs i) 13) ho _ _ la lb a1 b1,?_⟩
    have h1:=zgm (zav ((5+zab xs (zaa xs i) 13:Nat):Int) (exprG names xs d (zaa xs (zaa xs i))).1.op 0) la
    have h2:=zgm (zav ((5+zab xs (zaa xs i) 13:Nat):Int) (exprG names xs d (exprG names xs d (zaa xs (zaa xs i))).2).1.op 1) lb
    rw[List.length_append,List.length_cons]
    omega
theorem LxA.to {s s':List UInt8} {T T':List K3} (h:LxA s T) (hs:s=s') (hT:T=T'):LxA s' T':=hs▸hT▸h
theorem LxN.to {s s':List UInt8} {T T':List K3} (h:LxN s T) (hs:s=s') (hT:T=T'):LxN s' T':=hs▸hT▸h
theorem AtK.mid {ts:List Tk.Tok} {k:Nat} {l m n:List K3} (h:AtK ts k (l++(m++n))):AtK ts k (l++m):=by
 rw[←List.append_assoc] at h
 exact h.left
end Go.Proofs.YtlnbmmgbfgmboaaDoor

namespace Go.Proofs.YtlnbmmgbfgmboaaDoor
namespace Rt
abbrev kw (s:List UInt8):K3:=(3,s,0)
abbrev sg (c:UInt8):K3:=(4,[c],0)
abbrev nm (s:List UInt8):K3:=(1,s,0)
section
variable {ts:List Tk.Tok} {k a c:Nat} {b s:List UInt8} {T:List K3}
theorem isY (h:AtK ts k ((a,b,c)::T)) (ha:a=Pa.kd b):Pa.isS ts (.at_ k) b=true:=by
 obtain⟨h1,h2,-,-⟩:=h.head
 simp[Pa.isS,h1,h2,ha]
theorem isN (h:AtK ts k ((a,b,c)::T)) (hne:b≠s):Pa.isS ts (.at_ k) s=false:=by
 obtain⟨-,h2,-,-⟩:=h.head
 simp[Pa.isS,h2,hne]
theorem isNk (h:AtK ts k ((a,b,c)::T)) (hne:a≠Pa.kd s):Pa.isS ts (.at_ k) s=false:=by
 obtain⟨h1,-,-,-⟩:=h.head
 simp[Pa.isS,h1,hne]
theorem kdY (h:AtK ts k ((a,b,c)::T)):Pa.kdS ts (.at_ k) a=true:=by
 obtain⟨h1,-,-,-⟩:=h.head
 simp[Pa.kdS,h1]
theorem kdN {K:Nat} (h:AtK ts k ((a,b,c)::T)) (hne:a≠K):Pa.kdS ts (.at_ k) K=false:=by
 obtain⟨h1,-,-,-⟩:=h.head
 simp[Pa.kdS,h1,hne]
theorem xpY (h:AtK ts k ((a,b,c)::T)) (ha:a=Pa.kd b):Pa.xp ts (.at_ k) b=.at_ (k+1):=if_pos (isY h ha)
theorem acY (h:AtK ts k ((a,b,c)::T)) (ha:a=Pa.kd b):Pa.ac ts (.at_ k) b=.at_ (k+1):=if_pos (isY h ha)
theorem acN {σ:Pa.Sg} (h:Pa.isS ts σ s=false):Pa.ac ts σ s=σ:=if_neg (by rw[h];decide)
theorem tkY (h:AtK ts k ((a,b,c)::T)):Pa.tk ts (.at_ k) a=.at_ (k+1):=if_pos (kdY h)
theorem lmN {σ:Pa.Sg} {i m:Nat} (h:i<m):Pa.lm σ i m=σ:=if_neg (by omega)
theorem nmY (h:AtK ts k ((1,b,c)::T)):Pa.nmV ts (.at_ k)=b:=by
 have:=(h.head).2.1
 unfold Pa.nmV
 rw[if_pos (kdY h)]
 exact this
theorem nuY (h:AtK ts k ((2,b,c)::T)):Pa.nuV ts (.at_ k)=c:=by
 have:=(h.head).2.2.1
 unfold Pa.nuV
 rw[if_pos (kdY h)]
 exact this
theorem lenK (h:AtK ts k (T++[(a,b,c)])):k+T.length<ts.length:=by
 have h1:=h T.length (by simp)
 cases ht:ts[k+T.length]? with
 | none=>rw[ht] at h1;cases h1
 | some t=>exact(List.getElem?_eq_some_iff.1 ht).1
end
def after (s:List UInt8):Prop:=s=[41]∨s=[44]∨s=[59]∨s=[93]∨s=[123]
theorem exY {ts:List Tk.Tok} {k n:Nat} {E:Ex} {l X:List K3} {s:List UInt8} (h:TkOf E l) (hh:exHt E≤24) (hA:AtK ts k (l++(4,s,n)::X)) (hs:after s) :
  Pa.exX ts (.at_ k)=E∧Pa.exS ts (.at_ k)=.at_ (k+l.length):=by
 have h4:=(hA.right.head).2.2.2 rfl
 have hb:Ps.strD (Ps.bop (Ps.sgn ts (k+l.length)):Int)=0:=by
  rw[h4]
  rcases hs with rfl|rfl|rfl|rfl|rfl<;>decide
 have e:Ps.PE ts 1 0 k=.ok E (k+l.length):=by
  rw[(tk_parse h).2 ts k 0 1 hA.left (by omega) (Nat.le_refl _) (by omega) (by rw[hb];exact Nat.zero_le _)]
  exact Ps.PC_stop ts 1 0 E _ (by rw[hb];decide)
 unfold Pa.exX Pa.exS
 dsimp only
 rw[e]
 exact⟨rfl,rfl⟩
theorem zgM {E:Ex} {l:List K3} (h:TkOf E l):∃a b c r,l=(a,b,c)::r∧a≠3∧a≠5∧(a≠4∨b≠[41]):=by
 induction h with
 | num n h=>exact⟨_,_,_,_,rfl,by decide,by decide,.inl (by decide)⟩
 | name s h=>exact⟨_,_,_,_,rfl,by decide,by decide,.inl (by decide)⟩
 | un op ho a la ha ih=>exact⟨_,_,_,_,rfl,by decide,by decide,.inr (by rcases ho with rfl|rfl<;>decide)⟩
 | bin op ho a b la lb ha hb iha ihb =>
  unfold parK
  split
  ·
   exact⟨_,_,_,_,rfl,by decide,by decide,.inr (by decide)⟩
  ·
   obtain⟨x,y,z,r,rfl,h3⟩:=iha
   exact⟨x,y,z,_,rfl,h3⟩
theorem ws (c:UInt8) (hc:Tk.isSpc c=true):LxA [c] []:=by
 intro f pre r acc _
 refine⟨[],rfl,?_⟩
 unfold lxt
 have h1:Tk.sepLen false ([c]++r)=Tk.sepLen false r+1:=by rw[List.singleton_append,Tk.sepLen_f,if_pos hc]
 rw[h1]
 simp only[List.append_nil,List.length_nil,Nat.add_zero,List.append_assoc,List.length_append,List.length_singleton]
 congr 1
 omega
theorem zi9 (l:List UInt8) (h:∀c∈l,c=9):LxA l []:=by
 induction l with
 | nil=>exact LxA.nil
 | cons c r ih =>
  have hc:=h c (by simp)
  subst hc
  exact(ws 9 (by decide)).app (ih fun c hc=>h c (by simp[hc]))
theorem resN (s:List UInt8) (h:zfm s=true) (hr:Tk.resv s=true):LxN s [kw s]:=by
 have:=LxN.word s h
 rw[hr] at this
 exact this
theorem eqA:LxA [32,61,32] [sg 61]:=by
 intro f pre r acc ha
 refine⟨[⟨4,[61],0,(pre++[32]).length⟩],rfl,?_⟩
 have hk:Tk.tokAt (pre++[32]++([61]++32::r)) (pre++[32]).length=.ok ⟨4,[61],0,(pre++[32]).length⟩:=by
  unfold Tk.tokAt
  rw[List.singleton_append,zel,if_neg (by decide),if_neg (by decide)]
  unfold Tk.signAt
  rw[zeo,show (61::32::r).take 2=[61,32] from rfl,if_neg (by intro h;exact absurd h.2 (by decide)),show (61::32::r).take 1=[61] from rfl,if_pos (by decide)]
 have h2:=zd2 f (pre++[32]) [61] (32::r) acc _ hk rfl (by decide) (by rw[List.singleton_append,Tk.sepLen_f];rfl) (by simp at ha;omega)
 rw[show [32,61,32]++r=32::([61]++32::r) by simp,zcG,show f+([sg 61]:List K3).length=f+1 from rfl,h2,zcG]
 simp
theorem zcS (s:List UInt8) (h:zfm s=true) (hr:Tk.resv s=true):LxA (s++[32]) [kw s]:=((resN s h hr).app (c:=32) (s':=[]) (by decide) (ws 32 (by decide))).to rfl (by simp)
def zdn {α:Type} (F:α→List UInt8):List α→List UInt8
 | []=>[]
 | [a]=>F a
 | a::b::l=>F a++([44,32]++zdn F (b::l))
theorem zeL {α:Type} (F:α→List UInt8) (l:List α) (a:α):zdn F (l++[a])=zdn F l++((if 0<l.length then [44,32] else [])++F a):=by
 induction l with
 | nil=>simp[zdn]
 | cons x r ih =>
  cases r with
  | nil=>simp[zdn]
  | cons y r =>
   have ih':zdn F (y::(r++[a]))=zdn F (y::r)++([44,32]++F a):=by simpa using ih
   show F x++([44,32]++zdn F (y::(r++[a])))=_
   rw[ih']
   simp[zdn]
theorem zes (l:List Ar) (k:Nat) (h:k≤l.length):zch l k=40::zdn zdr (l.take k):=by
 induction k with
 | zero=>rfl
 | succ k ih =>
  rw[zeq l k (by omega),ih (by omega),←List.take_append_getElem (show k<l.length by omega),zeL]
  simp only[List.length_take,Nat.min_eq_left (show k≤l.length by omega)]
  simp
theorem ziF (l:List Pm) (k:Nat) (h:k≤l.length):zce l k=zdn zcD (l.take k):=by
 induction k with
 | zero=>rfl
 | succ k ih =>
  rw[zcZ l k (by omega),ih (by omega),←List.take_append_getElem (show k<l.length by omega),zeL]
  simp only[List.length_take,Nat.min_eq_left (show k≤l.length by omega)]
inductive JoK {α:Type} (R:α→List K3→Prop):List α→List K3→Prop
 | nil:JoK R [] []
 | one (a:α) (T:List K3) (h:R a T):JoK R [a] T
 | cons (a b:α) (l:List α) (T L:List K3) (h:R a T) (hl:JoK R (b::l) L):JoK R (a::b::l) (T++sg 44::L)
theorem JoK.lx {α:Type} {R:α→List K3→Prop} {F:α→List UInt8} (hR:∀a T,R a T→LxN (F a) T) {l:List α} {T:List K3} (h:JoK R l T):LxN (zdn F l) T:=by
 induction h with
 | nil=>exact LxA.nil.toN
 | one a T h=>exact hR a T h
 | cons a b l T L h hl ih =>
  exact LxN.to ((hR a T h).appN (c:=44) (s':=32::zdn F (b::l)) (by decide) ((LxA.sg 44 (by decide)).appN (LxA.sp.appN ih))) rfl (by simp)
inductive RfK:Rf→List K3→Prop
 | none (n:List UInt8) (h:zag n=true):RfK ⟨n,none⟩ [nm n]
 | some (n:List UInt8) (h:zag n=true) (E:Ex) (l:List K3) (hE:TkOf E l) (hh:exHt E≤24):RfK ⟨n,some E⟩ (nm n::sg 91::(l++[sg 93]))
theorem RfK.lx {r:Rf} {T:List K3} (h:RfK r T):LxN (zbm r) T:=by
 cases h with
 | none n h=>exact LxN.nm h
 | some n h E l hE hh =>
  have h1:=(LxN.nm h).appN (c:=91) (s':=zad E) (by decide) ((LxA.sg 91 (by decide)).appN (zen hE))
  exact LxN.to (h1.app (c:=93) (s':=[]) (by decide) (LxA.sg 93 (by decide))).toN (by simp[zbm]) (by simp)
theorem RfK.parse {r:Rf} {T:List K3} (h:RfK r T) {ts:List Tk.Tok} {k n:Nat} {s:List UInt8} {X:List K3} (hA:AtK ts k (T++(4,s,n)::X)) (hs:s≠[91]):Pa.sRef ts (.at_ k)=(r,.at_ (k+T.length)):=by
 cases h with
 | none m h =>
  unfold Pa.sRef
  rw[tkY hA,nmY hA,if_neg (by rw[isN hA.tail hs];decide)]
  rfl
 | some m h E l hE hh =>
  have h2:AtK ts (k+1+1) (l++(4,[93],0)::(4,s,n)::X):=by
   have:=hA.tail.tail
   simpa using this
  obtain⟨e1,e2⟩:=exY hE hh h2 (.inr (.inr (.inr (.inl rfl))))
  unfold Pa.sRef
  rw[tkY hA,nmY hA,if_pos (isY hA.tail (by decide))]
  show ((⟨m,Option.some (Pa.exX ts (.at_ (k+1+1)))⟩:Rf),Pa.xp ts (Pa.exS ts (.at_ (k+1+1))) [93])=_
  rw[e1,e2,xpY h2.right (by decide)]
  congr 2
  simp
  omega
theorem RfK.pos {r:Rf} {T:List K3} (h:RfK r T):1≤T.length:=by cases h<;>simp
inductive ArK:Ar→List K3→Prop
 | m (r:Rf) (T:List K3) (h:RfK r T):ArK ⟨true,r,noEx⟩ (kw [109,117,116,101,120]::T)
 | e (E:Ex) (l:List K3) (hE:TkOf E l) (hh:exHt E≤24):ArK ⟨false,noRf,E⟩ l
theorem ArK.lx (a:Ar) (T:List K3) (h:ArK a T):LxN (zdr a) T:=by
 cases h with
 | m r T h=>exact LxN.to ((zcS [109,117,116,101,120] (by decide) (by decide)).appN h.lx) (by simp[zdr]) rfl
 | e E l hE hh=>exact zen hE
theorem ArK.pos {a:Ar} {T:List K3} (h:ArK a T):1≤T.length:=by
 cases h with
 | m r T h=>simp
 | e E l hE hh=>exact tk_ne hE
theorem ArK.parse {a:Ar} {T:List K3} (h:ArK a T) {ts:List Tk.Tok} {k n:Nat} {s:List UInt8} {X:List K3} (hA:AtK ts k (T++(4,s,n)::X)) (hs:s=[41]∨s=[44]):Pa.sArg ts (.at_ k)=(a,.at_ (k+T.length)):=by
 cases h with
 | m r T h =>
  unfold Pa.sArg
  rw[if_pos (isY hA (by decide))]
  show ((⟨true,(Pa.sRef ts (.at_ (k+1))).1,noEx⟩:Ar),(Pa.sRef ts (.at_ (k+1))).2)=_
  rw[h.parse hA.tail (by rcases hs with rfl|rfl<;>decide)]
  congr 2
  simp
  omega
 | e E l hE hh =>
  obtain⟨a,b,c,r,rfl,h3,-⟩:=zgM hE
  obtain⟨e1,e2⟩:=exY hE hh hA (by rcases hs with rfl|rfl;exact .inl rfl;exact .inr (.inl rfl))
  unfold Pa.sArg
  rw[if_neg (by rw[isNk (s:=[109,117,116,101,120]) hA h3];decide),e1,e2]
theorem JoK.pos {a:Ar} {l:List Ar} {T:List K3} (h:JoK ArK (a::l) T):1≤T.length∧(a::l).length≤T.length:=by
 generalize hx:a::l=x at h
 induction h generalizing a l with
 | nil=>cases hx
 | one b T h=>have:=h.pos;simp;omega
 | cons b c l' T L h hl ih =>
  have:=h.pos
  have:=ih rfl
  simp at this ⊢
  omega
theorem ArK.first {a:Ar} {T:List K3} (h:ArK a T):∃x y z r,T=(x,y,z)::r∧(x≠4∨y≠[41]):=by
 cases h with
 | m r T h=>exact⟨_,_,_,_,rfl,.inl (by decide)⟩
 | e E l hE hh =>
  obtain⟨a,b,c,r,rfl,-,-,h⟩:=zgM hE
  exact⟨a,b,c,r,rfl,h⟩
theorem JoK.first {a:Ar} {l:List Ar} {T:List K3} (h:JoK ArK (a::l) T):∃x y z r,T=(x,y,z)::r∧(x≠4∨y≠[41]):=by
 cases h with
 | one a T h=>exact h.first
 | cons a b l T L h hl =>
  obtain⟨x,y,z,r,rfl,hx⟩:=h.first
  exact⟨x,y,z,_,rfl,hx⟩
theorem isN41 {ts:List Tk.Tok} {k x z:Nat} {y:List UInt8} {r:List K3} (h:AtK ts k ((x,y,z)::r)) (hh:x≠4∨y≠[41]):Pa.isS ts (.at_ k) [41]=false:=by
 rcases hh with h1|h1
 ·
  exact isNk h (by rw[show Pa.kd [41]=4 from rfl];exact h1)
 ·
  exact isN h h1
theorem argL {l:List Ar} {T:List K3} (h:JoK ArK l T):∀ {ts:List Tk.Tok} {k:Nat} {X:List K3} (f:Nat) (acc:List Ar),l≠[]→AtK ts k (T++sg 41::X)→l.length≤f→Pa.sArgL ts f (.at_ k) acc=(acc++l,.at_ (k+T.length+1)):=by
 induction h with
 | nil=>intro ts k X f acc h0;exact absurd rfl h0
 | one a T h =>
  intro ts k X f acc _ hA hf
  obtain⟨f,rfl⟩:∃g,f=g+1:=⟨f-1,by simp at hf;omega⟩
  rw[Pa.sArgL,h.parse hA (.inl rfl),if_neg (by rw[isN hA.right (by decide)];decide),xpY hA.right (by decide)]
 | cons a b l T L h hl ih =>
  intro ts k X f acc _ hA hf
  obtain⟨f,rfl⟩:∃g,f=g+1:=⟨f-1,by simp at hf;omega⟩
  have hA':AtK ts k (T++(4,[44],0)::(L++sg 41::X)):=by simpa using hA
  rw[Pa.sArgL,h.parse hA' (.inr rfl),if_pos (isY hA'.right (by decide))]
  show Pa.sArgL ts f (.at_ (k+T.length+1)) _=_
  rw[ih f (acc++[a]) (by simp) hA'.right.tail (by simp at hf ⊢;omega)]
  congr 1
  ·
   simp
  ·
   congr 1
   simp
   omega
theorem zeS {l:List Ar} {T:List K3} (h:JoK ArK l T) {ts:List Tk.Tok} {k:Nat} {X:List K3} (hA:AtK ts k (sg 40::(T++sg 41::X))):Pa.sArgs ts (.at_ k)=(l,.at_ (k+T.length+2)):=by
 unfold Pa.sArgs
 rw[xpY hA (by decide)]
 have hT:=hA.tail
 cases l with
 | nil =>
  cases h
  rw[if_pos (isY hT (by decide))]
  rfl
 | cons a l =>
  obtain⟨p1,p2⟩:=JoK.pos h
  have hno:Pa.isS ts (.at_ (k+1)) [41]=false:=by
   obtain⟨x,y,z,r,hx,hh⟩:=JoK.first h
   rw[hx] at hT
   exact isN41 hT hh
  rw[if_neg (by rw[hno];decide),argL h (ts.length+1) [] (by simp) hT (by have:=lenK (T:=T) (a:=4) (b:=[41]) (c:=0) (AtK.mid (m:=[sg 41]) (n:=X) (by simpa using hT));omega)]
  congr 2
  omega
inductive TkL:Nat→List St→List K3→Prop
 | nil (d:Nat):TkL d [] []
 | lock (d:Nat) (r:Rf) (T:List K3) (l:List St) (L:List K3) (h:RfK r T) (hl:TkL d l L):TkL d (.mk 5 [] noEx r [] [] []::l) (kw [108,111,99,107]::(T++sg 59::L))
 | unlock (d:Nat) (r:Rf) (T:List K3) (l:List St) (L:List K3) (h:RfK r T) (hl:TkL d l L):TkL d (.mk 6 [] noEx r [] [] []::l) (kw [117,110,108,111,99,107]::(T++sg 59::L))
 | var (d:Nat) (n:List UInt8) (E:Ex) (e:List K3) (l:List St) (L:List K3) (hn:zag n=true) (hE:TkOf E e) (hh:exHt E≤24) (hl:TkL d l L):TkL d (.mk 1 n E noRf [] [] []::l) (kw [118,97,114]::nm n::sg 61::(e++sg 59::L))
 | set (d:Nat) (n:List UInt8) (E:Ex) (e:List K3) (l:List St) (L:List K3) (hn:zag n=true) (hE:TkOf E e) (hh:exHt E≤24) (hl:TkL d l L):TkL d (.mk 2 n E noRf [] [] []::l) (nm n::sg 61::(e++sg 59::L))
 | call (d:Nat) (n:List UInt8) (args:List Ar) (A:List K3) (l:List St) (L:List K3) (hn:zag n=true) (h:JoK ArK args A) (hl:TkL d l L):TkL d (.mk 3 n noEx noRf args [] []::l) (nm n::sg 40::(A++sg 41::sg 59::L))
 | gos (d:Nat) (n:List UInt8) (args:List Ar) (A:List K3) (l:List St) (L:List K3) (hn:zag n=true) (h:JoK ArK args A) (hl:TkL d l L):TkL d (.mk 4 n noEx noRf args [] []::l) (kw [103,111]::nm n::sg 40::(A++sg 41::sg 59::L))
 | ret (d:Nat) (l:List St) (L:List K3) (hl:TkL d l L):TkL d (.mk 9 [] noEx noRf [] [] []::l) (kw [114,101,116,117,114,110]::sg 59::L)
 | cond (d:Nat) (E:Ex) (e:List K3) (thn:List St) (A:List K3) (l:List St) (L:List K3) (hE:TkOf E e) (hh:exHt E≤24) (h1:TkL d thn A) (hl:TkL (d+1) l L):TkL (d+1) (.mk 7 [] E noRf [] thn []::l) (kw [105,102]::(e++sg 123::(A++sg 125::L)))
 | conde (d:Nat) (E:Ex) (e:List K3) (thn:List St) (A:List K3) (els:List St) (B:List K3) (l:List St) (L:List K3) (hE:TkOf E e) (hh:exHt E≤24) (h1:TkL d thn A) (h2:TkL d els B) (he:els.length≠0) (hl:TkL (d+1) l L):TkL (d+1) (.mk 7 [] E noRf [] thn els::l) (kw [105,102]::(e++sg 123::(A++sg 125::kw [101,108,115,101]::sg 123::(B++sg 125::L))))
 | whl (d:Nat) (E:Ex) (e:List K3) (thn:List St) (A:List K3) (l:List St) (L:List K3) (hE:TkOf E e) (hh:exHt E≤24) (h1:TkL d thn A) (hl:TkL (d+1) l L):TkL (d+1) (.mk 8 [] E noRf [] thn []::l) (kw [119,104,105,108,101]::(e++sg 123::(A++sg 125::L)))
theorem TkL.mono {d d':Nat} {l:List St} {T:List K3} (h:TkL d l T):d≤d'→TkL d' l T:=by
 induction h generalizing d' with
 | nil d=>exact fun _=>.nil d'
 | lock d r T l L h hl ih=>exact fun hd=>.lock d' r T l L h (ih hd)
 | unlock d r T l L h hl ih=>exact fun hd=>.unlock d' r T l L h (ih hd)
 | var d n E e l L hn hE hh hl ih=>exact fun hd=>.var d' n E e l L hn hE hh (ih hd)
 | set d n E e l L hn hE hh hl ih=>exact fun hd=>.set d' n E e l L hn hE hh (ih hd)
 | call d n args A l L hn h hl ih=>exact fun hd=>.call d' n args A l L hn h (ih hd)
 | gos d n args A l L hn h hl ih=>exact fun hd=>.gos d' n args A l L hn h (ih hd)
 | ret d l L hl ih=>exact fun hd=>.ret d' l L (ih hd)
 | cond d E e thn A l L hE hh h1 hl i1 ih =>
  intro hd
  obtain⟨m,rfl⟩:∃m,d'=m+1:=⟨d'-1,by omega⟩
  exact .cond m E e thn A l L hE hh (i1 (by omega)) (ih hd)
 | conde d E e thn A els B l L hE hh h1 h2 he hl i1 i2 ih =>
  intro hd
  obtain⟨m,rfl⟩:∃m,d'=m+1:=⟨d'-1,by omega⟩
  exact .conde m E e thn A els B l L hE hh (i1 (by omega)) (i2 (by omega)) he (ih hd)
 | whl d E e thn A l L hE hh h1 hl i1 ih =>
  intro hd
  obtain⟨m,rfl⟩:∃m,d'=m+1:=⟨d'-1,by omega⟩
  exact .whl m E e thn A l L hE hh (i1 (by omega)) (ih hd)
theorem TkL.app {d:Nat} {l m:List St} {T L:List K3} (h:TkL d l T) (hm:TkL d m L):TkL d (l++m) (T++L):=by
 induction h with
 | nil d=>exact hm
 | lock d r T l L h hl ih=>simpa using TkL.lock d r T _ _ h (ih hm)
 | unlock d r T l L h hl ih=>simpa using TkL.unlock d r T _ _ h (ih hm)
 | var d n E e l L hn hE hh hl ih=>simpa using TkL.var d n E e _ _ hn hE hh (ih hm)
 | set d n E e l L hn hE hh hl ih=>simpa using TkL.set d n E e _ _ hn hE hh (ih hm)
 | call d n args A l L hn h hl ih=>simpa using TkL.call d n args A _ _ hn h (ih hm)
 | gos d n args A l L hn h hl ih=>simpa using TkL.gos d n args A _ _ hn h (ih hm)
 | ret d l L hl ih=>simpa using TkL.ret d _ _ (ih hm)
 | cond d E e thn A l L hE hh h1 hl i1 ih=>simpa using TkL.cond d E e thn A _ _ hE hh h1 (ih hm)
 | conde d E e thn A els B l L hE hh h1 h2 he hl i1 i2 ih=>simpa using TkL.conde d E e thn A els B _ _ hE hh h1 h2 he (ih hm)
 | whl d E e thn A l L hE hh h1 hl i1 ih=>simpa using TkL.whl d E e thn A _ _ hE hh h1 (ih hm)
theorem TkL.len {d:Nat} {l:List St} {T:List K3} (h:TkL d l T):l.length≤T.length:=by
 induction h<;>simp at *<;>omega
theorem TkL.noelse {d:Nat} {l:List St} {T:List K3} (h:TkL d l T) {ts:List Tk.Tok} {k:Nat} {X:List K3} (hA:AtK ts k (T++sg 125::X)):Pa.isS ts (.at_ k) [101,108,115,101]=false:=by
 cases h<;>first|exact isN hA (by decide)|exact isNk hA (by decide)
theorem zey {s:List UInt8} {T:List K3} (tabs:List UInt8) (ht:∀c∈tabs,c=9) (h:LxA s T):LxA (tabs++(s++[10])) T:=((zi9 tabs ht).app (h.app (ws 10 (by decide)))).to rfl (by simp)
theorem tabs9 {tabs:List UInt8} (ht:∀c∈tabs,c=9):∀c∈tabs++[9],c=9:=fun c hc=>by
 rcases List.mem_append.1 hc with h|h
 ·
  exact ht c h
 ·
  exact List.mem_singleton.1 h
theorem endA {s:List UInt8} {T:List K3} (h:LxN s T):LxA (s++[59]) (T++[sg 59]):=h.app (c:=59) (s':=[]) (by decide) (LxA.sg 59 (by decide))
theorem zhe {s:List UInt8} {T:List K3} (h:LxN s T):LxA (s++[32,123,10]) (T++[sg 123]) :=
 h.app (c:=32) (s':=[123,10]) (by decide) (LxA.to (LxA.sp.app ((LxA.sg 123 (by decide)).app (ws 10 (by decide)))) rfl rfl)
theorem JoK.argsA {l:List Ar} {T:List K3} (h:JoK ArK l T):LxA (zaO l) (sg 40::(T++[sg 41])):=by
 have h1:=((LxA.sg 40 (by decide)).appN (JoK.lx ArK.lx h)).app (c:=41) (s':=[]) (by decide) (LxA.sg 41 (by decide))
 refine h1.to ?_ (by simp)
 unfold zaO
 rw[zes l l.length (Nat.le_refl _),List.take_length]
 simp
theorem TkL.lx {d:Nat} {l:List St} {T:List K3} (h:TkL d l T):∀tabs:List UInt8,(∀c∈tabs,c=9)→LxA (za7 l tabs) T:=by
 induction h with
 | nil d=>intro tabs _;rw[zbD];exact LxA.nil
 | lock d r T l L h hl ih =>
  intro tabs ht
  rw[zak,zaM]
  have h1:=zey tabs ht ((zcS [108,111,99,107] (by decide) (by decide)).app (endA h.lx))
  exact(h1.app (ih tabs ht)).to (by simp[zbf]) (by simp)
 | unlock d r T l L h hl ih =>
  intro tabs ht
  rw[zak,zaM]
  have h1:=zey tabs ht ((zcS [117,110,108,111,99,107] (by decide) (by decide)).app (endA h.lx))
  exact(h1.app (ih tabs ht)).to (by simp[zbf]) (by simp)
 | var d n E e l L hn hE hh hl ih =>
  intro tabs ht
  rw[zak,zaM]
  have h1:=zey tabs ht ((zcS [118,97,114] (by decide) (by decide)).app (((LxN.nm hn).app (c:=32) (s':=[61,32]) (by decide) eqA).app (endA (zen hE))))
  exact(h1.app (ih tabs ht)).to (by simp[zbf]) (by simp)
 | set d n E e l L hn hE hh hl ih =>
  intro tabs ht
  rw[zak,zaM]
  have h1:=zey tabs ht (((LxN.nm hn).app (c:=32) (s':=[61,32]) (by decide) eqA).app (endA (zen hE)))
  exact(h1.app (ih tabs ht)).to (by simp[zbf]) (by simp)
 | call d n args A l L hn h hl ih =>
  intro tabs ht
  rw[zak,zaM]
  obtain⟨r,hr⟩:∃r,zaO args=40::r:=⟨_,by unfold zaO;rw[zes _ _ (Nat.le_refl _)];rfl⟩
  have ha:=h.argsA
  rw[hr] at ha
  have h1:=zey tabs ht (((LxN.nm hn).app (c:=40) (s':=r) (by decide) ha).app (LxA.sg 59 (by decide)))
  exact(h1.app (ih tabs ht)).to (by simp[zbf,hr]) (by simp)
 | gos d n args A l L hn h hl ih =>
  intro tabs ht
  rw[zak,zaM]
  obtain⟨r,hr⟩:∃r,zaO args=40::r:=⟨_,by unfold zaO;rw[zes _ _ (Nat.le_refl _)];rfl⟩
  have ha:=h.argsA
  rw[hr] at ha
  have h1:=zey tabs ht ((zcS [103,111] (by decide) (by decide)).app (((LxN.nm hn).app (c:=40) (s':=r) (by decide) ha).app (LxA.sg 59 (by decide))))
  exact(h1.app (ih tabs ht)).to (by simp[zbf,hr]) (by simp)
 | ret d l L hl ih =>
  intro tabs ht
  rw[zak,zaM]
  have h1:=zey tabs ht (endA (resN [114,101,116,117,114,110] (by decide) (by decide)))
  exact(h1.app (ih tabs ht)).to (by simp[zbf]) (by simp)
 | cond d E e thn A l L hE hh h1 hl i1 ih =>
  intro tabs ht
  rw[zak,zaM]
  have h1:=zey tabs ht (((zcS [105,102] (by decide) (by decide)).app (zhe (zen hE))).app ((i1 (tabs++[9]) (tabs9 ht)).app ((zi9 tabs ht).app (LxA.sg 125 (by decide)))))
  exact(h1.app (ih tabs ht)).to (by simp[zbf]) (by simp)
 | conde d E e thn A els B l L hE hh h1 h2 he hl i1 i2 ih =>
  intro tabs ht
  rw[zak,zaM]
  have h1:=zey tabs ht (((zcS [105,102] (by decide) (by decide)).app (zhe (zen hE))).app ((i1 (tabs++[9]) (tabs9 ht)).app ((zi9 tabs ht).app ((LxA.sg 125 (by decide)).app ((LxA.sp.app (zhe (resN [101,108,115,101] (by decide) (by decide)))).app ((i2 (tabs++[9]) (tabs9 ht)).app ((zi9 tabs ht).app (LxA.sg 125 (by decide)))))))))
  have he':els≠[]:=fun h=>he (by rw[h];rfl)
  exact(h1.app (ih tabs ht)).to (by simp[zbf,he]) (by simp)
 | whl d E e thn A l L hE hh h1 hl i1 ih =>
  intro tabs ht
  rw[zak,zaM]
  have h1:=zey tabs ht (((zcS [119,104,105,108,101] (by decide) (by decide)).app (zhe (zen hE))).app ((i1 (tabs++[9]) (tabs9 ht)).app ((zi9 tabs ht).app (LxA.sg 125 (by decide)))))
  exact(h1.app (ih tabs ht)).to (by simp[zbf]) (by simp)
theorem zhq {ts:List Tk.Tok} {st:Pa.Sg→St × Pa.Sg} {k m g:Nat} {s:St} {acc:List St} (h:Pa.isS ts (.at_ k) [125]=false) (hst:st (.at_ k)=(s,.at_ m)):Pa.sStmts ts st (g+1) (.at_ k) acc=Pa.sStmts ts st g (.at_ m) (acc++[s]):=by
 rw[Pa.sStmts,if_neg (by intro h;cases h),if_neg (by rw[h];decide),hst]
theorem zid {ts:List Tk.Tok} {st:Pa.Sg→St × Pa.Sg} {k g:Nat} {acc:List St} {X:List K3} (h:AtK ts k (sg 125::X)):Pa.sStmts ts st (g+1) (.at_ k) acc=(acc,.at_ (k+1)):=by
 rw[Pa.sStmts,if_neg (by intro h;cases h),if_pos (isY h (by decide))]
 rfl
theorem sIf_no {ts:List Tk.Tok} {blk:Pa.Sg→List St × Pa.Sg} {σ τ:Pa.Sg} {x:List St} (h:blk (Pa.exS ts σ)=(x,τ)) (hn:Pa.isS ts τ [101,108,115,101]=false):Pa.sIf ts blk σ=(.mk 7 [] (Pa.exX ts σ) noRf [] x [],τ):=by
 unfold Pa.sIf
 rw[h,if_neg (by rw[hn];decide)]
theorem sIf_yes {ts:List Tk.Tok} {blk:Pa.Sg→List St × Pa.Sg} {σ τ υ:Pa.Sg} {x y:List St} (h:blk (Pa.exS ts σ)=(x,τ)) (hn:Pa.isS ts τ [101,108,115,101]=true) (h2:blk (Pa.nx τ)=(y,υ)):Pa.sIf ts blk σ=(.mk 7 [] (Pa.exX ts σ) noRf [] x y,υ):=by
 unfold Pa.sIf
 rw[h,if_pos hn,h2]
def Rds (ts:List Tk.Tok) (f o k:Nat) (l:List St) (m:Nat):Prop:=∀g acc,l.length<g→Pa.sStmts ts (fun τ=>Pa.sStmt ts (fun υ=>Pa.sBlock ts f (o+1) υ) τ) g (.at_ k) acc=(acc++l,.at_ m)
theorem Rds.cons {ts:List Tk.Tok} {f o k n m:Nat} {s:St} {l:List St} (h:Pa.isS ts (.at_ k) [125]=false) (hst:Pa.sStmt ts (fun υ=>Pa.sBlock ts f (o+1) υ) (.at_ k)=(s,.at_ n)) (hl:Rds ts f o n l m):Rds ts f o k (s::l) m:=by
 intro g acc hg
 obtain⟨g,rfl⟩:∃x,g=x+1:=⟨g-1,by omega⟩
 rw[zhq h hst,hl g (acc++[s]) (by simp at hg;omega)]
 simp
theorem Rds.blk {ts:List Tk.Tok} {f o k m:Nat} {l:List St} {X:List K3} (hA:AtK ts k (sg 123::X)) (ho:o<24) (h:Rds ts f o (k+1) l m) (hl:l.length<ts.length+1):Pa.sBlock ts (f+1) o (.at_ k)=(l,.at_ m):=by
 rw[Pa.sBlock,if_pos (isY hA (by decide)),lmN ho,xpY hA (by decide),h _ [] hl]
 simp
theorem TkL.parse {d:Nat} {l:List St} {T:List K3} (h:TkL d l T):∀ {ts:List Tk.Tok} {k f o:Nat} {X:List K3},AtK ts k (T++sg 125::X)→f+o=24→d+o<24→Rds ts f o k l (k+T.length+1):=by
 induction h with
 | nil d =>
  intro ts k f o X hA _ _ g acc hg
  obtain⟨g,rfl⟩:∃x,g=x+1:=⟨g-1,by omega⟩
  rw[zid hA,List.append_nil]
  rfl
 | lock d r T l L h hl ih =>
  intro ts k f o X hA hf ho
  have hA1:AtK ts (k+1) (T++sg 59::(L++sg 125::X)):=by simpa using hA.tail
  have hA2:=hA1.right
  refine Rds.cons (n:=k+1+T.length+1) (isN hA (by decide)) ?_ ?_
  ·
   unfold Pa.sStmt
   rw[if_neg (by rw[isN hA (by decide)];decide),if_neg (by rw[isN hA (by decide)];decide),if_pos (isY hA (by decide))]
   show Pa.sLock ts 5 (.at_ (k+1))=_
   unfold Pa.sLock
   rw[h.parse hA1 (by decide),xpY hA2 (by decide)]
  ·
   have:=ih hA2.tail hf ho
   rwa [show k+1+T.length+1+L.length+1=k+(kw [108,111,99,107]::(T++sg 59::L)).length+1 by simp;omega] at this
 | unlock d r T l L h hl ih =>
  intro ts k f o X hA hf ho
  have hA1:AtK ts (k+1) (T++sg 59::(L++sg 125::X)):=by simpa using hA.tail
  have hA2:=hA1.right
  refine Rds.cons (n:=k+1+T.length+1) (isN hA (by decide)) ?_ ?_
  ·
   unfold Pa.sStmt
   rw[if_neg (by rw[isN hA (by decide)];decide),if_neg (by rw[isN hA (by decide)];decide),if_neg (by rw[isN hA (by decide)];decide),if_pos (isY hA (by decide))]
   show Pa.sLock ts 6 (.at_ (k+1))=_
   unfold Pa.sLock
   rw[h.parse hA1 (by decide),xpY hA2 (by decide)]
  ·
   have:=ih hA2.tail hf ho
   rwa [show k+1+T.length+1+L.length+1=k+(kw [117,110,108,111,99,107]::(T++sg 59::L)).length+1 by simp;omega] at this
 | var d n E e l L hn hE hh hl ih =>
  intro ts k f o X hA hf ho
  have hA3:AtK ts (k+1+1+1) (e++sg 59::(L++sg 125::X)):=by simpa using hA.tail.tail.tail
  have hA4:=hA3.right
  obtain⟨e1,e2⟩:=exY hE hh hA3 (.inr (.inr (.inl rfl)))
  refine Rds.cons (n:=k+1+1+1+e.length+1) (isN hA (by decide)) ?_ ?_
  ·
   unfold Pa.sStmt
   rw[if_pos (isY hA (by decide))]
   show Pa.sSet ts 1 (Pa.nmV ts (.at_ (k+1))) (Pa.tk ts (.at_ (k+1)) 1)=_
   rw[nmY hA.tail,tkY hA.tail]
   unfold Pa.sSet
   rw[xpY hA.tail.tail (by decide),e1,e2,xpY hA4 (by decide)]
  ·
   have:=ih hA4.tail hf ho
   rwa [show k+1+1+1+e.length+1+L.length+1=k+(kw [118,97,114]::nm n::sg 61::(e++sg 59::L)).length+1 by simp;omega] at this
 | set d n E e l L hn hE hh hl ih =>
  intro ts k f o X hA hf ho
  have hA3:AtK ts (k+1+1) (e++sg 59::(L++sg 125::X)):=by simpa using hA.tail.tail
  have hA4:=hA3.right
  obtain⟨e1,e2⟩:=exY hE hh hA3 (.inr (.inr (.inl rfl)))
  refine Rds.cons (n:=k+1+1+e.length+1) (isNk hA (by decide)) ?_ ?_
  ·
   unfold Pa.sStmt
   rw[if_neg (by rw[isNk hA (by decide)];decide),if_neg (by rw[isNk hA (by decide)];decide),if_neg (by rw[isNk hA (by decide)];decide),if_neg (by rw[isNk hA (by decide)];decide),if_neg (by rw[isNk hA (by decide)];decide),if_neg (by rw[isNk hA (by decide)];decide),if_neg (by rw[isNk hA (by decide)];decide),nmY hA,tkY hA,if_neg (by rw[isN hA.tail (by decide)];decide)]
   unfold Pa.sSet
   rw[xpY hA.tail (by decide),e1,e2,xpY hA4 (by decide)]
  ·
   have:=ih hA4.tail hf ho
   rwa [show k+1+1+e.length+1+L.length+1=k+(nm n::sg 61::(e++sg 59::L)).length+1 by simp;omega] at this
 | call d n args A l L hn h hl ih =>
  intro ts k f o X hA hf ho
  have hA1:AtK ts (k+1) (sg 40::(A++sg 41::(sg 59::(L++sg 125::X)))):=by simpa using hA.tail
  have hA2:=hA1.tail.right.tail
  refine Rds.cons (n:=k+1+1+A.length+1+1) (isNk hA (by decide)) ?_ ?_
  ·
   unfold Pa.sStmt
   rw[if_neg (by rw[isNk hA (by decide)];decide),if_neg (by rw[isNk hA (by decide)];decide),if_neg (by rw[isNk hA (by decide)];decide),if_neg (by rw[isNk hA (by decide)];decide),if_neg (by rw[isNk hA (by decide)];decide),if_neg (by rw[isNk hA (by decide)];decide),if_neg (by rw[isNk hA (by decide)];decide),nmY hA,tkY hA,if_pos (isY hA1 (by decide))]
   unfold Pa.sCall
   rw[zeS h hA1,show k+1+A.length+2=k+1+1+A.length+1 by omega,xpY hA2 (by decide)]
  ·
   have:=ih hA2.tail hf ho
   rwa [show k+1+1+A.length+1+1+L.length+1=k+(nm n::sg 40::(A++sg 41::sg 59::L)).length+1 by simp;omega] at this
 | gos d n args A l L hn h hl ih =>
  intro ts k f o X hA hf ho
  have hA1:AtK ts (k+1+1) (sg 40::(A++sg 41::(sg 59::(L++sg 125::X)))):=by simpa using hA.tail.tail
  have hA2:=hA1.tail.right.tail
  refine Rds.cons (n:=k+1+1+1+A.length+1+1) (isN hA (by decide)) ?_ ?_
  ·
   unfold Pa.sStmt
   rw[if_neg (by rw[isN hA (by decide)];decide),if_pos (isY hA (by decide))]
   show Pa.sCall ts 4 (Pa.nmV ts (.at_ (k+1))) (Pa.tk ts (.at_ (k+1)) 1)=_
   rw[nmY hA.tail,tkY hA.tail]
   unfold Pa.sCall
   rw[zeS h hA1,show k+1+1+A.length+2=k+1+1+1+A.length+1 by omega,xpY hA2 (by decide)]
  ·
   have:=ih hA2.tail hf ho
   rwa [show k+1+1+1+A.length+1+1+L.length+1=k+(kw [103,111]::nm n::sg 40::(A++sg 41::sg 59::L)).length+1 by simp;omega] at this
 | ret d l L hl ih =>
  intro ts k f o X hA hf ho
  refine Rds.cons (n:=k+1+1) (isN hA (by decide)) ?_ ?_
  ·
   unfold Pa.sStmt
   rw[if_neg (by rw[isN hA (by decide)];decide),if_neg (by rw[isN hA (by decide)];decide),if_neg (by rw[isN hA (by decide)];decide),if_neg (by rw[isN hA (by decide)];decide),if_neg (by rw[isN hA (by decide)];decide),if_neg (by rw[isN hA (by decide)];decide),if_pos (isY hA (by decide))]
   show ((_,Pa.xp ts (.at_ (k+1)) [59]):St × Pa.Sg)=_
   rw[xpY hA.tail (by decide)]
  ·
   have:=ih hA.tail.tail hf ho
   rwa [show k+1+1+L.length+1=k+(kw [114,101,116,117,114,110]::sg 59::L).length+1 by simp;omega] at this
 | cond d E e thn A l L hE hh h1 hl i1 ih =>
  intro ts k f o X hA hf ho
  obtain⟨f,rfl⟩:∃x,f=x+1:=⟨f-1,by omega⟩
  have hA1:AtK ts (k+1) (e++sg 123::(A++sg 125::(L++sg 125::X))):=by simpa using hA.tail
  have hA2:=hA1.right
  have hA3:=hA2.tail.right.tail
  obtain⟨e1,e2⟩:=exY hE hh hA1 (.inr (.inr (.inr (.inr rfl))))
  have hb:=Rds.blk hA2 (by omega) (i1 (f:=f) (o:=o+1) hA2.tail (by omega) (by omega)) (by have:=h1.len;have:=lenK (T:=A) (a:=4) (b:=[125]) (c:=0) (AtK.mid (m:=[sg 125]) (by simpa using hA2.tail));omega)
  have hne:=hl.noelse hA3
  refine Rds.cons (n:=k+1+e.length+1+A.length+1) (isN hA (by decide)) ?_ ?_
  ·
   unfold Pa.sStmt
   rw[if_neg (by rw[isN hA (by decide)];decide),if_neg (by rw[isN hA (by decide)];decide),if_neg (by rw[isN hA (by decide)];decide),if_neg (by rw[isN hA (by decide)];decide),if_pos (isY hA (by decide))]
   show Pa.sIf ts _ (.at_ (k+1))=_
   rw[sIf_no (by rw[e2];exact hb) hne,e1]
  ·
   have:=ih hA3 hf ho
   rwa [show k+1+e.length+1+A.length+1+L.length+1=k+(kw [105,102]::(e++sg 123::(A++sg 125::L))).length+1 by simp;omega] at this
 | conde d E e thn A els B l L hE hh h1 h2 he hl i1 i2 ih =>
  intro ts k f o X hA hf ho
  obtain⟨f,rfl⟩:∃x,f=x+1:=⟨f-1,by omega⟩
  have hA1:AtK ts (k+1) (e++sg 123::(A++sg 125::(kw [101,108,115,101]::sg 123::(B++sg 125::(L++sg 125::X))))):=by simpa using hA.tail
  have hA2:=hA1.right
  have hA3:=hA2.tail.right.tail
  have hA4:=hA3.tail
  have hA5:=hA4.tail.right.tail
  obtain⟨e1,e2⟩:=exY hE hh hA1 (.inr (.inr (.inr (.inr rfl))))
  have hb:=Rds.blk hA2 (by omega) (i1 (f:=f) (o:=o+1) hA2.tail (by omega) (by omega)) (by have:=h1.len;have:=lenK (T:=A) (a:=4) (b:=[125]) (c:=0) (AtK.mid (m:=[sg 125]) (by simpa using hA2.tail));omega)
  have hb2:=Rds.blk hA4 (by omega) (i2 (f:=f) (o:=o+1) hA4.tail (by omega) (by omega)) (by have:=h2.len;have:=lenK (T:=B) (a:=4) (b:=[125]) (c:=0) (AtK.mid (m:=[sg 125]) (by simpa using hA4.tail));omega)
  refine Rds.cons (n:=k+1+e.length+1+A.length+1+1+1+B.length+1) (isN hA (by decide)) ?_ ?_
  ·
   unfold Pa.sStmt
   rw[if_neg (by rw[isN hA (by decide)];decide),if_neg (by rw[isN hA (by decide)];decide),if_neg (by rw[isN hA (by decide)];decide),if_neg (by rw[isN hA (by decide)];decide),if_pos (isY hA (by decide))]
   show Pa.sIf ts _ (.at_ (k+1))=_
   rw[sIf_yes (by rw[e2];exact hb) (isY hA3 (by decide)) hb2,e1]
  ·
   have:=ih hA5 hf ho
   rwa [show k+1+e.length+1+A.length+1+1+1+B.length+1+L.length+1=k+(kw [105,102]::(e++sg 123::(A++sg 125::kw [101,108,115,101]::sg 123::(B++sg 125::L)))).length+1 by simp;omega] at this
 | whl d E e thn A l L hE hh h1 hl i1 ih =>
  intro ts k f o X hA hf ho
  obtain⟨f,rfl⟩:∃x,f=x+1:=⟨f-1,by omega⟩
  have hA1:AtK ts (k+1) (e++sg 123::(A++sg 125::(L++sg 125::X))):=by simpa using hA.tail
  have hA2:=hA1.right
  have hA3:=hA2.tail.right.tail
  obtain⟨e1,e2⟩:=exY hE hh hA1 (.inr (.inr (.inr (.inr rfl))))
  have hb:=Rds.blk hA2 (by omega) (i1 (f:=f) (o:=o+1) hA2.tail (by omega) (by omega)) (by have:=h1.len;have:=lenK (T:=A) (a:=4) (b:=[125]) (c:=0) (AtK.mid (m:=[sg 125]) (by simpa using hA2.tail));omega)
  refine Rds.cons (n:=k+1+e.length+1+A.length+1) (isN hA (by decide)) ?_ ?_
  ·
   unfold Pa.sStmt
   rw[if_neg (by rw[isN hA (by decide)];decide),if_neg (by rw[isN hA (by decide)];decide),if_neg (by rw[isN hA (by decide)];decide),if_neg (by rw[isN hA (by decide)];decide),if_neg (by rw[isN hA (by decide)];decide),if_pos (isY hA (by decide))]
   show Pa.sWhile ts _ (.at_ (k+1))=_
   unfold Pa.sWhile
   dsimp only
   rw[e2,hb,e1]
  ·
   have:=ih hA3 hf ho
   rwa [show k+1+e.length+1+A.length+1+L.length+1=k+(kw [119,104,105,108,101]::(e++sg 123::(A++sg 125::L))).length+1 by simp;omega] at this
end Rt
end Go.Proofs.YtlnbmmgbfgmboaaDoor
