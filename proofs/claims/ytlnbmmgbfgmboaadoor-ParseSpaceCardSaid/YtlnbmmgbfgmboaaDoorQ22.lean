import Derived.Test.YtlnbmmgbfgmboaaDoorQ21
import Derived.Test.YtlnbmmgbfgmboaaDoorQ3
import Derived.Test.YtlnbmmgbfgmboaaDoorQ18
import Derived.Test.YtlnbmmgbfgmboaaDoorQ17
import Derived.Test.YtlnbmmgbfgmboaaDoorSm2G
import Derived.Test.YtlnbmmgbfgmboaaDoorQ4
import Derived.ProofKit
import Derived.LaidMore
import Derived.OpenShut
import Derived.Stop.Joined
namespace Go.Proofs.YtlnbmmgbfgmboaaDoor
theorem zhL (l:List UInt8) (m f:Nat):∀(k:Nat) (acc:List Tk.Tok),k≤l.length→l.length-k<f→Tk.lexGo (f+m) l k acc=Tk.lexGo f l k acc:=by
 induction f with
 | zero=>intro k acc _ h;omega
 | succ f ih =>
  intro k acc hk hf
  rw[show f+1+m=f+m+1 by omega]
  by_cases hlt:k<l.length
  ·
   cases ht:Tk.tokAt l k with
   | error e=>rw[zbo _ l k e acc hlt ht,zbo _ l k e acc hlt ht]
   | ok t =>
    by_cases hn:acc.length=4000
    ·
     rw[zaU _ l k acc t hlt ht hn,zaU _ l k acc t hlt ht hn]
    ·
     rw[zaK _ l k acc t hlt ht hn,zaK _ l k acc t hlt ht hn]
     obtain⟨hp,hle,_⟩:=zfo l k t hlt ht
     have hs:k+t.text.length≤Tk.skipTo l (k+t.text.length):=by unfold Tk.skipTo;omega
     exact ih _ _ (Tk.skipTo_le l _ hle) (by omega)
  ·
   rw[zbU _ l k acc (by omega),zbU _ l k acc (by omega)]
theorem LxA.lexAll {s:List UInt8} {T:List K3} (h:LxA s T) (h1:T.length≤4000) (h3:s.length≤262144):∃A:List Tk.Tok,A.map k3=T∧Tk.lex s=(A++[⟨5,[],0,s.length⟩],s.length,0):=by
 obtain⟨A,e1,e2⟩:=h (s.length+1) [] [] [] (by simpa using h1)
 refine⟨A,e1,?_⟩
 have e3:Tk.lex s=lxt (s.length+1+T.length) [] s []:=by
  unfold Tk.lex lxt Tk.skipTo
  rw[if_neg (by omega)]
  have:=Tk.sepLen_le false s
  simp only[List.drop_zero,List.nil_append,List.length_nil]
  rw[zhL s T.length (s.length+1) _ _ (by omega) (by omega)]
 rw[e3]
 rw[List.append_nil] at e2
 rw[e2,List.nil_append,List.nil_append]
 exact ziZ _ _ _
namespace Rt
inductive GlK:Gl→List K3→Prop
 | zero (n:List UInt8) (h:zag n=true):GlK ⟨n,0⟩ [kw [118,97,114],nm n,sg 59]
 | pos (n:List UInt8) (h:zag n=true) (v:Nat) (h0:0<v) (h1:v≤9223372036854775807):GlK ⟨n,(v:Int)⟩ [kw [118,97,114],nm n,sg 61,(2,zas (v:Int),v),sg 59]
 | neg (n:List UInt8) (h:zag n=true) (v:Nat) (h0:0<v) (h1:v≤9223372036854775807):GlK ⟨n,-(v:Int)⟩ [kw [118,97,114],nm n,sg 61,sg 45,(2,zas (v:Int),v),sg 59]
theorem zgr (v:Nat) (h:0<v):zas (-(v:Int))=45::zas (v:Int):=by
 unfold zas
 rw[if_pos (by omega),if_neg (by omega)]
 simp
theorem zhx {s:List UInt8} {T:List K3} (h:LxN s T):LxA (s++[59,10]) (T++[sg 59]):=h.app (c:=59) (s':=[10]) (by decide) (LxA.to ((LxA.sg 59 (by decide)).app (ws 10 (by decide))) rfl rfl)
theorem GlK.lx {g:Gl} {T:List K3} (h:GlK g T):LxA (zaN g) T:=by
 cases h with
 | zero n h=>exact((zcS [118,97,114] (by decide) (by decide)).app (zhx (LxN.nm h))).to (by simp[zaN]) (by simp)
 | pos n h v h0 h1=>exact((zcS [118,97,114] (by decide) (by decide)).app (((LxN.nm h).app (c:=32) (s':=[61,32]) (by decide) eqA).app (zhx (LxN.nu v h1)))).to (by simp[zaN,show v≠0 by omega]) (by simp)
 | neg n h v h0 h1=>exact((zcS [118,97,114] (by decide) (by decide)).app (((LxN.nm h).app (c:=32) (s':=[61,32]) (by decide) eqA).app (zhx (zj0 (.inl rfl) (zck v).1 (LxN.nu v h1))))).to (by simp[zaN,show v≠0 by omega,zgr v h0]) (by simp)
theorem GlK.parse {g:Gl} {T:List K3} (h:GlK g T) {ts:List Tk.Tok} {k:Nat} {X:List K3} (hA:AtK ts k (T++X)):Pa.isS ts (.at_ k) [118,97,114]=true∧Ps.kindAt ts k≠5∧Pa.sGlobal ts (.at_ (k+1))=(g,.at_ (k+T.length)):=by
 cases h with
 | zero n h =>
  refine⟨isY hA (by decide),by rw[hA.head.1];decide,?_⟩
  unfold Pa.sGlobal
  rw[tkY hA.tail,if_neg (by rw[isN hA.tail.tail (by decide)];decide),nmY hA.tail,xpY hA.tail.tail (by decide)]
  rfl
 | pos n h v h0 h1 =>
  refine⟨isY hA (by decide),by rw[hA.head.1];decide,?_⟩
  have h45:Pa.isS ts (.at_ (k+1+1+1)) [45]=false:=isNk hA.tail.tail.tail (by decide)
  unfold Pa.sGlobal
  rw[tkY hA.tail,if_pos (isY hA.tail.tail (by decide)),nmY hA.tail]
  show ((⟨n,if Pa.isS ts (.at_ (k+1+1+1)) [45]=true then -((Pa.nuV ts (Pa.nx (.at_ (k+1+1+1))):Nat):Int) else (Pa.nuV ts (.at_ (k+1+1+1)):Nat)⟩:Gl),Pa.xp ts (Pa.tk ts (Pa.ac ts (.at_ (k+1+1+1)) [45]) 2) [59])=_
  rw[if_neg (by rw[h45];decide),acN h45,nuY hA.tail.tail.tail,tkY hA.tail.tail.tail,xpY hA.tail.tail.tail.tail (by decide)]
  rfl
 | neg n h v h0 h1 =>
  refine⟨isY hA (by decide),by rw[hA.head.1];decide,?_⟩
  unfold Pa.sGlobal
  rw[tkY hA.tail,if_pos (isY hA.tail.tail (by decide)),nmY hA.tail]
  show ((⟨n,if Pa.isS ts (.at_ (k+1+1+1)) [45]=true then -((Pa.nuV ts (.at_ (k+1+1+1+1)):Nat):Int) else (Pa.nuV ts (.at_ (k+1+1+1)):Nat)⟩:Gl),Pa.xp ts (Pa.tk ts (Pa.ac ts (.at_ (k+1+1+1)) [45]) 2) [59])=_
  rw[if_pos (isY hA.tail.tail.tail (by decide)),acY hA.tail.tail.tail (by decide),nuY hA.tail.tail.tail.tail,tkY hA.tail.tail.tail.tail,xpY hA.tail.tail.tail.tail.tail (by decide)]
  rfl
theorem GlK.len {g:Gl} {T:List K3} (h:GlK g T):1≤T.length∧T.length≤6:=by cases h<;>simp
inductive MxK:Mx→List K3→Prop
 | plain (n:List UInt8) (h:zag n=true):MxK ⟨n,false,0⟩ [kw [109,117,116,101,120],nm n,sg 59]
 | re (n:List UInt8) (h:zag n=true):MxK ⟨n,true,0⟩ [kw [114,109,117,116,101,120],nm n,sg 59]
 | arr (n:List UInt8) (h:zag n=true) (v:Nat) (h0:0<v) (h1:v≤64):MxK ⟨n,false,v⟩ [kw [109,117,116,101,120],nm n,sg 91,(2,zas (v:Int),v),sg 93,sg 59]
theorem MxK.lx {m:Mx} {T:List K3} (h:MxK m T):LxA (zaR m) T:=by
 cases h with
 | plain n h=>exact((zcS [109,117,116,101,120] (by decide) (by decide)).app (zhx (LxN.nm h))).to (by simp[zaR]) (by simp)
 | re n h=>exact((zcS [114,109,117,116,101,120] (by decide) (by decide)).app (zhx (LxN.nm h))).to (by simp[zaR]) (by simp)
 | arr n h v h0 h1 =>
  have h2:=(LxN.nm h).app (c:=91) (s':=zas (v:Int)++93::[]) (by decide) ((LxA.sg 91 (by decide)).app ((LxN.nu v (by omega)).app (c:=93) (s':=[]) (by decide) (LxA.sg 93 (by decide))))
  exact((zcS [109,117,116,101,120] (by decide) (by decide)).app (zhx h2.toN)).to (by simp[zaR,show v≠0 by omega]) (by simp)
theorem MxK.parse {m:Mx} {T:List K3} (h:MxK m T) {ts:List Tk.Tok} {k:Nat} {X:List K3} (hA:AtK ts k (T++X)) (f:Nat) (p:Pg) (hl:p.ms.length<12) :
  Pa.sProg ts (f+1) (.at_ k) p=Pa.sProg ts f (.at_ (k+T.length)) {p with ms:=p.ms++[m]}:=by
 cases h with
 | plain n h =>
  have e:Pa.sMutex ts false (.at_ (k+1))=(⟨n,false,0⟩,.at_ (k+3)):=by
   unfold Pa.sMutex
   rw[tkY hA.tail,if_neg (by rw[isN hA.tail.tail (by decide)];decide),nmY hA.tail,xpY hA.tail.tail (by decide)]
  rw[Pa.sProg,if_neg (by rw[kdN hA (by decide)];simp[Pa.Sg.live]),if_neg (by rw[isN hA (by decide)];decide),if_pos (isY hA (by decide)),lmN hl,acY hA (by decide),e]
  rfl
 | re n h =>
  have e:Pa.sMutex ts true (.at_ (k+1))=(⟨n,true,0⟩,.at_ (k+3)):=by
   unfold Pa.sMutex
   rw[if_neg (by simp),nmY hA.tail,tkY hA.tail,xpY hA.tail.tail (by decide)]
  rw[Pa.sProg,if_neg (by rw[kdN hA (by decide)];simp[Pa.Sg.live]),if_neg (by rw[isN hA (by decide)];decide),if_neg (by rw[isN hA (by decide)];decide),if_pos (isY hA (by decide)),lmN hl,acY hA (by decide),e]
  rfl
 | arr n h v h0 h1 =>
  have hn:Ps.numAt ts (k+1+1+1)=v:=hA.tail.tail.tail.head.2.2.1
  have hs:Pa.szS ts (.at_ (k+1+1+1))=.at_ (k+1+1+1+1):=by
   unfold Pa.szS
   have hx:¬(Pa.kdS ts (.at_ (k+1+1+1)) 2=true∧(Ps.numAt ts (Pa.Sg.at_ (k+1+1+1)).k<1∨64<Ps.numAt ts (Pa.Sg.at_ (k+1+1+1)).k)):=by
    rintro ⟨-,h⟩
    have e:(Pa.Sg.at_ (k+1+1+1)).k=k+1+1+1:=rfl
    rw[e,hn] at h
    omega
   rw[if_neg hx,tkY hA.tail.tail.tail]
  have e:Pa.sMutex ts false (.at_ (k+1))=(⟨n,false,v⟩,.at_ (k+6)):=by
   unfold Pa.sMutex
   rw[tkY hA.tail,if_pos ⟨rfl,isY hA.tail.tail (by decide)⟩,nmY hA.tail]
   show ((⟨n,false,Pa.nuV ts (.at_ (k+1+1+1))⟩:Mx),Pa.xp ts (Pa.xp ts (Pa.szS ts (.at_ (k+1+1+1))) [93]) [59])=_
   rw[nuY hA.tail.tail.tail,hs,xpY hA.tail.tail.tail.tail (by decide),xpY hA.tail.tail.tail.tail.tail (by decide)]
  rw[Pa.sProg,if_neg (by rw[kdN hA (by decide)];simp[Pa.Sg.live]),if_neg (by rw[isN hA (by decide)];decide),if_pos (isY hA (by decide)),lmN hl,acY hA (by decide),e]
  rfl
theorem MxK.len {g:Mx} {T:List K3} (h:MxK g T):1≤T.length∧T.length≤6:=by cases h<;>simp
inductive PmK:Pm→List K3→Prop
 | m (n:List UInt8) (h:zag n=true):PmK ⟨n,true⟩ [kw [109,117,116,101,120],nm n]
 | v (n:List UInt8) (h:zag n=true):PmK ⟨n,false⟩ [nm n]
theorem PmK.lx (p:Pm) (T:List K3) (h:PmK p T):LxN (zcD p) T:=by
 cases h with
 | m n h=>exact LxN.to ((zcS [109,117,116,101,120] (by decide) (by decide)).appN (LxN.nm h)) (by simp[zcD]) (by simp)
 | v n h=>exact LxN.to (LxN.nm h) (by simp[zcD]) rfl
theorem zh4 {α:Type} {p:Prop} [Decidable p] (a:α):(if p then a else a)=a:=by split<;>rfl
theorem PmK.parse {p:Pm} {T:List K3} (h:PmK p T) {ts:List Tk.Tok} {k:Nat} {X:List K3} (hA:AtK ts k (T++X)) {i:Nat} (hi:i<6):Pa.sParam ts i (.at_ k)=(p,.at_ (k+T.length)):=by
 cases h with
 | m n h =>
  unfold Pa.sParam
  rw[lmN hi]
  simp only[zh4]
  rw[acY hA (by decide),nmY hA.tail,tkY hA.tail,isY hA (by decide)]
  rfl
 | v n h =>
  have hno:Pa.isS ts (.at_ k) [109,117,116,101,120]=false:=isNk hA (by decide)
  unfold Pa.sParam
  rw[lmN hi]
  simp only[zh4]
  rw[acN hno,nmY hA,tkY hA,hno]
  rfl
theorem PmK.first {a:Pm} {T:List K3} (h:PmK a T):∃x y z r,T=(x,y,z)::r∧(x≠4∨y≠[41]):=by
 cases h<;>exact⟨_,_,_,_,rfl,.inl (by decide)⟩
theorem JoK.firstP {a:Pm} {l:List Pm} {T:List K3} (h:JoK PmK (a::l) T):∃x y z r,T=(x,y,z)::r∧(x≠4∨y≠[41]):=by
 cases h with
 | one a T h=>exact h.first
 | cons a b l T L h hl =>
  obtain⟨x,y,z,r,rfl,hx⟩:=h.first
  exact⟨x,y,z,_,rfl,hx⟩
theorem JoK.lenP {l:List Pm} {T:List K3} (h:JoK PmK l T):l.length≤T.length∧T.length≤3*l.length:=by
 have h1:∀ {a:Pm} {T:List K3},PmK a T→1≤T.length∧T.length≤2:=fun h=>by cases h<;>simp
 induction h with
 | nil=>simp
 | one a T h=>have:=h1 h;simp;omega
 | cons a b l T L h hl ih=>have:=h1 h;simp at ih ⊢;omega
theorem paramL {l:List Pm} {T:List K3} (h:JoK PmK l T):∀ {ts:List Tk.Tok} {k:Nat} {X:List K3} (f:Nat) (acc:List Pm),l≠[]→acc.length+l.length≤6→AtK ts k (T++sg 41::X)→l.length≤f→Pa.sParamL ts f (.at_ k) acc=(acc++l,.at_ (k+T.length+1)):=by
 induction h with
 | nil=>intro ts k X f acc h0;exact absurd rfl h0
 | one a T h =>
  intro ts k X f acc _ h6 hA hf
  obtain⟨f,rfl⟩:∃g,f=g+1:=⟨f-1,by simp at hf;omega⟩
  rw[Pa.sParamL,h.parse hA (by simp at h6;omega),if_neg (by rw[isN hA.right (by decide)];decide),xpY hA.right (by decide)]
 | cons a b l T L h hl ih =>
  intro ts k X f acc _ h6 hA hf
  obtain⟨f,rfl⟩:∃g,f=g+1:=⟨f-1,by simp at hf;omega⟩
  have hA':AtK ts k (T++(4,[44],0)::(L++sg 41::X)):=by simpa using hA
  rw[Pa.sParamL,h.parse hA' (by simp at h6;omega),if_pos (isY hA'.right (by decide))]
  show Pa.sParamL ts f (.at_ (k+T.length+1)) _=_
  rw[ih f (acc++[a]) (by simp) (by simp at h6 ⊢;omega) hA'.right.tail (by simp at hf ⊢;omega)]
  congr 1
  ·
   simp
  ·
   congr 1
   simp
   omega
theorem zfJ {l:List Pm} {T:List K3} (h:JoK PmK l T) (h6:l.length≤6) {ts:List Tk.Tok} {k:Nat} {X:List K3} (hA:AtK ts k (sg 40::(T++sg 41::X))):Pa.sParams ts (.at_ k)=(l,.at_ (k+T.length+2)):=by
 unfold Pa.sParams
 rw[xpY hA (by decide)]
 have hT:=hA.tail
 cases l with
 | nil =>
  cases h
  rw[if_pos (isY hT (by decide))]
  rfl
 | cons a l =>
  obtain⟨p1,-⟩:=JoK.lenP h
  have hno:Pa.isS ts (.at_ (k+1)) [41]=false:=by
   obtain⟨x,y,z,r,hx,hh⟩:=JoK.firstP h
   rw[hx] at hT
   exact isN41 hT hh
  rw[if_neg (by rw[hno];decide),paramL h (ts.length+1) [] (by simp) (by simpa using h6) hT (by have:=lenK (T:=T) (a:=4) (b:=[41]) (c:=0) (AtK.mid (m:=[sg 41]) (n:=X) (by simpa using hT));omega)]
  congr 2
  omega
inductive FnK:Fn→List K3→Prop
 | mk (n:List UInt8) (h:zag n=true) (ps:List Pm) (A:List K3) (hA:JoK PmK ps A) (h6:ps.length≤6) (d:Nat) (hd:d≤23) (l:List St) (B:List K3) (hB:TkL d l B):FnK ⟨n,ps,l⟩ (kw [102,117,110,99]::nm n::sg 40::(A++sg 41::sg 123::(B++[sg 125])))
theorem FnK.lx {f:Fn} {T:List K3} (h:FnK f T):LxA (zb6 f) T:=by
 cases h with
 | mk n h ps A hA h6 d hd l B hB =>
  have h1:=(LxN.nm h).appN (c:=40) (s':=zdn zcD ps) (by decide) ((LxA.sg 40 (by decide)).appN (JoK.lx PmK.lx hA))
  have h2:=h1.app (c:=41) (s':=[32,123,10]) (by decide) (LxA.to ((LxA.sg 41 (by decide)).app (LxA.sp.app ((LxA.sg 123 (by decide)).app (ws 10 (by decide))))) rfl rfl)
  have h3:=(zcS [102,117,110,99] (by decide) (by decide)).app (h2.app ((hB.lx [9] (by simp)).app ((LxA.sg 125 (by decide)).app (ws 10 (by decide)))))
  exact h3.to (by unfold zb6 zh6;rw[ziF _ _ (Nat.le_refl _),List.take_length];simp) (by simp)
theorem FnK.parse {g:Fn} {T:List K3} (h:FnK g T) {ts:List Tk.Tok} {k:Nat} {X:List K3} (hA:AtK ts k (T++X)) (f:Nat) (p:Pg) (hl:p.fs.length<16) :
  Pa.sProg ts (f+1) (.at_ k) p=Pa.sProg ts f (.at_ (k+T.length)) {p with fs:=p.fs++[g]}:=by
 cases h with
 | mk n h ps A hP h6 d hd l B hB =>
  have hA1:AtK ts (k+1+1) (sg 40::(A++sg 41::(sg 123::(B++sg 125::X)))):=by simpa using hA.tail.tail
  have hA2:=hA1.tail.right.tail
  have hb:=Rds.blk hA2 (f:=24) (o:=0) (by omega) (hB.parse (f:=24) (o:=0) hA2.tail rfl (by omega)) (by have:=hB.len;have:=lenK (T:=B) (a:=4) (b:=[125]) (c:=0) (AtK.mid (m:=[sg 125]) (by simpa using hA2.tail));omega)
  have e:Pa.sFunc ts (.at_ (k+1))=(⟨n,ps,l⟩,.at_ (k+1+1+1+A.length+1+1+B.length+1)):=by
   unfold Pa.sFunc
   rw[nmY hA.tail,tkY hA.tail,zfJ hP h6 hA1,show k+1+1+A.length+2=k+1+1+1+A.length+1 by omega,hb]
  rw[Pa.sProg,if_neg (by rw[kdN hA (by decide)];simp[Pa.Sg.live]),if_neg (by rw[isN hA (by decide)];decide),if_neg (by rw[isN hA (by decide)];decide),if_neg (by rw[isN hA (by decide)];decide),if_pos (isY hA (by decide)),lmN hl,acY hA (by decide),e]
  congr 2
  simp
  omega
theorem FnK.len {g:Fn} {T:List K3} (h:FnK g T):1≤T.length:=by cases h;simp
inductive PgK:Pg→Pg→List UInt8→List K3→Prop
 | nil (p:Pg):PgK p p [] []
 | gl (p q:Pg) (g:Gl) (T:List K3) (s:List UInt8) (L:List K3) (h:GlK g T) (hl:p.gs.length<16) (hr:PgK {p with gs:=p.gs++[g]} q s L):PgK p q (zaN g++s) (T++L)
 | mx (p q:Pg) (m:Mx) (T:List K3) (s:List UInt8) (L:List K3) (h:MxK m T) (hl:p.ms.length<12) (hr:PgK {p with ms:=p.ms++[m]} q s L):PgK p q (zaR m++s) (T++L)
 | fn (p q:Pg) (g:Fn) (T:List K3) (s:List UInt8) (L:List K3) (h:FnK g T) (hl:p.fs.length<16) (hr:PgK {p with fs:=p.fs++[g]} q s L):PgK p q (zb6 g++s) (T++L)
theorem PgK.lx {p q:Pg} {s:List UInt8} {T:List K3} (h:PgK p q s T):LxA s T:=by
 induction h with
 | nil p=>exact LxA.nil
 | gl p q g T s L h hl hr ih=>exact h.lx.app ih
 | mx p q g T s L h hl hr ih=>exact h.lx.app ih
 | fn p q g T s L h hl hr ih=>exact h.lx.app ih
theorem PgK.app {p q r:Pg} {s s':List UInt8} {T T':List K3} (h:PgK p q s T) (h':PgK q r s' T'):PgK p r (s++s') (T++T'):=by
 induction h with
 | nil p=>exact h'
 | gl p q g T s L h hl hr ih=>rw[List.append_assoc,List.append_assoc];exact .gl p r g T _ _ h hl (ih h')
 | mx p q g T s L h hl hr ih=>rw[List.append_assoc,List.append_assoc];exact .mx p r g T _ _ h hl (ih h')
 | fn p q g T s L h hl hr ih=>rw[List.append_assoc,List.append_assoc];exact .fn p r g T _ _ h hl (ih h')
theorem PgK.parse {p q:Pg} {s:List UInt8} {T:List K3} (h:PgK p q s T):∀ {ts:List Tk.Tok} {k f:Nat},AtK ts k (T++[(5,[],0)])→T.length<f→Pa.sProg ts f (.at_ k) p=(q,.at_ (k+T.length)):=by
 induction h with
 | nil p =>
  intro ts k f hA hf
  obtain⟨f,rfl⟩:∃g,f=g+1:=⟨f-1,by omega⟩
  rw[Pa.sProg,if_pos (.inr (kdY hA))]
  rfl
 | gl p q g T s L h hl hr ih =>
  intro ts k f hA hf
  have:=h.len
  obtain⟨f,rfl⟩:∃g,f=g+1:=⟨f-1,by omega⟩
  rw[List.append_assoc] at hA
  obtain⟨e1,e2,e3⟩:=h.parse hA
  rw[Pa.sProg,if_neg (by simp[Pa.kdS,Pa.Sg.live,e2]),if_pos e1,lmN hl,show Pa.ac ts (.at_ k) [118,97,114]=.at_ (k+1) from if_pos e1,e3]
  rw[ih hA.right (by simp at hf;omega),List.length_append,Nat.add_assoc]
 | mx p q g T s L h hl hr ih =>
  intro ts k f hA hf
  have:=h.len
  obtain⟨f,rfl⟩:∃g,f=g+1:=⟨f-1,by omega⟩
  rw[List.append_assoc] at hA
  rw[h.parse hA f p hl,ih hA.right (by simp at hf;omega),List.length_append,Nat.add_assoc]
 | fn p q g T s L h hl hr ih =>
  intro ts k f hA hf
  have:=h.len
  obtain⟨f,rfl⟩:∃g,f=g+1:=⟨f-1,by omega⟩
  rw[List.append_assoc] at hA
  rw[h.parse hA f p hl,ih hA.right (by simp at hf;omega),List.length_append,Nat.add_assoc]
theorem PgK.toks {p q:Pg} {s:List UInt8} {T:List K3} (h:PgK p q s T) (hT:T.length≤4000) (hs:s.length≤262144):(Tk.lex s).2.2=0∧(Tk.lex s).2.1=s.length∧(Tk.lex s).1.length=T.length+1∧Pa.sProg (Tk.lex s).1 (Tk.lex s).1.length (.at_ 0) p=(q,.at_ T.length):=by
 obtain⟨A,e1,e2⟩:=h.lx.lexAll hT hs
 have hl:A.length=T.length:=by rw[←e1,List.length_map]
 rw[e2]
 refine⟨rfl,rfl,by simp[hl],?_⟩
 have hA:AtK (A++[(⟨5,[],0,s.length⟩:Tk.Tok)]) 0 (T++[(5,[],0)]):=by
  intro i hi
  rw[Nat.zero_add,←List.getElem?_map,List.map_append,e1]
  exact List.getElem?_eq_getElem hi
 have:=h.parse hA (f:=(A++[(⟨5,[],0,s.length⟩:Tk.Tok)]).length) (by simp[hl])
 rw[Nat.zero_add] at this
 exact this
end Rt
end Go.Proofs.YtlnbmmgbfgmboaaDoor

namespace Go.Proofs.YtlnbmmgbfgmboaaDoor
namespace Rt
theorem zeO {d:Nat} {vs:List Nm} {E:Ex} (h:ExW d vs E) (hd:d≤2) (hN:∀n∈vs,zag n=true):∃l,TkOf E l∧l.length+5≤6*2 ^ d∧exHt E≤24:=by
 have hht:exHt E≤24:=by have:=(h.md hN).ht;omega
 rcases h with⟨n,hn,rfl⟩|⟨xs,k,i,hk,rfl⟩
 ·
  have:=zbG d
  exact⟨_,.num n (by omega),by simp;omega,hht⟩
 ·
  obtain⟨l,h1,h2⟩:=exG_tk vs hN xs k i
  have:2 ^ k≤2 ^ d:=Nat.pow_le_pow_right (by omega) hk
  exact⟨l,h1,by omega,hht⟩
theorem ziu {ms:List Mx} {ps:List Pm} {vs:List Nm} {r:Rf} (h:RfW ms ps vs r) (hN:∀n∈vs,zag n=true) (hM:∀i (h:i<ms.length),zag ms[i].name=true) (hP:∀i (h:i<ps.length),zag ps[i].name=true):∃T,RfK r T∧T.length≤10:=by
 obtain⟨name,idx⟩:=r
 rcases h with⟨i,hi,hn,hx⟩|⟨i,hi,-,hn,hx⟩
 ·
  dsimp only at hn hx
  subst hn
  rcases hx with⟨-,rfl⟩|⟨-,E,rfl,hW⟩
  ·
   exact⟨_,.none _ (hM i hi),by simp⟩
  ·
   obtain⟨l,h1,h2,h3⟩:=zeO hW (by omega) hN
   exact⟨_,.some _ (hM i hi) E l h1 h3,by simp;omega⟩
 ·
  dsimp only at hn hx
  subst hn hx
  exact⟨_,.none _ (hP i hi),by simp⟩
theorem arw_tk {ms:List Mx} {ps:List Pm} {vs:List Nm} {p:Pm} {a:Ar} (h:ArW ms ps vs p a) (hN:∀n∈vs,zag n=true) (hM:∀i (h:i<ms.length),zag ms[i].name=true) (hP:∀i (h:i<ps.length),zag ps[i].name=true):∃T,ArK a T∧T.length≤19:=by
 obtain⟨m,r,e⟩:=a
 rcases h with⟨-,hm,hr,he⟩|⟨-,hm,hr,he⟩
 ·
  dsimp only at hm hr he
  subst hm he
  obtain⟨T,h1,h2⟩:=ziu hr hN hM hP
  exact⟨_,.m r T h1,by simp;omega⟩
 ·
  dsimp only at hm hr he
  subst hm hr
  obtain⟨l,h1,h2,h3⟩:=zeO he (by omega) hN
  exact⟨l,.e e l h1 h3,by omega⟩
theorem args_tk {l:List Ar} (hl:l.length≤2) (h:∀j (h:j<l.length),∃T,ArK l[j] T∧T.length≤19):∃T,JoK ArK l T∧T.length≤39:=by
 match l,hl,h with
 | [],_,_=>exact⟨[],.nil,by simp⟩
 | [a],_,h =>
  obtain⟨T,h1,h2⟩:=h 0 (by simp)
  exact⟨T,.one a T h1,by omega⟩
 | [a,b],_,h =>
  obtain⟨T,h1,h2⟩:=h 0 (by simp)
  obtain⟨L,h3,h4⟩:=h 1 (by simp)
  exact⟨_,.cons a b [] T L h1 (.one b L h3),by simp;omega⟩
theorem TkL.snoc {d:Nat} {l:List St} {T L:List K3} {s:St} (h:TkL d l T) (hs:TkL d [s] L):TkL d (l++[s]) (T++L):=h.app hs
theorem blw_tk {ms:List Mx} {fs:List Hd} {ps:List Pm} (hM:∀i (h:i<ms.length),zag ms[i].name=true) (hP:∀i (h:i<ps.length),zag ps[i].name=true)
  (hF:∀i (h:i<fs.length),zag fs[i].name=true∧fs[i].ps.length≤2) {d:Nat} {vs:List Nm} {hi lo:Nat} {l:List St} {us:List Nm} (h:BlW ms fs ps d vs hi lo l us) :
  hi≤26→(∀n∈vs,zag n=true)→∃T,TkL d l T∧T.length+44*lo≤44*hi:=by
 induction h with
 | nil d vs k=>exact fun _ _=>⟨[],.nil d,by simp⟩
 | lock k r h hk hr ih =>
  intro h26 hv
  obtain⟨T,i1,i2⟩:=ih h26 hv
  obtain⟨L,r1,r2⟩:=ziu hr (h.facts hM hP hF h26 hv).u hM hP
  rcases hk with rfl|rfl
  ·
   exact⟨_,i1.snoc (.lock _ r L [] [] r1 (.nil _)),by simp;omega⟩
  ·
   exact⟨_,i1.snoc (.unlock _ r L [] [] r1 (.nil _)),by simp;omega⟩
 | @var d vs hi lo l us e h he ih =>
  intro h26 hv
  obtain⟨T,i1,i2⟩:=ih h26 hv
  have hle:=h.le
  obtain⟨L,r1,r2,r3⟩:=zeO he (by omega) (h.facts hM hP hF h26 hv).u
  exact⟨_,i1.snoc (.var _ _ e L [] [] (zgK lo (by omega)) r1 r3 (.nil _)),by simp;omega⟩
 | set n e h hn he ih =>
  intro h26 hv
  obtain⟨T,i1,i2⟩:=ih h26 hv
  have hu:=(h.facts hM hP hF h26 hv).u
  obtain⟨L,r1,r2,r3⟩:=zeO he (by omega) hu
  exact⟨_,i1.snoc (.set _ n e L [] [] (hu n hn) r1 r3 (.nil _)),by simp;omega⟩
 | call k i args h hk hi' hl ha ih =>
  intro h26 hv
  obtain⟨T,i1,i2⟩:=ih h26 hv
  have hu:=(h.facts hM hP hF h26 hv).u
  obtain⟨L,r1,r2⟩:=args_tk (l:=args) (by rw[hl];exact(hF i hi').2) (fun j hj=>arw_tk (ha j (by omega) hj) hu hM hP)
  rcases hk with rfl|rfl
  ·
   exact⟨_,i1.snoc (.call _ _ args L [] [] (hF i hi').1 r1 (.nil _)),by simp;omega⟩
  ·
   exact⟨_,i1.snoc (.gos _ _ args L [] [] (hF i hi').1 r1 (.nil _)),by simp;omega⟩
 | cond e thn els h he h1 h2 ih ih1 ih2 =>
  intro h26 hv
  obtain⟨T,i1,i2⟩:=ih h26 hv
  have hu:=(h.facts hM hP hF h26 hv).u
  have l0:=h.le
  have l1:=h1.le
  obtain⟨L,r1,r2,r3⟩:=zeO he (by omega) hu
  obtain⟨A,a1,a2⟩:=ih1 (by omega) hu
  obtain⟨B,b1,b2⟩:=ih2 (by omega) hu
  by_cases hz:els.length=0
  ·
   obtain rfl:els=[]:=List.length_eq_zero_iff.1 hz
   have:=h2.le
   exact⟨_,i1.snoc (.cond _ e L thn A [] [] r1 r3 a1 (.nil _)),by simp;omega⟩
  ·
   exact⟨_,i1.snoc (.conde _ e L thn A els B [] [] r1 r3 a1 b1 hz (.nil _)),by simp;omega⟩
 | whl e thn h he h1 ih ih1 =>
  intro h26 hv
  obtain⟨T,i1,i2⟩:=ih h26 hv
  have hu:=(h.facts hM hP hF h26 hv).u
  have l0:=h.le
  obtain⟨L,r1,r2,r3⟩:=zeO he (by omega) hu
  obtain⟨A,a1,a2⟩:=ih1 (by omega) hu
  exact⟨_,i1.snoc (.whl _ e L thn A [] [] r1 r3 a1 (.nil _)),by simp;omega⟩
 | ret h ih =>
  intro h26 hv
  obtain⟨T,i1,i2⟩:=ih h26 hv
  exact⟨_,i1.snoc (.ret _ [] [] (.nil _)),by simp;omega⟩
 | around r h hr h2 ih ih2 =>
  intro h26 hv
  obtain⟨T,i1,i2⟩:=ih h26 hv
  have hu:=(h.facts hM hP hF h26 hv).u
  have l0:=h.le
  obtain⟨A,a1,a2⟩:=ih2 (by omega) hu
  obtain⟨L,r1,r2⟩:=ziu hr hu hM hP
  exact⟨_,((i1.snoc (.lock _ r L [] [] r1 (.nil _))).app (a1.mono (Nat.zero_le _))).snoc (.unlock _ r L [] [] r1 (.nil _)),by simp;omega⟩
theorem gls_tk (gs:List Gl):∀p:Pg,(∀g∈gs,∃T,GlK g T)→p.gs.length+gs.length≤16→∃T,PgK p {p with gs:=p.gs++gs} (catT zaN gs) T∧T.length≤6*gs.length:=by
 induction gs with
 | nil=>intro p _ _;exact⟨[],by simpa[catT] using PgK.nil p,by simp⟩
 | cons g r ih =>
  intro p h hl
  obtain⟨T,h1⟩:=h g (by simp)
  obtain⟨L,h2,h3⟩:=ih {p with gs:=p.gs++[g]} (fun g hg=>h g (by simp[hg])) (by simp at hl ⊢;omega)
  have:=h1.len
  refine⟨T++L,?_,by simp;omega⟩
  have h4:=PgK.gl p _ g T _ L h1 (by simp at hl;omega) h2
  simpa[catT] using h4
theorem mxs_tk (gs:List Mx):∀p:Pg,(∀g∈gs,∃T,MxK g T)→p.ms.length+gs.length≤12→∃T,PgK p {p with ms:=p.ms++gs} (catT zaR gs) T∧T.length≤6*gs.length:=by
 induction gs with
 | nil=>intro p _ _;exact⟨[],by simpa[catT] using PgK.nil p,by simp⟩
 | cons g r ih =>
  intro p h hl
  obtain⟨T,h1⟩:=h g (by simp)
  obtain⟨L,h2,h3⟩:=ih {p with ms:=p.ms++[g]} (fun g hg=>h g (by simp[hg])) (by simp at hl ⊢;omega)
  have:=h1.len
  refine⟨T++L,?_,by simp;omega⟩
  have h4:=PgK.mx p _ g T _ L h1 (by simp at hl;omega) h2
  simpa[catT] using h4
theorem gl_tk {g:Gl} (hn:zag g.name=true) (h1:-9223372036854775807≤g.init) (h2:g.init≤9223372036854775807):∃T,GlK g T:=by
 obtain⟨n,v⟩:=g
 dsimp only at hn h1 h2
 rcases Int.lt_trichotomy v 0 with h|h|h
 ·
  obtain⟨m,rfl⟩:∃m:Nat,v=-(m:Int):=⟨(-v).toNat,by omega⟩
  exact⟨_,.neg n hn m (by omega) (by omega)⟩
 ·
  subst h
  exact⟨_,.zero n hn⟩
 ·
  obtain⟨m,rfl⟩:∃m:Nat,v=(m:Int):=⟨v.toNat,by omega⟩
  exact⟨_,.pos n hn m (by omega) (by omega)⟩
theorem mx_tk {m:Mx} (hn:zag m.name=true) (h1:m.size≤64) (h2:m.re=true→m.size=0):∃T,MxK m T:=by
 obtain⟨n,re,v⟩:=m
 dsimp only at hn h1 h2
 cases re with
 | true =>
  obtain rfl:=h2 rfl
  exact⟨_,.re n hn⟩
 | false =>
  by_cases hv:v=0
  ·
   subst hv
   exact⟨_,.plain n hn⟩
  ·
   exact⟨_,.arr n hn v (by omega) h1⟩
theorem pms_tk (ps:List Pm) (h:∀p∈ps,zag p.name=true):∃T,JoK PmK ps T:=by
 induction ps with
 | nil=>exact⟨[],.nil⟩
 | cons p r ih =>
  obtain⟨L,hL⟩:=ih fun q hq=>h q (by simp[hq])
  obtain⟨T,hT⟩:∃T,PmK p T:=by
   obtain⟨n,m⟩:=p
   have hn:=h ⟨n,m⟩ (by simp)
   cases m with
   | true=>exact⟨_,.m n hn⟩
   | false=>exact⟨_,.v n hn⟩
  cases r with
  | nil=>exact⟨T,.one p T hT⟩
  | cons q r=>exact⟨_,.cons p q r T L hT hL⟩
theorem zgW {P:Pg} (h:PgW P) :
  (∀p:Pg,p.gs.length=0→∃T,PgK p {p with gs:=P.gs} (catT zaN P.gs) T∧T.length≤12) ∧
  (∀p:Pg,p.ms.length=0→∃T,PgK p {p with ms:=P.ms} (catT zaR P.ms) T∧T.length≤24) ∧
  (∀p:Pg,p.fs.length=0→∃T,PgK p {p with fs:=P.fs} (catT zb6 P.fs) T∧T.length≤1200):=by
 have hmd:=h.md
 refine⟨fun p hp=>?_,fun p hp=>?_,fun p hp=>?_⟩
 ·
  obtain⟨T,h1,h2⟩:=gls_tk P.gs p (fun g hg=>by
   obtain⟨i,hi,rfl⟩:=List.mem_iff_getElem.1 hg
   obtain⟨a,b,c⟩:=hmd.g i hi
   exact gl_tk a (by omega) (by omega)) (by have:=h.gl;omega)
  have hn:p.gs=[]:=List.length_eq_zero_iff.1 hp
  rw[hn] at h1
  exact⟨T,by simpa using h1,by have:=h.gl;omega⟩
 ·
  obtain⟨T,h1,h2⟩:=mxs_tk P.ms p (fun g hg=>by
   obtain⟨i,hi,rfl⟩:=List.mem_iff_getElem.1 hg
   obtain⟨a,b,c⟩:=hmd.m i hi
   exact mx_tk a (by omega) c) (by have:=h.ml;omega)
  have hn:p.ms=[]:=List.length_eq_zero_iff.1 hp
  rw[hn] at h1
  exact⟨T,by simpa using h1,by have:=h.ml;omega⟩
 ·
  have hn:p.fs=[]:=List.length_eq_zero_iff.1 hp
  obtain⟨L,hL0,hL⟩:=h.b
  have hM:∀i (h:i<P.ms.length),zag P.ms[i].name=true:=fun i hi=>(hmd.m i hi).1
  have hF:∀j (hj:j<(P.fs.map fun f=>(⟨f.name,f.ps⟩:Hd)).length),zag ((P.fs.map fun f=>(⟨f.name,f.ps⟩:Hd))[j]).name=true∧((P.fs.map fun f=>(⟨f.name,f.ps⟩:Hd))[j]).ps.length≤2:=fun j hj=>by
   simp only[List.getElem_map]
   have hj':j<P.fs.length:=by simpa using hj
   exact⟨(hmd.f j hj').1,(hmd.f j hj').2.1⟩
  have hfl:=h.fl
  have hrec:∀i,i≤P.fs.length→∃T,PgK p {p with fs:=P.fs.take i} (catT zb6 (P.fs.take i)) T∧T.length+44*L i≤44*L 0+14*i∧L i≤24:=by
   intro i
   induction i with
   | zero =>
    intro _
    refine⟨[],?_,by simp,hL0⟩
    have e:{p with fs:=P.fs.take 0}=p:=by cases p;simp at hn ⊢;exact hn
    rw[e]
    exact .nil p
   | succ i ih =>
    intro hi
    obtain⟨T,t1,t2,t3⟩:=ih (by omega)
    have hi':i<P.fs.length:=by omega
    obtain⟨us,hB⟩:=hL i hi'
    have hle:=hB.le
    have hPn:=(hmd.f i hi').2.2.1
    have hvs:∀n∈P.gs.map (·.name)++(P.fs[i].ps.filter fun p=>!p.m).map (·.name),zag n=true:=fun n hn=>by
     rcases List.mem_append.1 hn with h1|h1
     ·
      obtain⟨g,hg,rfl⟩:=List.mem_map.1 h1
      obtain⟨j,hj,rfl⟩:=List.mem_iff_getElem.1 hg
      exact(hmd.g j hj).1
     ·
      obtain⟨p,hp,rfl⟩:=List.mem_map.1 h1
      obtain⟨j,hj,rfl⟩:=List.mem_iff_getElem.1 ((List.mem_filter.1 hp).1)
      exact hPn j hj
    obtain⟨B,b1,b2⟩:=blw_tk hM hPn hF hB (by omega) hvs
    obtain⟨A,a1⟩:=pms_tk P.fs[i].ps fun q hq=>by
     obtain⟨j,hj,rfl⟩:=List.mem_iff_getElem.1 hq
     exact hPn j hj
    have hal:=JoK.lenP a1
    have h2l:=(hmd.f i hi').2.1
    have hfk:FnK P.fs[i] _:=.mk P.fs[i].name (hmd.f i hi').1 P.fs[i].ps A a1 (by omega) 2 (by omega) P.fs[i].body B b1
    have hstep:=PgK.fn {p with fs:=P.fs.take i} {p with fs:=P.fs.take (i+1)} P.fs[i] _ [] [] hfk (by simp;omega) (by
     have e:({p with fs:=P.fs.take i++[P.fs[i]]}:Pg)={p with fs:=P.fs.take (i+1)}:=by rw[List.take_append_getElem hi']
     show PgK {p with fs:=P.fs.take i++[P.fs[i]]} _ [] []
     rw[e]
     exact .nil _)
    rw[zdq zb6 P.fs i hi']
    refine⟨_,t1.app (by simpa using hstep),?_,by omega⟩
    simp
    omega
  obtain⟨T,t1,t2,-⟩:=hrec P.fs.length (Nat.le_refl _)
  rw[List.take_length] at t1
  exact⟨T,t1,by omega⟩
theorem zgU {s:List UInt8} {P:Pg} {T:List K3} (h:PgK noPg P s T) (hT:T.length≤4000) (hs:s.length≤262144):zbH s=(P,s.length,0)∧(Tk.lex s).2.2=0:=by
 obtain⟨h1,h2,h3,h4⟩:=h.toks hT hs
 refine⟨?_,h1⟩
 unfold zbH zhD
 rw[if_pos h1,h4]
 rfl
theorem made_round {P:Pg} (h:PgW P):zbH (zaQ P)=(P,(zaQ P).length,0)∧(Tk.lex (zaQ P)).2.2=0:=by
 obtain⟨hg,hm,hf⟩:=zgW h
 obtain⟨A,a1,a2⟩:=hg noPg rfl
 obtain⟨B,b1,b2⟩:=hm {noPg with gs:=P.gs} rfl
 obtain⟨C,c1,c2⟩:=hf {noPg with gs:=P.gs,ms:=P.ms} rfl
 have hx:=h.md.text
 exact zgU (T:=A++(B++C)) (a1.app (b1.app c1)) (by simp;omega) (by omega)
theorem made_order {P:Pg} (h:PgW P):zbH (catT zb6 P.fs++(catT zaR P.ms++catT zaN P.gs))=(P,(catT zb6 P.fs++(catT zaR P.ms++catT zaN P.gs)).length,0):=by
 obtain⟨hg,hm,hf⟩:=zgW h
 obtain⟨C,c1,c2⟩:=hf noPg rfl
 obtain⟨B,b1,b2⟩:=hm {noPg with fs:=P.fs} rfl
 obtain⟨A,a1,a2⟩:=hg {noPg with fs:=P.fs,ms:=P.ms} rfl
 have hx:=h.md.text
 unfold zaQ at hx
 simp only[List.length_append] at hx
 exact(zgU (T:=C++(B++A)) (c1.app (b1.app a1)) (by simp;omega) (by simp;omega)).1
theorem made_any {P:Pg} (h:PgW P) (us:List Tk.Tok) (hu:us.map k3=(Tk.lex (zaQ P)).1.map k3):Pa.sProg us us.length (.at_ 0) noPg=(P,.at_ (us.length-1)):=by
 obtain⟨hg,hm,hf⟩:=zgW h
 obtain⟨A,a1,a2⟩:=hg noPg rfl
 obtain⟨B,b1,b2⟩:=hm {noPg with gs:=P.gs} rfl
 obtain⟨C,c1,c2⟩:=hf {noPg with gs:=P.gs,ms:=P.ms} rfl
 have hx:=h.md.text
 have hK:=a1.app (b1.app c1)
 have hT:(A++(B++C)).length≤4000:=by simp;omega
 obtain⟨D,e1,e2⟩:=hK.lx.lexAll hT (show (catT zaN P.gs++(catT zaR P.ms++catT zb6 P.fs)).length≤262144 by have:(zaQ P).length≤101000:=hx;unfold zaQ at this;omega)
 have e3:(Tk.lex (zaQ P)).1=D++[⟨5,[],0,(zaQ P).length⟩]:=congrArg Prod.fst e2
 rw[e3,List.map_append,e1] at hu
 have hl:us.length=(A++(B++C)).length+1:=by
  have:=congrArg List.length hu
  simp at this ⊢
  omega
 have hA:AtK us 0 ((A++(B++C))++[(5,[],0)]):=by
  intro i hi
  rw[Nat.zero_add,←List.getElem?_map,hu]
  exact List.getElem?_eq_getElem hi
 have:=hK.parse hA (f:=us.length) (by omega)
 rw[Nat.zero_add] at this
 rw[this,hl]
 rfl
theorem fmt_made {P:Pg} (h:PgW P):(if (Tk.lex (zaQ P)).2.2=0 then zaQ P else [])=zaQ P:=if_pos (made_round h).2
theorem zf4 {q:Pg} {s:List UInt8} {T:List K3} (h:PgK noPg q s T) (hT:T.length≤4000) (hs:s.length≤262144):(Tk.lex s).2.2=0:=(h.toks hT hs).1
theorem made_parts {P:Pg} (h:PgW P):(Tk.lex (catT zb6 P.fs)).2.2=0∧(Tk.lex (catT zaR P.ms)).2.2=0∧(Tk.lex (catT zaN P.gs)).2.2=0∧(catT zb6 P.fs).length+(catT zaR P.ms).length+(catT zaN P.gs).length≤101000:=by
 obtain⟨hg,hm,hf⟩:=zgW h
 obtain⟨A,a1,a2⟩:=hg noPg rfl
 obtain⟨B,b1,b2⟩:=hm noPg rfl
 obtain⟨C,c1,c2⟩:=hf noPg rfl
 have hx:=h.md.text
 unfold zaQ at hx
 simp only[List.length_append] at hx
 exact⟨zf4 c1 (by omega) (by omega),zf4 b1 (by omega) (by omega),zf4 a1 (by omega) (by omega),by omega⟩
end Rt
end Go.Proofs.YtlnbmmgbfgmboaaDoor

namespace Go.Proofs.YtlnbmmgbfgmboaaDoor
open Go.RowKit
theorem sameT_k3 {ts us:List Tk.Tok} (h:SameT false ts us):us.map k3=ts.map k3:=by
 obtain⟨hl,h⟩:=h
 refine List.ext_getElem (by simp;omega) fun i h1 h2=>?_
 simp only[List.length_map] at h1 h2
 simp only[List.getElem_map]
 obtain⟨e1,e2,e3,-⟩:=h i h2 h1
 unfold k3
 simp only[e1,e2,e3]
theorem ziz {P:Pg} (h:PgW P):zbH (fmtT P)=(P,(fmtT P).length,0)∧(zbl (Tk.lex (fmtT P)).1).length≤262144∧zbH (zbl (Tk.lex (fmtT P)).1)=(P,(zbl (Tk.lex (fmtT P)).1).length,0):=by
 have e:fmtT P=zaQ P:=Rt.fmt_made h
 obtain⟨h1,h2⟩:=Rt.made_round h
 have hx:=h.md.text
 rw[e]
 obtain⟨a1,a2,a3⟩:=zhp (zaQ P) h2 (by omega)
 refine⟨h1,a1,?_⟩
 unfold zbH zhD
 rw[if_pos a2,Rt.made_any h _ (sameT_k3 a3)]
 rfl
set_option maxRecDepth 100000 in
set_option maxHeartbeats 4000000 in
theorem zf1 (xs:List Int) (hC:ProgC xs) (A:Option Addr) (cap:Nat) (w:World) (hR:IntR w A xs) (hc:xs.length≤cap) (hm:xs.length≤9223372036854775807) (hS:SgT w) :
  Calls Tryd.prog 4 #[.slice A xs.length cap] w fun e w'=>e=.returned (.bool true)∧Below w.heap.size w w':=by
 have HS:=Lib.hid hS
 have HTX:=Lib.hid (mtext_of xs hC A cap w hR hc hm)
 clear hC hR hc hm hS
 go_enter Tryd.func4,Tryd.ntmps4
 go_wp2_with fail
 refine HTX.out.mono ?_
 rintro e w1 ⟨P,hP,rfl,hb1⟩
 have HB1:=Lib.hid hb1
 have hl0:=fmtT_len hP
 obtain⟨v1,v2,v3⟩:=ziz hP
 have HV1:=Lib.hid v1
 have HV2:=Lib.hid v3
 have HPB:Hid (PgB P):=by
  have:=ziC (fmtT P) (by omega)
  rw[v1] at this
  exact this
 have hN1:=zgv (fmtT P)
 clear hP hb1 HTX v1 v3
 generalize fmtT P=L at *
 obtain⟨c1,W1,hcv1,hB1,hc1,hb2⟩:=zcp L w1
 have HL:=Lib.hid (zeG L (some ⟨w1.heap.size,0,none⟩) c1 W1 hB1 (by omega) hc1)
 have HB2:=Lib.hid (za1 HB1.out hb2)
 clear hB1 hc1 hb2
 go_wp2_with fail
 refine HL.out.mono ?_
 intro e w2 hp
 obtain⟨A2,c2,rfl,hT,hb3⟩:=zcH hp
 have HT:=Lib.hid hT
 have HB3:=Lib.hid (za1 HB2.out hb3)
 clear hp hb3 hcv1 hT HL
 generalize (Tk.lex L).2.1=n0 at *
 generalize (Tk.lex L).2.2=e0 at *
 generalize (Tk.lex L).1=ts at *
 obtain⟨c3,W3,hcv3,hB3,hc3,hb4⟩:=zcp L w2
 have HB4:=Lib.hid (za1 HB3.out hb4)
 have HP1:=Lib.hid (zdv P L (some ⟨w2.heap.size,0,none⟩) c3 W3 HV1.out hB3 (by omega) hc3 (HS.out.later HB4.out))
 have HT4:=Lib.hid (HT.out.later hb4)
 clear hB3 hc3 hb4 HT
 go_wp2_with fail
 refine HP1.out.mono ?_
 rintro e w3 ⟨AG,AM,AF,cG,cM,cF,H,rfl,hM,hb5⟩
 have HM:=Lib.hid (hM.later ((Below.refl _ _).alloc (Nat.le_refl _) (.cells #[.slice AG P.gs.length cG,.slice AM P.ms.length cM,.slice AF P.fs.length cF] 27)))
 have HB5:=Lib.hid ((za1 HB4.out hb5).alloc (za1 HB4.out hb5).size (.cells #[.slice AG P.gs.length cG,.slice AM P.ms.length cM,.slice AF P.fs.length cF] 27))
 have HT5:=Lib.hid ((HT4.out.later hb5).later ((Below.refl _ _).alloc (Nat.le_refl _) (.cells #[.slice AG P.gs.length cG,.slice AM P.ms.length cM,.slice AF P.fs.length cF] 27)))
 have HX:=Lib.hid (heap_alloc_new w3 (.cells #[.slice AG P.gs.length cG,.slice AM P.ms.length cM,.slice AF P.fs.length cF] 27))
 clear hM hb5 hcv3 HT4 HP1
 go_wp2_with fail
 generalize w3.alloc (.cells #[.slice AG P.gs.length cG,.slice AM P.ms.length cM,.slice AF P.fs.length cF] 27)=W5 at *
 obtain⟨X,hX⟩:∃X,X=w3.heap.size:=⟨_,rfl⟩
 rw[←hX] at HX ⊢
 have HXX:=Lib.hid hX
 clear hX
 refine(zfD ts A2 c2 W5 HT5.out (by omega) (by omega)).mono ?_
 rintro e w4 ⟨rfl,hb6⟩
 have HM6:=Lib.hid (HM.out.later hb6)
 have HB6:=Lib.hid (za1 HB5.out hb6)
 have HX6:=Lib.hid ((hb6.block X (lt_of_block HX.out)).trans HX.out)
 clear hb6 HM HX HT5 HB5
 generalize zbl ts=M at *
 obtain⟨c5,W6,hcv5,hB6,hc5,hb7⟩:=zcp M w4
 have HB7:=Lib.hid (za1 HB6.out hb7)
 have HP2:=Lib.hid (zdv P M (some ⟨w4.heap.size,0,none⟩) c5 W6 HV2.out hB6 (by omega) hc5 (HS.out.later HB7.out))
 have HM7:=Lib.hid (HM6.out.later hb7)
 have HX7:=Lib.hid ((hb7.block X (lt_of_block HX6.out)).trans HX6.out)
 clear hB6 hc5 hb7 HM6 HX6
 go_wp2_with fail
 refine HP2.out.mono ?_
 rintro e w7 ⟨AG2,AM2,AF2,cG2,cM2,cF2,H2,rfl,hM2,hb8⟩
 have HB8:=Lib.hid (za1 HB7.out hb8)
 have HM8:=Lib.hid (HM7.out.later hb8)
 have hx:=(hb8.block X (lt_of_block HX7.out)).trans HX7.out
 have hxl:=lt_of_block hx
 obtain⟨x0,x1,x2,-,-⟩:=blk3 hx
 have HM9:=Lib.hid hM2
 clear hM2 hb8 hx hcv5 HM7 HX7 HP2
 have HSM:=Lib.hid (fun W (h1:PgM W P AG AM AF H) (h2:PgM W P AG2 AM2 AF2 H2)=>zfy P HPB.out AG AM AF AG2 AM2 AF2 cG cM cF cG2 cM2 cF2 H H2 W h1 h2)
 go_wp2_with fail
 refine(HSM.out _ (HM8.out.later ((Below.refl _ _).alloc (Nat.le_refl _) _)) (HM9.out.later ((Below.refl _ _).alloc (Nat.le_refl _) _))).mono ?_
 rintro e w8 ⟨rfl,hb9⟩
 have HB9:=Lib.hid (za1 (HB8.out.alloc HB8.out.size _) hb9)
 clear hb9
 go_wp2_with fail
 refine(zeR _ (HS.out.later HB9.out)).mono ?_
 rintro e w9 ⟨rfl,hb10⟩
 have HB10:=Lib.hid (za1 HB9.out hb10)
 clear hb10
 go_wp2_with fail
 go_ret
 exact⟨rfl,HB10.out⟩
end Go.Proofs.YtlnbmmgbfgmboaaDoor

namespace Go.Proofs.YtlnbmmgbfgmboaaDoor
open Go.RowKit
theorem zed (xs:List Int) (A:Option Addr) (cap:Nat) (w:World) (hR:IntR w A xs) (hc:xs.length≤cap) (hm:xs.length≤9223372036854775807) (hS:SgT w) :
  Calls Tryd.prog 4 #[.slice A xs.length cap] w fun e w'=>e=.returned (.bool true)∧Below w.heap.size w w':=zf1 xs (zdE xs) A cap w hR hc hm hS
end Go.Proofs.YtlnbmmgbfgmboaaDoor

namespace Go.Proofs.YtlnbmmgbfgmboaaDoor
open Go.ChangeShapes Go.WideShapes Go.ChangeAt Go.RowKit
theorem gSigns:Tryd.prog.globalNamed "lockorder/expr.signs" = some 0:=by kernel_rfl
theorem tSigns:(Tryd.prog.globals[(0:Nat)]?).map (·.type)=some 138:=by kernel_rfl
def laid1 {H:Type}:List (String × DataW H):=[("lockorder/expr.signs",Rows.laid_lockorder_expr_signs)]
theorem zhN {H:Type}:(Rows.laid_lockorder_expr_signs:DataW H)=.agg (Ps.sgTab.map fun s=>.lit (.string s)):=rfl
theorem agg_inj {H:Type} {a b:List (DataW H)} (h:(DataW.agg a:DataW H)=.agg b):a=b:=by
 injection h
theorem zh9 (os:Os) (args:Array Value):laidMetH Tryd.prog laid1 ((World.doorLaid Tryd.prog 400 os).forCall (fun _ _=>0) ⟨#[],args,[]⟩).memory :=
 laidMetH_of_parts3 (fuel:=8) (laidMet_of_run' 8 (by kernel_rfl) (by kernel_rfl)) (by kernel_rfl) (by kernel_rfl)
theorem ziS {W:World} (h:laidMetH Tryd.prog laid1 W):SgT W:=by
 rw[MakeChecks.laidMetH_plain _ _ _ (by kernel_rfl)] at h
 obtain⟨ps,⟨g3,t3,cs3,f3,p3,q3,hg3,ht3,hv3,hd3,_,_⟩,_⟩:=h
 obtain rfl:=Option.some.inj (gSigns.symm.trans hg3)
 obtain rfl:=Option.some.inj (tSigns.symm.trans ht3)
 obtain⟨xs,m,rfl,hx,hlen,hn,hel⟩:=DataW.trod_array Tryd.underlying138 hd3
 have c1:Tryd.prog.cellsOf 9=1:=by kernel_rfl
 have c18:Tryd.prog.cellsOf 138=18:=by kernel_rfl
 simp only[Prod.mk.injEq] at hx
 have hxs:xs.map (·.1)=Ps.sgTab.map fun s=>.lit (.string s):=agg_inj (hx.1.symm.trans zhN)
 have hL:Ps.sgTab.length=18:=rfl
 unfold SgT
 generalize Ps.sgTab=L at *
 intro i hi
 have h1:=hel i (by omega)
 rw[c1,Nat.mul_one] at h1
 have hxi:i<xs.length:=by omega
 rw[List.getElem?_eq_getElem hxi] at h1
 obtain⟨s,e1,e2,_⟩:=DataW.trod_string Tryd.underlying9 h1
 have hcell:cs3.toList[i]?=some (.string s):=by
  have h2:((cs3.toList.drop i).take 1)[0]?=some (Value.string s):=by rw[e1];rfl
  rw[List.getElem?_take,if_pos (by omega),List.getElem?_drop,Nat.add_zero] at h2
  exact h2
 have hs:s.data.toList=L[i]:=by
  have h3:(xs.map (·.1))[i]?=(L.map fun s=>(DataW.lit (.string s):DataW _))[i]?:=by rw[hxs]
  rw[List.getElem?_map,List.getElem?_map,List.getElem?_eq_getElem hxi,List.getElem?_eq_getElem hi,e2] at h3
  simpa using h3
 rw[World.var?_cell hg3 hv3 i,←Array.getElem?_toList,hcell,←hs]
end Go.Proofs.YtlnbmmgbfgmboaaDoor
