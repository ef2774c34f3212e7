import Derived.Test.YtlnbmmgbfgmboaaGreatDoorQa
import Derived.Test.YtlnbmmgbfgmboaaGreatDoorTokLeafG
import Derived.Deep.QuietTactic
import Derived.BigQuiet
import Derived.Deep.Draws
namespace Go.Proofs.YtlnbmmgbfgmboaaGreatDoor
open Go.RowKit
def Byt (w:World) (ao:Option Addr) (l:List UInt8):Prop :=
 ∀i (h:i<l.length),∃b off,ao=some ⟨b,off,none⟩∧w.cell? ⟨b,off+i,none⟩=some (.int .u8 (l[i].toNat:Int))
theorem Byt.later {w w':World} {ao:Option Addr} {l:List UInt8} (h:Byt w ao l) (hb:Below w.heap.size w w'):Byt w' ao l:=by
 intro i hi;obtain⟨b,off,e,hc⟩:=h i hi;exact⟨b,off,e,cell_later hb hc⟩
theorem zdy (l:List UInt8) (m:Nat) (h:m<l.length):Tk.lineLen (l.drop m)=if l[m].toNat=10 then 0 else Tk.lineLen (l.drop (m+1))+1:=by
 rw[List.drop_eq_getElem_cons h,Tk.lineLen_c]
set_option maxHeartbeats 400000 in
theorem zgA (l:List UInt8) (ao:Option Addr) (cap k:Nat) (w:World) (hB:Byt w ao l) (hk:k≤l.length) (hl:l.length≤1000000) :
  Calls Tryz.prog 86 #[.slice ao l.length cap,.int .i64 (k:Int)] w fun e w'=>e=.returned (.int .i64 ((k+Tk.lineLen (l.drop k):Nat):Int))∧w=w':=by
 have HB:=zH hB;clear hB;go_enter Tryz.func86,Tryz.ntmps86;go_wp2
 go_loop [1] (fun i=>∃m:Nat,m≤l.length∧i=.int .i64 m∧Hid (m+Tk.lineLen (l.drop m)=k+Tk.lineLen (l.drop k))) (fun i=>l.length-(intOf i).toNat)
 case atStart=>exact⟨k,hk,rfl,rfl⟩
 case round =>
  obtain⟨m,hm,rfl,hrel⟩:=hrel;by_cases hlt:m<l.length
  ·
   obtain⟨b,off,rfl,hc⟩:=HB.out m hlt;have hs:=zH (zdy l m hlt);by_cases h10:l[m].toNat=10
   ·
    have h1:((l[m].toNat:Int) != 10)=false:=by simp[h10]
    have H10:=zH h10;clear h10;go_wp2;go_ret;refine⟨zaz ?_,rfl⟩
    have:=hs.out;rw[if_pos H10.out] at this
    have:=hrel.out;omega
   ·
    have h1:((l[m].toNat:Int) != 10)=true:=by simp[bne_iff_ne];omega
    have H10:=zH h10;clear h10;go_wp2
    go_round
    case rel =>
     refine⟨m+1,by omega,by go_num,?_⟩;have h2:=hs.out;rw[if_neg H10.out] at h2;have h3:=hrel.out;show _=_;omega
    case measure=>simp[intOf];omega
  ·
   go_wp2;go_ret;refine⟨zaz ?_,rfl⟩;have h3:=hrel.out
   have:l.drop m=[]:=List.drop_eq_nil_of_le (by omega);rw[this] at h3;simp[Tk.lineLen] at h3;omega
theorem bT {a b:Int} (h:a=b):(a==b)=true:=beq_iff_eq.2 h
theorem bF {a b:Int} (h:a≠b):(a==b)=false:=beq_eq_false_iff_ne.2 h
theorem nT {a b:Int} (h:a≠b):(a != b)=true:=bne_iff_ne.2 h
theorem nF {a b:Int} (h:a=b):(a != b)=false:=by simp[h]
theorem zez (l:List UInt8) (m:Nat) (h:m<l.length) (hs:l[m].toNat=32∨l[m].toNat=9∨l[m].toNat=13∨l[m].toNat=10):Tk.skipTo l m=Tk.skipTo l (m+1):=by
 have hh:Tk.isSpc l[m]=true:=by simp[Tk.isSpc];omega
 unfold Tk.skipTo;rw[List.drop_eq_getElem_cons h,Tk.sepLen_f,if_pos hh];omega
theorem zdF (l:List UInt8) (m:Nat) (h:m<l.length) (h':m+1<l.length) (h1:l[m].toNat=47) (h2:l[m+1].toNat=47):Tk.skipTo l m=Tk.skipTo l (m+Tk.lineLen (l.drop m)):=by
 unfold Tk.skipTo;have e:l.drop m=l[m]::l[m+1]::l.drop (m+2):=by rw[List.drop_eq_getElem_cons h,List.drop_eq_getElem_cons h']
 have:=Tk.sepLen_slashes l[m] l[m+1] (l.drop (m+2)) h1 h2;rw[←e,List.drop_drop] at this;omega
theorem zfw (l:List UInt8) (m:Nat) (h:m<l.length) (hs:l[m].toNat≠32∧l[m].toNat≠9∧l[m].toNat≠13∧l[m].toNat≠10) (hc:l[m].toNat=47→(h':m+1<l.length)→l[m+1].toNat≠47):Tk.skipTo l m=m:=by
 have hh:Tk.isSpc l[m]=false:=by simp[Tk.isSpc];omega
 unfold Tk.skipTo;rw[List.drop_eq_getElem_cons h,Tk.sepLen_f,if_neg (by simp[hh]),if_neg (c:=_∧_)]
 ·
  rfl
 rintro ⟨h1,h2⟩;by_cases h':m+1<l.length
 ·
  rw[List.drop_eq_getElem_cons h'] at h2;simp only[List.head?_cons,Option.map_some,Option.some.injEq] at h2;exact hc h1 h' h2
 ·
  rw[List.drop_eq_nil_of_le (by omega)] at h2;simp at h2
theorem zgO (l:List UInt8) (m:Nat) (h:l.length≤m):Tk.skipTo l m=m:=by
 unfold Tk.skipTo;rw[List.drop_eq_nil_of_le h];rfl
theorem zeh (l:List UInt8) (m:Nat) (h:m<l.length) (h1:l[m].toNat≠10):0<Tk.lineLen (l.drop m):=by
 rw[zdy l m h,if_neg h1];omega
theorem zdK (l:List UInt8) (m:Nat) (h:m≤l.length):m+Tk.lineLen (l.drop m)≤l.length:=by
 have:=Tk.lineLen_le (l.drop m);simp at this;omega
set_option maxHeartbeats 1000000 in
theorem zgP (l:List UInt8) (ao:Option Addr) (cap:Nat) (at_:Int) (w:World) (hB:Byt w ao l) (h0:0≤at_) (hk:at_≤l.length) (hl:l.length≤1000000) :
  Calls Tryz.prog 59 #[.slice ao l.length cap,.int .i64 at_] w fun e w'=>e=.returned (.int .i64 (Tk.skipTo l at_.toNat:Int))∧w=w':=by
 obtain⟨k,rfl⟩:=Int.eq_ofNat_of_zero_le h0;have HB:=zH hB;clear hB;go_enter Tryz.func59,Tryz.ntmps59;go_wp2
 go_step3
 go_wp2
 go_step3
 go_wp2
 go_loop [1] (fun i=>∃m:Nat,m≤l.length∧i=.int .i64 m∧Hid (Tk.skipTo l m=Tk.skipTo l (k:Int).toNat)) (fun i=>l.length-(intOf i).toNat)
 case atStart=>exact⟨k,by omega,rfl,rfl⟩
 case round =>
  obtain⟨m,hm,rfl,hrel⟩:=hrel;by_cases hlt:m<l.length
  ·
   obtain⟨b,off,rfl,hc⟩:=HB.out m hlt;have HS:=zH (zez l m hlt);have HQ:=zH (zfw l m hlt);by_cases c32:l[m].toNat=32
   ·
    have t32:=bT (show ((l[m].toNat:Nat):Int)=32 by omega);have C:=zH c32;clear c32;go_wp2
    go_round
    case rel=>exact⟨m+1,by omega,by go_num,((HS.out (by have:=C.out;omega)).symm.trans hrel.out:_=_)⟩
    case measure=>simp[intOf];omega
   by_cases c9:l[m].toNat=9
   ·
    have t32:=bF (show ((l[m].toNat:Nat):Int)≠32 by omega);have t9:=bT (show ((l[m].toNat:Nat):Int)=9 by omega);have C:=zH c9;clear c9;go_wp2
    go_round
    case rel=>exact⟨m+1,by omega,by go_num,((HS.out (by have:=C.out;omega)).symm.trans hrel.out:_=_)⟩
    case measure=>simp[intOf];omega
   by_cases c13:l[m].toNat=13
   ·
    have t32:=bF (show ((l[m].toNat:Nat):Int)≠32 by omega);have t9:=bF (show ((l[m].toNat:Nat):Int)≠9 by omega);have t13:=bT (show ((l[m].toNat:Nat):Int)=13 by omega);have C:=zH c13;clear c13;go_wp2
    go_round
    case rel=>exact⟨m+1,by omega,by go_num,((HS.out (by have:=C.out;omega)).symm.trans hrel.out:_=_)⟩
    case measure=>simp[intOf];omega
   by_cases c10:l[m].toNat=10
   ·
    have t32:=bF (show ((l[m].toNat:Nat):Int)≠32 by omega);have t9:=bF (show ((l[m].toNat:Nat):Int)≠9 by omega);have t13:=bF (show ((l[m].toNat:Nat):Int)≠13 by omega);have t10:=bT (show ((l[m].toNat:Nat):Int)=10 by omega);have C:=zH c10;clear c10;go_wp2
    go_round
    case rel=>exact⟨m+1,by omega,by go_num,((HS.out (by have:=C.out;omega)).symm.trans hrel.out:_=_)⟩
    case measure=>simp[intOf];omega
   by_cases c47:l[m].toNat=47
   ·
    have t32:=bF (show ((l[m].toNat:Nat):Int)≠32 by omega);have t9:=bF (show ((l[m].toNat:Nat):Int)≠9 by omega);have t13:=bF (show ((l[m].toNat:Nat):Int)≠13 by omega);have t10:=bF (show ((l[m].toNat:Nat):Int)≠10 by omega);have t47:=bT (show ((l[m].toNat:Nat):Int)=47 by omega);by_cases hn:m+1=l.length
    ·
     have n1:=bT (show ((m:Int)+1)=(l.length:Int) by omega);have C:=zH c47;have CN:=zH hn;have CM:=zH (And.intro c32 (And.intro c9 (And.intro c13 c10)));clear c47 hn c32 c9 c13 c10;go_wp2;go_ret;exact⟨zaz (by rw[←hrel.out,HQ.out CM.out (fun _ h'=>absurd CN.out (by omega))]),rfl⟩
    ·
     have n1:=bF (show ((m:Int)+1)≠(l.length:Int) by omega);have hm1:m+1<l.length:=by omega
     obtain⟨b',off',hao,hc'⟩:=HB.out (m+1) hm1;injection hao with hao;injection hao with e1 e2;subst e1 e2;have CM:=zH (And.intro c32 (And.intro c9 (And.intro c13 c10)));have C:=zH c47;by_cases d47:l[m+1].toNat=47
     ·
      have n2:=nF (show ((l[m+1].toNat:Nat):Int)=47 by omega);have HK:=zH (zdF l m hlt hm1 c47 d47);have hp:=zeh l m hlt c10;have hd:=zdK l m hm;have HB':=HB;clear c47 hn c32 c9 c13 c10 d47;go_wp2_with (go_at_call 86;refine(zgA l _ cap m w HB'.out hm hl).mono ?_;rintro e w' ⟨rfl,rfl⟩)
      go_round
      case rel=>exact⟨m+Tk.lineLen (l.drop m),hd,rfl,(HK.out.symm.trans hrel.out:_=_)⟩
      case measure=>simp[intOf];omega
     ·
      have n2:=nT (show ((l[m+1].toNat:Nat):Int)≠47 by omega);have D:=zH d47;clear c47 hn c32 c9 c13 c10 d47;go_wp2;go_ret;exact⟨zaz (by rw[←hrel.out,HQ.out CM.out (fun _ _=>D.out)]),rfl⟩
   ·
    have t32:=bF (show ((l[m].toNat:Nat):Int)≠32 by omega);have t9:=bF (show ((l[m].toNat:Nat):Int)≠9 by omega);have t13:=bF (show ((l[m].toNat:Nat):Int)≠13 by omega);have t10:=bF (show ((l[m].toNat:Nat):Int)≠10 by omega);have t47:=bF (show ((l[m].toNat:Nat):Int)≠47 by omega);have CM:=zH (And.intro c32 (And.intro c9 (And.intro c13 c10)));have C:=zH c47;clear c47 c32 c9 c13 c10;go_wp2;go_ret;exact⟨zaz (by rw[←hrel.out,HQ.out CM.out (fun h=>absurd h C.out)]),rfl⟩
  ·
   have hlt':l.length≤m:=by omega
   have HE:=zH (zgO l m hlt');go_wp2;go_ret;exact⟨zaz (by rw[←hrel.out,HE.out]),rfl⟩
def StrS (w:World) (A:Option Addr) (xs:List (List UInt8)):Prop :=
 ∀i (h:i<xs.length),∃b off,A=some ⟨b,off,none⟩∧w.cell? ⟨b,off+i,none⟩=some (.string ⟨xs[i].toArray⟩)
def hasB (xs:List (List UInt8)) (s:List UInt8):Bool:=xs.contains s
theorem zgy (xs:List (List UInt8)) (s:List UInt8) (m:Nat) (h:m<xs.length) (h0:hasB (xs.take m) s=false) (h1:(xs[m]==s)=false):hasB (xs.take (m+1)) s=false:=by
 unfold hasB at *;rw[List.take_succ_eq_append_getElem h,List.contains_eq_mem];rw[List.contains_eq_mem] at h0;simp only[decide_eq_false_iff_not,List.mem_append,List.mem_singleton,not_or] at h0 ⊢;exact⟨h0,fun e=>by simp[e] at h1⟩
theorem in_at (xs:List (List UInt8)) (s:List UInt8) (m:Nat) (h:m<xs.length) (h1:(xs[m]==s)=true):hasB xs s=true:=by
 unfold hasB;simp at h1 ⊢;rw[←h1];exact List.getElem_mem h
set_option maxHeartbeats 400000 in
theorem zgE (xs:List (List UInt8)) (s:List UInt8) (A:Option Addr) (cap:Nat) (w:World) (hS:StrS w A xs) (hn:xs.length≤1000000) :
  Calls Tryz.prog 44 #[.slice A xs.length cap,.string ⟨s.toArray⟩] w fun e w'=>e=.returned (.bool (hasB xs s))∧w=w':=by
 have HS:=zH hS;clear hS;go_enter Tryz.func44,Tryz.ntmps44;go_wp2
 go_loop [5] (fun i=>∃m:Nat,m≤xs.length∧i=.int .i64 m∧Hid (hasB (xs.take m) s=false)) (fun i=>xs.length-(intOf i).toNat)
 case atStart=>exact⟨0,by omega,rfl,rfl⟩
 case round =>
  obtain⟨m,hm,rfl,hrel⟩:=hrel;by_cases hlt:m<xs.length
  ·
   obtain⟨b,off,rfl,hc⟩:=HS.out m hlt;by_cases he:(xs[m]==s)=true
   ·
    have HE:=zH (in_at xs s m hlt he);go_wp2;go_ret;exact⟨zao HE.out.symm,rfl⟩
   ·
    have he':(xs[m]==s)=false:=by simpa using he
    clear he;have HE:=zH (zgy xs s m hlt hrel.out he');go_wp2
    go_round
    case rel=>exact⟨m+1,by omega,by go_num,HE⟩
    case measure=>simp[intOf];omega
  ·
   have HE:Hid (hasB xs s=false):=by
    have:=hrel.out;rw[List.take_of_length_le (by omega)] at this;exact this
   go_wp2;go_ret;exact⟨zao HE.out.symm,rfl⟩
def zhW (xs:List (List UInt8)):Array Value:=(xs.map fun s=>Value.string ⟨s.toArray⟩).toArray
theorem zeY (w:World) (xs:List (List UInt8)) (t:TypeId):StrS (w.alloc (.cells (zhW xs) t)) (some ⟨w.heap.size,0,none⟩) xs:=by
 intro i hi;refine⟨_,_,rfl,?_⟩;rw[Nat.zero_add,World.cell?_alloc_mark];simp[zhW,List.getElem?_eq_getElem hi]
set_option maxHeartbeats 400000 in
theorem zcd (s:List UInt8) (w:World) :
  Calls Tryz.prog 21 #[.string ⟨s.toArray⟩] w fun e w'=>e=.returned (.bool (Tk.resv s))∧Below w.heap.size w w':=by
 have HH:=zH (zgE Tk.words s (some ⟨w.heap.size,0,none⟩) 11 _ (zeY w Tk.words 9) (by decide));go_enter Tryz.func21,Tryz.ntmps21;go_wp2_with fail;refine HH.out.mono ?_;rintro e w' ⟨rfl,rfl⟩;go_wp2;go_ret;exact⟨rfl,(Below.refl _ _).alloc (lR _) _⟩
set_option maxHeartbeats 400000 in
theorem zb6 (c:UInt8) (w:World) :
  Calls Tryz.prog 19 #[.int .u8 (c.toNat:Int)] w fun e w'=>e=.returned (.bool (Tk.isLet c))∧w=w':=by
 go_enter Tryz.func19,Tryz.ntmps19;go_wp2
 all_goals
  go_ret;refine⟨zao ?_,rfl⟩;rw[Bool.eq_iff_iff];simp[Tk.isLet];omega
set_option maxHeartbeats 400000 in
theorem zbR (c:UInt8) (w:World) :
  Calls Tryz.prog 20 #[.int .u8 (c.toNat:Int)] w fun e w'=>e=.returned (.bool (Tk.isDig c))∧w=w':=by
 go_enter Tryz.func20,Tryz.ntmps20;go_wp2
 all_goals
  go_ret;refine⟨zao ?_,rfl⟩;rw[Bool.eq_iff_iff];simp[Tk.isDig];omega
def zdh (x:Int) (n:Nat):Nat:=(x % (n:Int)).toNat
theorem zfs (x:Int) (n:Nat) (h:0<n):zdh x n<n:=by
 unfold zdh;have h1:=Int.emod_lt_of_pos x (show (0:Int)<n by omega);omega
theorem zft (x n:Int) (h:0<n):(x.tmod n+n) % n=(zdh x n.toNat:Int):=by
 unfold zdh;have h1:=Int.emod_nonneg x (show n≠0 by omega);have h2:x=x.tmod n+n*x.tdiv n:=by have:=Int.mul_tdiv_add_tmod x n;omega
 have h3:(n.toNat:Int)=n:=by omega
 rw[h3,Int.toNat_of_nonneg h1,Int.add_emod_right]
 conv=>rhs;rw[h2]
 rw[Int.add_mul_emod_self_left]
set_option maxHeartbeats 400000 in
theorem zex (x n:Int) (w:World) (_hx:-9223372036854775808≤x∧x≤9223372036854775807) (h0:0<n) (h1:n≤1000000) :
  Calls Tryz.prog 6 #[.int .i64 x,.int .i64 n] w fun e w'=>e=.returned (.int .i64 (zdh x n.toNat))∧w=w':=by
 have q1:x.tmod n<n:=Int.tmod_lt_of_pos x h0;have q2:-n<x.tmod n:=Int.lt_tmod_of_pos x h0;have t0:=bF (show n≠0 by omega);go_enter Tryz.func6,Tryz.ntmps6;go_wp2;go_ret;exact⟨zaz (zft x n h0),rfl⟩
def IntS (w:World) (A:Option Addr) (xs:List Int):Prop :=
 ∀i (h:i<xs.length),∃b off,A=some ⟨b,off,none⟩∧w.cell? ⟨b,off+i,none⟩=some (.int .i64 xs[i])
theorem IntS.later {w w':World} {A:Option Addr} {xs:List Int} (h:IntS w A xs) (hb:Below w.heap.size w w'):IntS w' A xs:=by
 intro i hi;obtain⟨b,off,e,hc⟩:=h i hi;exact⟨b,off,e,cell_later hb hc⟩
theorem StrS.later {w w':World} {A:Option Addr} {xs:List (List UInt8)} (h:StrS w A xs) (hb:Below w.heap.size w w'):StrS w' A xs:=by
 intro i hi;obtain⟨b,off,e,hc⟩:=h i hi;exact⟨b,off,e,cell_later hb hc⟩
def sgS:Int→List (List UInt8)
 | 0=>[[124,124]]
 | 1=>[[38,38]]
 | 2=>[[61,61],[33,61],[60],[60,61],[62],[62,61]]
 | 3=>[[43],[45]]
 | _=>[[42],[47],[37]]
def sgO:Int→List Int
 | 0=>[17]
 | 1=>[16]
 | 2=>[14,15,10,11,12,13]
 | 3=>[8,9]
 | _=>[5,6,7]
def zgb (w:World) (level:Int) (e:Ending) (w':World):Prop :=
 ∃b b',e=.returned (.tuple #[.slice (some ⟨b,0,none⟩) (sgS level).length (sgS level).length,.slice (some ⟨b',0,none⟩) (sgO level).length (sgO level).length]) ∧
  StrS w' (some ⟨b,0,none⟩) (sgS level)∧IntS w' (some ⟨b',0,none⟩) (sgO level)∧Below w.heap.size w w'
theorem zcY (w:World) (xs:List (List UInt8)) (vs:Array Value) (hv:vs=(xs.map fun s=>Value.string ⟨s.toArray⟩).toArray) (o:Obj) (t:TypeId):StrS ((w.alloc (.cells vs t)).alloc o) (some ⟨w.heap.size,0,none⟩) xs:=by
 subst hv;exact(zeY w xs t).later ((Below.refl _ _).alloc (lR _) _)
theorem zd4 (w:World) (xs:List Int) (vs:Array Value) (hv:vs=(xs.map fun s=>Value.int .i64 s).toArray) (g:Nat) (hg:g=w.heap.size) (t:TypeId):IntS (w.alloc (.cells vs t)) (some ⟨g,0,none⟩) xs:=by
 subst hv hg;intro i hi;refine⟨_,_,rfl,?_⟩;rw[Nat.zero_add,World.cell?_alloc_mark];simp[List.getElem?_eq_getElem hi]
set_option maxHeartbeats 1000000 in
theorem zfy (level:Int) (w:World):Calls Tryz.prog 102 #[.int .i64 level] w (zgb w level):=by
 by_cases h0:level=0
 ·
  subst h0;go_enter Tryz.func102,Tryz.ntmps102;go_wp2
  go_ret2
  exact⟨_,_,rfl,zcY _ _ _ rfl _ _,zd4 _ _ _ rfl _ (by simp) _,((Below.refl _ _).alloc (lR _) _).alloc (by simp) _⟩
 ·
  have t0:=bF h0;by_cases h1:level=1
  ·
   subst h1;clear h0;go_enter Tryz.func102,Tryz.ntmps102;go_wp2
   go_ret2
   exact⟨_,_,rfl,zcY _ _ _ rfl _ _,zd4 _ _ _ rfl _ (by simp) _,((Below.refl _ _).alloc (lR _) _).alloc (by simp) _⟩
  ·
   have t1:=bF h1;by_cases h2:level=2
   ·
    subst h2;clear h0 h1;go_enter Tryz.func102,Tryz.ntmps102;go_wp2
    go_ret2
    exact⟨_,_,rfl,zcY _ _ _ rfl _ _,zd4 _ _ _ rfl _ (by simp) _,((Below.refl _ _).alloc (lR _) _).alloc (by simp) _⟩
   ·
    have t2:=bF h2;by_cases h3:level=3
    ·
     subst h3;clear h0 h1 h2;go_enter Tryz.func102,Tryz.ntmps102;go_wp2
     go_ret2
     exact⟨_,_,rfl,zcY _ _ _ rfl _ _,zd4 _ _ _ rfl _ (by simp) _,((Below.refl _ _).alloc (lR _) _).alloc (by simp) _⟩
    ·
     have t3:=bF h3;have e1:sgS level=[[42],[47],[37]]:=by
      unfold sgS;split<;>simp_all
     have e2:sgO level=[5,6,7]:=by
      unfold sgO;split<;>simp_all
     have E1:=zH e1;have E2:=zH e2;clear e1 e2 h0 h1 h2 h3;go_enter Tryz.func102,Tryz.ntmps102;go_wp2
     go_ret2
     unfold zgb;rw[E1.out,E2.out];exact⟨_,_,rfl,zcY _ _ _ rfl _ _,zd4 _ _ _ rfl _ (by simp) _,((Below.refl _ _).alloc (lR _) _).alloc (by simp) _⟩
def strV (op:Int):Nat :=
 if op=17 then 0 else if op=16 then 1 else if 10≤op∧op≤15 then 2 else if op=8∨op=9 then 3 else if 5≤op∧op≤7 then 4 else if op=3∨op=4 then 5 else 6
theorem zhV (op:Int) (k:Nat) (hk:k<5) (h:op∈sgO (k:Int)):strV op=k:=by
 have hc:k=0∨k=1∨k=2∨k=3∨k=4:=by omega
 rcases hc with rfl|rfl|rfl|rfl|rfl<;>simp[sgO] at h
 ·
  subst h;decide
 ·
  subst h;decide
 ·
  rcases h with h|h|h|h|h|h<;>subst h<;>decide
 ·
  rcases h with h|h<;>subst h<;>decide
 ·
  rcases h with h|h|h<;>subst h<;>decide
theorem str_none (op:Int) (h:∀j:Nat,j<5→op∉sgO (j:Int)):strV op=if op=3∨op=4 then 5 else 6:=by
 have h0:=h 0 (by omega);have h1:=h 1 (by omega);have h2:=h 2 (by omega);have h3:=h 3 (by omega);have h4:=h 4 (by omega);simp[sgO] at h0 h1 h2 h3 h4;unfold strV;rw[if_neg (by omega),if_neg (by omega),if_neg (by omega),if_neg (by omega),if_neg (by omega)]
theorem zi2 (level:Int):(sgO level).length≤6:=by
 unfold sgO;split<;>simp
theorem zeM (xs:List Int) (s:Int) (m:Nat) (h:m<xs.length) (h0:s∉xs.take m) (h1:xs[m]≠s):s∉xs.take (m+1):=by
 rw[List.take_succ_eq_append_getElem h];simp only[List.mem_append,List.mem_singleton,not_or];exact⟨h0,fun e=>h1 e.symm⟩
set_option maxHeartbeats 1000000 in
theorem zbO (op:Int) (w:World):Calls Tryz.prog 106 #[.int .i64 op] w fun e w'=>e=.returned (.int .i64 (strV op:Int))∧Below w.heap.size w w':=by
 go_enter Tryz.func106,Tryz.ntmps106;go_wp2
 go_loopw [3,4,5,6] (fun i _ _ _ wr=>∃k:Nat,k≤5∧i=.int .i64 k∧Hid (∀j:Nat,j<k→op∉sgO (j:Int))∧Below w.heap.size w wr) (fun i _ _ _ _=>5-(intOf i).toNat)
 case atStart=>exact⟨0,by omega,rfl,fun j hj=>absurd hj (by omega),Below.refl _ _⟩
 case round =>
  obtain⟨k,hk,rfl,hno,hbel⟩:=hrel;have HBE:=zH hbel;clear hbel;by_cases hk5:k<5
  ·
   go_wp2_with fail;refine(zfy _ _).mono ?_;rintro e w1 ⟨b,b',rfl,-,hI,hb1⟩;have HI:=zH hI;have HB1:=zH (HBE.out.trans (hb1.mono HBE.out.size));clear hI hb1;have hl6:=zi2 (k:Int);have HF:=zH (zhV op k hk5);obtain⟨L,hL⟩:∃L,L=sgO (k:Int):=⟨_,rfl⟩;have HLL:=zH hL;rw[←hL] at HI HF hl6 ⊢;clear hL;go_wp2
   go_loop [6] (fun i=>∃m:Nat,m≤L.length∧i=.int .i64 m∧Hid (op∉L.take m)) (fun i=>L.length-(intOf i).toNat)
   case atStart=>exact⟨0,by omega,rfl,by show _∉_;simp⟩
   case round =>
    obtain⟨m,hm,rfl,hrel2⟩:=hrel;by_cases hlt:m<L.length
    ·
     obtain⟨b2,off,hA,hc⟩:=HI.out m hlt;injection hA with hA;injection hA with e1 e2;subst e1 e2;rw[Nat.zero_add] at hc;by_cases he:L[m]=op
     ·
      have HE:Hid (strV op=k):=HF.out (by rw[←he];exact List.getElem_mem hlt);have t1:=bT he;clear he;go_wp2;go_ret;exact⟨zaz (by rw[HE.out]),HB1.out⟩
     ·
      have t1:=bF he;have HE:=zH (zeM L op m hlt hrel2.out he);clear he;go_wp2
      go_round
      case rel=>exact⟨m+1,by omega,by go_num,HE⟩
      case measure=>simp[intOf];omega
    ·
     have HE:Hid (op∉L):=by
      have:=hrel2.out;rw[List.take_of_length_le (by omega)] at this;exact this
     go_wp2;go_roundw
     case rel =>
      refine⟨k+1,by omega,by go_num,?_,HB1.out⟩;intro j hj;by_cases hjk:j=k
      ·
       subst hjk;rw[←HLL.out];exact HE.out
      ·
       exact hno.out j (by omega)
     case measure=>simp[intOf];omega
  ·
   have hke:k=5:=by omega
   subst hke;have HN:=zH (str_none op hno.out);by_cases h3:op=3
   ·
    have t3:=bT h3;have HN':Hid (strV op=5):=by rw[HN.out,if_pos (.inl h3)];rfl
    clear h3;go_wp2;go_ret;exact⟨zaz (by rw[HN'.out];rfl),HBE.out⟩
   ·
    have t3:=bF h3;by_cases h4:op=4
    ·
     have t4:=bT h4;have HN':Hid (strV op=5):=by rw[HN.out,if_pos (.inr h4)];rfl
     clear h3 h4;go_wp2;go_ret;exact⟨zaz (by rw[HN'.out];rfl),HBE.out⟩
    ·
     have t4:=bF h4;have HN':Hid (strV op=6):=by rw[HN.out,if_neg (by omega)];rfl
     clear h3 h4;go_wp2;go_ret;exact⟨zaz (by rw[HN'.out];rfl),HBE.out⟩
def Src (w:World) (g:Nat) (xs:List Int) (i:Nat):Prop :=
 ∃A c,w.heap[g]?=some (.cells #[.slice A xs.length c,.int .i64 (i:Int)] 83 (0,0))∧i≤xs.length∧xs.length≤1000 ∧
  ∀k (h:k<xs.length),∃b off,A=some ⟨b,off,none⟩∧b<g∧w.cell? ⟨b,off+k,none⟩=some (.int .i64 xs[k])∧-9223372036854775808≤xs[k]∧xs[k]≤9223372036854775807
def zad (xs:List Int) (i n:Nat):Nat:=if h:i<xs.length then zdh xs[i] n else 0
def zaf (xs:List Int) (i:Nat):Nat:=if i<xs.length then i+1 else i
set_option maxHeartbeats 400000 in
theorem zhg (x n:Int) (w:World) (_hx:-9223372036854775808≤x∧x≤9223372036854775807) (h0:0<n) (_h1:n≤4611686018427387904) :
  Calls Tryz.prog 6 #[.int .i64 x,.int .i64 n] w fun e w'=>e=.returned (.int .i64 (zdh x n.toNat))∧w=w':=by
 have q1:x.tmod n<n:=Int.tmod_lt_of_pos x h0;have q2:-n<x.tmod n:=Int.lt_tmod_of_pos x h0;have t0:=bF (show n≠0 by omega);go_enter Tryz.func6,Tryz.ntmps6;go_wp2;go_ret;exact⟨zaz (zft x n h0),rfl⟩
theorem quiet_eq {P:Program} {f:FuncId} {args:Array Value} {w:World} {n:Nat} {v:Value}
  (h:Calls P f args (w.drewN n) fun e w'=>e=.returned v∧w.drewN n=w'):Calls P f args (w.drewN n) fun e w''=>e=.returned v∧∃m,w''=w.drewN m :=
 h.mono fun _ _ ⟨he,hm⟩=>⟨he,n,hm.symm⟩
theorem src_step {w:World} {g:Nat} {xs:List Int} {i:Nat} (hS:Src w g xs i) (j n m:Nat) (hj:j≤xs.length):Src (((w.drewN n).setCell ⟨g,1,none⟩ (.int .i64 (j:Int))).drewN m) g xs j:=by
 obtain⟨A,c,hb,_,hx,hc⟩:=hS;refine⟨A,c,?_,hj,hx,?_⟩
 ·
  show ((w.drewN n).setCell ⟨g,1,none⟩ (.int .i64 (j:Int))).heap[g]?=_;have hb':(w.drewN n).heap[g]?=some (.cells #[.slice A xs.length c,.int .i64 (i:Int)] 83 (0,0)):=hb;simp[World.setCell,Array.getElem?_modify];exact⟨_,hb',rfl⟩
 ·
  intro k hk;obtain⟨b,off,e,hbg,hcc,r⟩:=hc k hk;refine⟨b,off,e,hbg,?_,r⟩
  have:(((w.drewN n).setCell ⟨g,1,none⟩ (.int .i64 (j:Int))).drewN m).cell? ⟨b,off+k,none⟩=(w.drewN n).cell? ⟨b,off+k,none⟩ :=
   World.cell?_of_block (Below.heap_setCell (w.drewN n) _ _ b (by simp;omega))
  rw[this];exact hcc
theorem zhE (w:World) (g:Nat) (u:Value) (n m:Nat):w.grownBy (((w.drewN n).setCell ⟨g,1,none⟩ u).drewN m) (some g):=by
 refine⟨rfl,rfl,rfl,?_,?_⟩
 ·
  show w.heap.size≤((w.drewN n).setCell ⟨g,1,none⟩ u).heap.size;simp[World.setCell]
 ·
  intro k _ hk;exact Below.heap_setCell (w.drewN n) _ _ k (by simp;exact fun h=>hk (by rw[h]))
set_option maxRecDepth 100000 in
set_option maxHeartbeats 1000000 in
theorem zaq (w:World) (g:Nat) (xs:List Int) (i:Nat) (n:Int) (hS:Src w g xs i) (h0:0<n) (h1:n≤4611686018427387904) :
  Calls Tryz.prog 32 #[.pointer (some ⟨g,0,none⟩),.int .i64 n] w fun e w'=>e=.returned (.int .i64 (zad xs i n.toNat:Int))∧Src w' g xs (zaf xs i)∧w.grownBy w' (some g):=by
 obtain⟨A,c,hb,hi,hx,hc⟩:=hS;have q0:w.cell? ⟨g,0,none⟩=some (.slice A xs.length c):=by rw[cell_of_row w g 0 _ _ _ hb];rfl
 have q1:w.cell? ⟨g,1,none⟩=some (.int .i64 (i:Int)):=by rw[cell_of_row w g 1 _ _ _ hb];rfl
 have f1:w.frozen? ⟨g,1,none⟩=false:=by simp[World.frozen?,hb]
 have HS:Hid (Src w g xs i):=⟨A,c,hb,hi,hx,hc⟩;have HC:=zH hc;clear hb hc;by_cases hlt:i<xs.length
 ·
  obtain⟨b,off,rfl,hbg,hcc,r1,r2⟩:=HC.out i hlt;have hne:b≠g:=by omega
  have d1:decide ((i:Int)≥(xs.length:Int))=false:=by simp;omega
  go_enter Tryz.func32,Tryz.ntmps32;go_wp2
  go_quiet (fail)
  go_wp2;have hstep:=fun m=>src_step HS.out (i+1) nq m (by omega);have hgrow:=fun m=>zhE w g (.int .i64 ((i+1:Nat):Int)) nq m;have k0:((w.drewN nq).setCell ⟨g,1,none⟩ (.int .i64 ((i:Int)+1))).cell? ⟨g,0,none⟩=some (.slice (some ⟨b,off,none⟩) xs.length c):=by
   rw[World.cell?_setCell_other _ _ _ _ (by intro e;injection e with _ e2;cases e2)];exact q0
  have k1:((w.drewN nq).setCell ⟨g,1,none⟩ (.int .i64 ((i:Int)+1))).cell? ⟨g,1,none⟩=some (.int .i64 ((i:Int)+1)):=World.cell?_setCell_same _ _ _ q1;have k2:((w.drewN nq).setCell ⟨g,1,none⟩ (.int .i64 ((i:Int)+1))).cell? ⟨b,off+i,none⟩=some (.int .i64 xs[i]):=(World.cell?_of_block (Below.heap_setCell (w.drewN nq) _ _ b (by simp;omega))).trans hcc;rw[show (((i+1:Nat):Int))=(i:Int)+1 by omega] at hstep hgrow;have HST:=zH hstep;have HGR:=zH hgrow;clear hstep hgrow q0 q1 f1 hcc;generalize (w.drewN nq).setCell ⟨g,1,none⟩ (.int .i64 ((i:Int)+1))=W1 at *
  go_quiet ((go_at_call 6;exact quiet_eq (zhg _ _ _ ⟨r1,r2⟩ h0 h1)))
  go_wp2;go_ret;refine⟨zaz ?_,?_,?_⟩
  ·
   unfold zad;rw[dif_pos hlt]
  ·
   unfold zaf;rw[if_pos hlt];exact HST.out _
  ·
   exact HGR.out _
 ·
  have d1:decide (xs.length≤i)=true:=by simp;omega
  go_enter Tryz.func32,Tryz.ntmps32;go_wp2
  go_quiet (fail)
  go_wp2;go_ret;refine⟨zaz ?_,?_,?_⟩
  ·
   unfold zad;rw[dif_neg hlt];rfl
  ·
   unfold zaf;rw[if_neg hlt];exact HS.out
  ·
   exact⟨rfl,rfl,rfl,lR _,fun _ _ _=>rfl⟩
def numG (xs:List Int) (i:Nat):Nat × Nat :=
 if zad xs i 8=1 then (zad xs (zaf xs i) 4611686018427387904,zaf xs (zaf xs i)) else (zad xs (zaf xs i) 4,zaf xs (zaf xs i))
theorem zav (xs:List Int) (i n:Nat) (h:0<n):zad xs i n<n:=by
 unfold zad;split
 ·
  exact zfs _ _ h
 ·
  exact h
theorem za0 {a b c:World} {r:Option Nat} (h:a.grownBy b r) (k:b.grownBy c r):a.grownBy c r :=
 ⟨k.os.trans h.os,k.tape.trans h.tape,k.output.trans h.output,Nat.le_trans h.size k.size,fun i hi hr=>(k.block i (Nat.lt_of_lt_of_le hi h.size) hr).trans (h.block i hi hr)⟩
set_option maxRecDepth 100000 in
set_option maxHeartbeats 1000000 in
theorem zcZ (w:World) (g:Nat) (xs:List Int) (i:Nat) (hS:Src w g xs i) :
  Calls Tryz.prog 107 #[.pointer (some ⟨g,0,none⟩)] w fun e w'=>e=.returned (.int .i64 ((numG xs i).1:Int))∧Src w' g xs (numG xs i).2∧w.grownBy w' (some g):=by
 have HS:=zH hS;clear hS;by_cases h8:zad xs i 8=1
 ·
  have HR:Hid (numG xs i=(zad xs (zaf xs i) 4611686018427387904,zaf xs (zaf xs i))):=by unfold numG;rw[if_pos h8];rfl
  have t1:=bT (show ((zad xs i 8:Nat):Int)=1 by omega);clear h8;go_enter Tryz.func107,Tryz.ntmps107;go_wp2_with fail;refine(zaq w g xs i 8 HS.out (by omega) (by omega)).mono ?_;rintro e w1 ⟨rfl,hS1,hg1⟩;rw[show (8:Int).toNat=8 from rfl];have HS1:=zH hS1;have HG1:=zH hg1;clear hS1 hg1;go_wp2_with fail;refine(zaq w1 g xs _ 4611686018427387904 HS1.out (by omega) (by omega)).mono ?_;rintro e w2 ⟨rfl,hS2,hg2⟩;have HS2:=zH hS2;have HG2:=zH hg2;clear hS2 hg2;go_wp2_with fail;go_ret;rw[HR.out];exact⟨rfl,HS2.out,za0 HG1.out HG2.out⟩
 ·
  have HR:Hid (numG xs i=(zad xs (zaf xs i) 4,zaf xs (zaf xs i))):=by unfold numG;rw[if_neg h8];rfl
  have t1:=bF (show ((zad xs i 8:Nat):Int)≠1 by omega);clear h8;go_enter Tryz.func107,Tryz.ntmps107;go_wp2_with fail;refine(zaq w g xs i 8 HS.out (by omega) (by omega)).mono ?_;rintro e w1 ⟨rfl,hS1,hg1⟩;rw[show (8:Int).toNat=8 from rfl];have HS1:=zH hS1;have HG1:=zH hg1;clear hS1 hg1;go_wp2_with fail;refine(zaq w1 g xs _ 4 HS1.out (by omega) (by omega)).mono ?_;rintro e w2 ⟨rfl,hS2,hg2⟩;have HS2:=zH hS2;have HG2:=zH hg2;clear hS2 hg2;go_wp2_with fail;go_ret;rw[HR.out];exact⟨rfl,HS2.out,za0 HG1.out HG2.out⟩
inductive Ex where
 | mk (op num:Int) (name:List UInt8) (args:List Ex)
structure EF where
 op:Int
 num:Int
 name:List UInt8
 A:Option Addr
 n:Nat
 c:Nat
def EF.val (f:EF):Value:=.agg #[.int .i64 f.op,.int .i64 f.num,.string ⟨f.name.toArray⟩,.slice f.A f.n f.c]
def EFat (w:World) (b o:Nat) (f:EF):Prop :=
 w.cell? ⟨b,o,none⟩=some (.int .i64 f.op)∧w.cell? ⟨b,o+1,none⟩=some (.int .i64 f.num)∧w.cell? ⟨b,o+2,none⟩=some (.string ⟨f.name.toArray⟩)∧w.cell? ⟨b,o+3,none⟩=some (.slice f.A f.n f.c)
inductive ExM (w:World) (S:Nat→Prop):Ex→EF→Prop
 | mk (op num:Int) (name:List UInt8) (args:List Ex) (A:Option Addr) (c:Nat) (F:Nat→EF)
   (hc:∀i,i<args.length→∃b off,A=some ⟨b,off,none⟩∧S b∧EFat w b (off+i*4) (F i))
   (hs:∀i (h:i<args.length),ExM w S args[i] (F i)):ExM w S (.mk op num name args) ⟨op,num,name,A,args.length,c⟩
theorem EFat.keep {w w':World} {b o:Nat} {f:EF} (h:EFat w b o f) (hk:w'.heap[b]?=w.heap[b]?):EFat w' b o f:=by
 have e:∀o',w'.cell? ⟨b,o',none⟩=w.cell? ⟨b,o',none⟩:=fun o'=>World.cell?_of_block hk;exact⟨(e _).trans h.1,(e _).trans h.2.1,(e _).trans h.2.2.1,(e _).trans h.2.2.2⟩
theorem EFat.lt {w:World} {b o:Nat} {f:EF} (h:EFat w b o f):b<w.heap.size:=World.block_lt_of_cell? _ _ h.1
theorem ExM.keep {w w':World} {S:Nat→Prop} {E:Ex} {f:EF} (h:ExM w S E f) (hk:∀b,S b→b<w.heap.size→w'.heap[b]?=w.heap[b]?):ExM w' S E f:=by
 induction h with
 | mk op num name args A c F hc hs ih =>
  refine .mk op num name args A c F (fun i hi=>?_) ih;obtain⟨b,off,e,hb,hat⟩:=hc i hi;exact⟨b,off,e,hb,hat.keep (hk b hb hat.lt)⟩
theorem ExM.more {w:World} {S S':Nat→Prop} {E:Ex} {f:EF} (h:ExM w S E f) (hS:∀b,S b→S' b):ExM w S' E f:=by
 induction h with
 | mk op num name args A c F hc hs ih =>
  refine .mk op num name args A c F (fun i hi=>?_) ih;obtain⟨b,off,e,hb,hat⟩:=hc i hi;exact⟨b,off,e,hS b hb,hat⟩
theorem ExM.grown {w w':World} {g:Nat} {E:Ex} {f:EF} (h:ExM w (g < ·) E f) (hg:w.grownBy w' (some g)):ExM w' (g < ·) E f :=
 h.keep fun b hb hlt=>hg.block b hlt (fun e=>by injection e with e;omega)
theorem ExM.leaf (w:World) (S:Nat→Prop) (op num:Int) (name:List UInt8) (A:Option Addr) (c:Nat):ExM w S (.mk op num name []) ⟨op,num,name,A,0,c⟩ :=
 .mk op num name [] A c (fun _=>⟨0,0,[],none,0,0⟩) (fun i hi=>absurd hi (by simp)) (fun i hi=>absurd hi (by simp))
theorem ExM.one {w:World} {S:Nat→Prop} {E:Ex} {f:EF} (op num:Int) (name:List UInt8) (b off c:Nat) (hS:S b) (hat:EFat w b off f) (h:ExM w S E f):ExM w S (.mk op num name [E]) ⟨op,num,name,some ⟨b,off,none⟩,1,c⟩:=by
 refine .mk op num name [E] (some ⟨b,off,none⟩) c (fun _=>f) (fun i hi=>⟨b,off,rfl,hS,?_⟩) (fun i hi=>?_)
 ·
  have:i=0:=by simpa using hi
  subst this;simpa using hat
 ·
  have:i=0:=by simpa using hi
  subst this;exact h
theorem ExM.two {w:World} {S:Nat→Prop} {E E':Ex} {f f':EF} (op num:Int) (name:List UInt8) (b off c:Nat) (hS:S b) (hat:EFat w b off f) (hat':EFat w b (off+4) f') (h:ExM w S E f) (h':ExM w S E' f'):ExM w S (.mk op num name [E,E']) ⟨op,num,name,some ⟨b,off,none⟩,2,c⟩:=by
 refine .mk op num name [E,E'] (some ⟨b,off,none⟩) c (fun i=>if i=0 then f else f') (fun i hi=>⟨b,off,rfl,hS,?_⟩) (fun i hi=>?_)
 ·
  have:i=0∨i=1:=by simp at hi;omega
  rcases this with rfl|rfl
  ·
   simpa using hat
  ·
   simpa using hat'
 ·
  have:i=0∨i=1:=by simp at hi;omega
  rcases this with rfl|rfl
  ·
   exact h
  ·
   exact h'
def StrN (w:World) (g:Nat) (A:Option Addr) (xs:List (List UInt8)):Prop :=
 ∀i (h:i<xs.length),∃b off,A=some ⟨b,off,none⟩∧b≠g∧w.cell? ⟨b,off+i,none⟩=some (.string ⟨xs[i].toArray⟩)
theorem StrN.grown {w w':World} {g:Nat} {A:Option Addr} {xs:List (List UInt8)} (h:StrN w g A xs) (hg:w.grownBy w' (some g)):StrN w' g A xs:=by
 intro i hi;obtain⟨b,off,e,hb,hc⟩:=h i hi;exact⟨b,off,e,hb,(World.cell?_of_block (hg.block b (World.block_lt_of_cell? _ _ hc) (fun e=>by injection e with e;exact hb e))).trans hc⟩
def exprG (names:List (List UInt8)) (xs:List Int):Nat→Nat→Ex × Nat
 | deep,i =>
  let k:=zad xs i 10
  let i1:=zaf xs i
  match deep with
  | 0=>leafG names xs i1
  | d+1 =>
   if k<2 then leafG names xs i1
   else if k<4 then
    let r:=exprG names xs d i1
    (.mk (3+(k % 2:Nat)) 0 [] [r.1],r.2)
   else
    let r:=exprG names xs d (zaf xs i1)
    let r':=exprG names xs d r.2
    (.mk (5+(zad xs i1 13:Nat)) 0 [] [r.1,r'.1],r'.2)
where
 leafG (names:List (List UInt8)) (xs:List Int) (i1:Nat):Ex × Nat :=
  if 0<names.length∧zad xs i1 2=1 then (.mk 2 0 (names.getD (zad xs (zaf xs i1) names.length) []) [],zaf xs (zaf xs i1))
  else let i2:=if 0<names.length then zaf xs i1 else i1
   (.mk 1 ((numG xs i2).1:Int) [] [],(numG xs i2).2)
def zhS (t:Tk.Tok):Value:=.agg #[.int .i64 (t.kind:Int),.string ⟨t.text.toArray⟩,.int .i64 (t.num:Int),.int .i64 (t.pos:Int)]
def noTok:Value:=.agg #[.int .i64 0,.string ⟨#[]⟩,.int .i64 0,.int .i64 0]
def zbl:Except Nat Tk.Tok→Value
 | .error e=>.tuple #[noTok,.int .i64 (e:Int)]
 | .ok t=>.tuple #[zhS t,.int .i64 0]
theorem zdm (p:UInt8→Bool) (l:List UInt8) (m:Nat) (h:m<l.length):((l.drop m).takeWhile p).length=if p l[m] then ((l.drop (m+1)).takeWhile p).length+1 else 0:=by
 rw[List.drop_eq_getElem_cons h,List.takeWhile_cons];split<;>simp
theorem zf2 (p:UInt8→Bool) (l:List UInt8) (m:Nat) (h:l.length≤m):((l.drop m).takeWhile p).length=0:=by
 rw[List.drop_eq_nil_of_le h];rfl
theorem zcD (p:UInt8→Bool) (s:List UInt8) (n:Nat) (h:n=(s.takeWhile p).length):s.take n=s.takeWhile p:=by
 subst h
 induction s with
 | nil=>rfl
 | cons c r ih =>
  rw[List.takeWhile_cons];split
  ·
   simp[ih]
  ·
   rfl
theorem zau (l:List UInt8) (b off k m cap':Nat) (w:World) (hB:Byt w (some ⟨b,off,none⟩) l) (hk:k≤m) (hm:m≤l.length) :
  (convert 23 9 (.slice (some ⟨b,off+k,none⟩) (m-k) cap')).run Tryz.prog w=.ok (.string ⟨((l.drop k).take (m-k)).toArray⟩) w:=by
 have hlen:((l.drop k).take (m-k)).length=m-k:=by simp;omega
 have:=run_convert_bytes_back (P:=Tryz.prog) w 23 9 5 ⟨b,off+k,none⟩ cap' ((l.drop k).take (m-k)) Tryz.underlying23 Tryz.underlying5 Tryz.underlying9 (by
  intro j hj;obtain⟨b',off',e,hc⟩:=hB (k+j) (by omega);injection e with e;injection e with e1 e2;subst e1 e2;have ha:(⟨b,off+k,none⟩:Addr).add j=⟨b,off+(k+j),none⟩:=by
   unfold Addr.add;split
   ·
    simp_all
   ·
    simp[Nat.add_assoc]
  rw[ha,hc];simp)
 rw[hlen] at this;exact this
theorem zfZ (l:List UInt8) (k m:Nat) (_hkm:k≤m) (h:m-k=((l.drop k).takeWhile Tk.isLD).length) (h16:16<(m:Int)-(k:Int)) :
  Value.tuple #[.agg #[.int .i64 0,.string ⟨#[]⟩,.int .i64 0,.int .i64 0],.int .i64 3]=zbl (Tk.nameAt l k):=by
 unfold Tk.nameAt;rw[if_pos (by omega)];rfl
theorem zd1 (l:List UInt8) (k m:Nat) (_hkm:k≤m) (h:m-k=((l.drop k).takeWhile Tk.isLD).length) (h16:(m:Int)-(k:Int)≤16) (q:Bool) (hq:Tk.resv ((l.drop k).take (m-k))=q) :
  Value.tuple #[.agg #[.int .i64 (if q then 3 else 1),.string ⟨((l.drop k).take (m-k)).toArray⟩,.int .i64 0,.int .i64 (k:Int)],.int .i64 0]=zbl (Tk.nameAt l k):=by
 have hn:Tk.nameAt l k=.ok ⟨if Tk.resv ((l.drop k).takeWhile Tk.isLD) then 3 else 1,(l.drop k).takeWhile Tk.isLD,0,k⟩:=by
  unfold Tk.nameAt;dsimp only;rw[if_neg (by omega)]
 rw[hn,←zcD Tk.isLD _ (m-k) h,hq];cases q<;>rfl
set_option maxHeartbeats 1000000 in
theorem zfB (l:List UInt8) (ao:Option Addr) (cap k:Nat) (w:World) (hB:Byt w ao l) (hk:k<l.length) (hl:l.length≤1000000) (hcap:l.length≤cap) :
  Calls Tryz.prog 88 #[.slice ao l.length cap,.int .i64 (k:Int)] w fun e w'=>e=.returned (zbl (Tk.nameAt l k))∧Below w.heap.size w w':=by
 obtain⟨b,off,rfl,hc0⟩:=hB k hk;have hbl:b<w.heap.size:=World.block_lt_of_cell? _ _ hc0;have HB:=zH hB;clear hB hc0;go_enter Tryz.func88,Tryz.ntmps88;go_wp2
 go_loop [6] (fun i=>∃m:Nat,k≤m∧m≤l.length∧i=.int .i64 m∧Hid (m+((l.drop m).takeWhile Tk.isLD).length=k+((l.drop k).takeWhile Tk.isLD).length)) (fun i=>l.length-(intOf i).toNat)
 case atStart=>exact⟨k,by omega,by omega,rfl,rfl⟩
 case round =>
  obtain⟨m,hkm,hm,rfl,hrel⟩:=hrel;by_cases hlt:m<l.length
  ·
   obtain⟨b',off',hao,hc⟩:=HB.out m hlt;injection hao with hao;injection hao with e1 e2;subst e1 e2;have hs:=zH (zdm Tk.isLD l m hlt);by_cases hL:Tk.isLet l[m]=true
   ·
    go_wp2_with (first|(go_at_call 87;refine(zbq _ _).mono ?_;rintro e w' ⟨rfl,rfl⟩))
    go_round
    case rel =>
     refine⟨m+1,by omega,by omega,by go_num,?_⟩;have h2:=hs.out;rw[if_pos (by simp[Tk.isLD,hL])] at h2;have h3:=hrel.out;show _=_;omega
    case measure=>simp[intOf];omega
   ·
    have hL':Tk.isLet l[m]=false:=by simpa using hL
    clear hL;by_cases hD:Tk.isDig l[m]=true
    ·
     go_wp2_with (first|(go_at_call 87;refine(zbq _ _).mono ?_;rintro e w' ⟨rfl,rfl⟩)|(go_at_call 89;refine(zbI _ _).mono ?_;rintro e w' ⟨rfl,rfl⟩))
     go_round
     case rel =>
      refine⟨m+1,by omega,by omega,by go_num,?_⟩;have h2:=hs.out;rw[if_pos (by simp[Tk.isLD,hD])] at h2;have h3:=hrel.out;show _=_;omega
     case measure=>simp[intOf];omega
    ·
     have hD':Tk.isDig l[m]=false:=by simpa using hD
     clear hD;have hend:m-k=((l.drop k).takeWhile Tk.isLD).length:=by
      have h2:=hs.out;rw[if_neg (by simp[Tk.isLD,hL',hD'])] at h2;have h3:=hrel.out;omega
     have HE:=zH hend;clear hend;have hcv:=fun cap'=>zau l b off k m cap' (w.alloc (.cells #[.int .i64 0,.string ⟨#[]⟩,.int .i64 0,.int .i64 0] 55)) (HB.out.later ((Below.refl _ _).alloc (lR _) _)) hkm hm;go_wp2_with (first|(go_at_call 87;refine(zbq _ _).mono ?_;rintro e w' ⟨rfl,rfl⟩)|(go_at_call 89;refine(zbI _ _).mono ?_;rintro e w' ⟨rfl,rfl⟩)|(go_at_call 66;refine(zb0 _ _).mono ?_;rintro e w' ⟨rfl,rfl⟩))
     ·
      refine bodyPost_ret (v:=.tuple #[.agg #[.int .i64 0,.string ⟨#[]⟩,.int .i64 0,.int .i64 0],.int .i64 3]) (by simp[results,Tryz.results88,go_sem]) rfl ⟨congrArg Ending.returned (zfZ l k m hkm HE.out (by assumption)),?_⟩;exact(Below.refl _ _).alloc (lR _) _
     ·
      refine bodyPost_ret (v:=.tuple #[.agg #[.int .i64 3,.string ⟨((l.drop k).take (m-k)).toArray⟩,.int .i64 0,.int .i64 (k:Int)],.int .i64 0]) (by simp[results,Tryz.results88,go_sem]) rfl ⟨congrArg Ending.returned (zd1 l k m hkm HE.out (by assumption) true (by assumption)),?_⟩;exact(Below.refl _ _).alloc (lR _) _
     ·
      refine bodyPost_ret (v:=.tuple #[.agg #[.int .i64 1,.string ⟨((l.drop k).take (m-k)).toArray⟩,.int .i64 0,.int .i64 (k:Int)],.int .i64 0]) (by simp[results,Tryz.results88,go_sem]) rfl ⟨congrArg Ending.returned (zd1 l k m hkm HE.out (by assumption) false (by assumption)),?_⟩;exact(Below.refl _ _).alloc (lR _) _
  ·
   have hend:m-k=((l.drop k).takeWhile Tk.isLD).length:=by
    have h3:=hrel.out;rw[zf2 Tk.isLD l m (by omega)] at h3;omega
   have HE:=zH hend;clear hend;have hcv:=fun cap'=>zau l b off k m cap' (w.alloc (.cells #[.int .i64 0,.string ⟨#[]⟩,.int .i64 0,.int .i64 0] 55)) (HB.out.later ((Below.refl _ _).alloc (lR _) _)) hkm hm;go_wp2_with (first|(go_at_call 66;refine(zb0 _ _).mono ?_;rintro e w' ⟨rfl,rfl⟩))
   ·
    refine bodyPost_ret (v:=.tuple #[.agg #[.int .i64 0,.string ⟨#[]⟩,.int .i64 0,.int .i64 0],.int .i64 3]) (by simp[results,Tryz.results88,go_sem]) rfl ⟨congrArg Ending.returned (zfZ l k m hkm HE.out (by assumption)),?_⟩;exact(Below.refl _ _).alloc (lR _) _
   ·
    refine bodyPost_ret (v:=.tuple #[.agg #[.int .i64 3,.string ⟨((l.drop k).take (m-k)).toArray⟩,.int .i64 0,.int .i64 (k:Int)],.int .i64 0]) (by simp[results,Tryz.results88,go_sem]) rfl ⟨congrArg Ending.returned (zd1 l k m hkm HE.out (by assumption) true (by assumption)),?_⟩;exact(Below.refl _ _).alloc (lR _) _
   ·
    refine bodyPost_ret (v:=.tuple #[.agg #[.int .i64 1,.string ⟨((l.drop k).take (m-k)).toArray⟩,.int .i64 0,.int .i64 (k:Int)],.int .i64 0]) (by simp[results,Tryz.results88,go_sem]) rfl ⟨congrArg Ending.returned (zd1 l k m hkm HE.out (by assumption) false (by assumption)),?_⟩;exact(Below.refl _ _).alloc (lR _) _
theorem num_at (l:List UInt8) (m n:Nat) (h:m<l.length) (hd:Tk.isDig l[m]=true) :
  Tk.numVal n ((l.drop m).takeWhile Tk.isDig)=if n>(9223372036854775807-(l[m].toNat-48)) / 10 then none else Tk.numVal (10*n+(l[m].toNat-48)) ((l.drop (m+1)).takeWhile Tk.isDig):=by
 rw[List.drop_eq_getElem_cons h,List.takeWhile_cons,if_pos hd];rfl
theorem num_stop (l:List UInt8) (m n:Nat) (h:m<l.length) (hd:Tk.isDig l[m]=false):Tk.numVal n ((l.drop m).takeWhile Tk.isDig)=some n:=by
 rw[List.drop_eq_getElem_cons h,List.takeWhile_cons,if_neg (by simp[hd])];rfl
theorem num_end (l:List UInt8) (m n:Nat) (h:l.length≤m):Tk.numVal n ((l.drop m).takeWhile Tk.isDig)=some n:=by
 rw[List.drop_eq_nil_of_le h];rfl
theorem ziA (l:List UInt8) (k:Nat) (h:Tk.numVal 0 ((l.drop k).takeWhile Tk.isDig)=none) :
  Value.tuple #[.agg #[.int .i64 0,.string ⟨#[]⟩,.int .i64 0,.int .i64 0],.int .i64 2]=zbl (Tk.numAt l k):=by
 have hn:Tk.numAt l k=.error 2:=by
  unfold Tk.numAt;dsimp only;rw[h]
 rw[hn];rfl
theorem zh3 (l:List UInt8) (k m n:Nat) (h:some n=Tk.numVal 0 ((l.drop k).takeWhile Tk.isDig)) (hm:m-k=((l.drop k).takeWhile Tk.isDig).length) :
  Value.tuple #[.agg #[.int .i64 2,.string ⟨((l.drop k).take (m-k)).toArray⟩,.int .i64 (n:Int),.int .i64 (k:Int)],.int .i64 0]=zbl (Tk.numAt l k):=by
 have hn:Tk.numAt l k=.ok ⟨2,(l.drop k).takeWhile Tk.isDig,n,k⟩:=by
  unfold Tk.numAt;dsimp only;rw[←h]
 rw[hn,←zcD Tk.isDig _ (m-k) hm];rfl
set_option maxHeartbeats 1000000 in
theorem zeq (l:List UInt8) (ao:Option Addr) (cap k:Nat) (w:World) (hB:Byt w ao l) (hk:k<l.length) (hl:l.length≤1000000) (hcap:l.length≤cap) :
  Calls Tryz.prog 90 #[.slice ao l.length cap,.int .i64 (k:Int)] w fun e w'=>e=.returned (zbl (Tk.numAt l k))∧Below w.heap.size w w':=by
 obtain⟨b,off,rfl,hc0⟩:=hB k hk;have hbl:b<w.heap.size:=World.block_lt_of_cell? _ _ hc0;have HB:=zH hB;clear hB hc0;go_enter Tryz.func90,Tryz.ntmps90;go_wp2
 go_loop [6,7,8] (fun i j _=>∃m n:Nat,k≤m∧m≤l.length∧n≤9223372036854775807∧i=.int .i64 m∧j=.int .i64 n∧Hid (m+((l.drop m).takeWhile Tk.isDig).length=k+((l.drop k).takeWhile Tk.isDig).length)∧Hid (Tk.numVal n ((l.drop m).takeWhile Tk.isDig)=Tk.numVal 0 ((l.drop k).takeWhile Tk.isDig))) (fun i _ _=>l.length-(intOf i).toNat)
 case atStart=>exact⟨k,0,by omega,by omega,by omega,rfl,rfl,rfl,rfl⟩
 case round =>
  obtain⟨m,n,hkm,hm,hn,rfl,rfl,hrel,hval⟩:=hrel;by_cases hlt:m<l.length
  ·
   obtain⟨b',off',hao,hc⟩:=HB.out m hlt;injection hao with hao;injection hao with e1 e2;subst e1 e2;have hs:=zH (zdm Tk.isDig l m hlt);have hu:=UInt8.toNat_lt l[m];by_cases hD:Tk.isDig l[m]=true
   ·
    have hd1:48≤(l[m].toNat:Int)∧(l[m].toNat:Int)≤57:=by simp[Tk.isDig] at hD;omega
    obtain⟨hd1,hd2⟩:=hd1;go_wp2_with (first|(go_at_call 89;refine(zbI _ _).mono ?_;rintro e w' ⟨rfl,rfl⟩))
    ·
     refine bodyPost_ret (v:=.tuple #[.agg #[.int .i64 0,.string ⟨#[]⟩,.int .i64 0,.int .i64 0],.int .i64 2]) (by simp[results,Tryz.results90,go_sem]) rfl ⟨congrArg Ending.returned (ziA l k ?_),?_⟩
     ·
      rw[←hval.out,num_at l m n hlt hD,if_pos (by omega)]
     ·
      exact(Below.refl _ _).alloc (lR _) _
    ·
     go_round
     case rel =>
      refine⟨m+1,10*n+(l[m].toNat-48),by omega,by omega,by omega,by go_num,?_,?_,?_⟩
      ·
       congr 1;omega
      ·
       have h2:=hs.out;rw[if_pos hD] at h2;have h3:=hrel.out;show _=_;omega
      ·
       have h2:=num_at l m n hlt hD;rw[if_neg (by omega)] at h2;exact(h2.symm.trans hval.out:_=_)
     case measure=>simp[intOf];omega
   ·
    have hD':Tk.isDig l[m]=false:=by simpa using hD
    clear hD;have hend:m-k=((l.drop k).takeWhile Tk.isDig).length:=by
     have h2:=hs.out;rw[if_neg (by simp[hD'])] at h2;have h3:=hrel.out;omega
    have HE:=zH hend;have HV:=zH ((num_stop l m n hlt hD').symm.trans hval.out);clear hend;have hcv:=fun cap'=>zau l b off k m cap' (w.alloc (.cells #[.int .i64 0,.string ⟨#[]⟩,.int .i64 0,.int .i64 0] 55)) (HB.out.later ((Below.refl _ _).alloc (lR _) _)) hkm hm;go_wp2_with (first|(go_at_call 89;refine(zbI _ _).mono ?_;rintro e w' ⟨rfl,rfl⟩));refine bodyPost_ret (v:=.tuple #[.agg #[.int .i64 2,.string ⟨((l.drop k).take (m-k)).toArray⟩,.int .i64 (n:Int),.int .i64 (k:Int)],.int .i64 0]) (by simp[results,Tryz.results90,go_sem]) rfl ⟨congrArg Ending.returned (zh3 l k m n HV.out HE.out),?_⟩;exact(Below.refl _ _).alloc (lR _) _
  ·
   have hend:m-k=((l.drop k).takeWhile Tk.isDig).length:=by
    have h3:=hrel.out;rw[zf2 Tk.isDig l m (by omega)] at h3;omega
   have HE:=zH hend;have HV:=zH ((num_end l m n (by omega)).symm.trans hval.out);clear hend;have hcv:=fun cap'=>zau l b off k m cap' (w.alloc (.cells #[.int .i64 0,.string ⟨#[]⟩,.int .i64 0,.int .i64 0] 55)) (HB.out.later ((Below.refl _ _).alloc (lR _) _)) hkm hm;go_wp2;refine bodyPost_ret (v:=.tuple #[.agg #[.int .i64 2,.string ⟨((l.drop k).take (m-k)).toArray⟩,.int .i64 (n:Int),.int .i64 (k:Int)],.int .i64 0]) (by simp[results,Tryz.results90,go_sem]) rfl ⟨congrArg Ending.returned (zh3 l k m n HV.out HE.out),?_⟩;exact(Below.refl _ _).alloc (lR _) _
def NoTwo (l:List UInt8) (k:Nat):Prop:=¬(k+2≤l.length∧Tk.signs2.contains ((l.drop k).take 2)=true)
def NoOne (l:List UInt8) (k:Nat):Prop:=Tk.signs1.contains ((l.drop k).take 1)=false
def Left (l:List UInt8) (k s:Nat):Prop:=s≤2∧(s≤1→NoTwo l k)∧(s=0→NoOne l k)
theorem zg2 (s:List UInt8) (h:Tk.signs2.contains s=true):s.length=2:=by
 simp[Tk.signs2] at h;rcases h with h|h|h|h|h|h<;>simp[h]
theorem zg3 (s:List UInt8) (h:Tk.signs1.contains s=true):s.length=1:=by
 simp[Tk.signs1] at h;rcases h with h|h|h|h|h|h|h|h|h|h|h|h|h|h|h|h|h<;>simp[h]
theorem sign_two (l:List UInt8) (k:Nat) (h:k+2≤l.length) (hs:Tk.isSg ((l.drop k).take 2)=true) :
  Value.tuple #[.agg #[.int .i64 4,.string ⟨((l.drop k).take 2).toArray⟩,.int .i64 0,.int .i64 (k:Int)],.int .i64 0]=zbl (Tk.signAt l k):=by
 have h2:Tk.signs2.contains ((l.drop k).take 2)=true:=by
  rw[Tk.isSg,Bool.or_eq_true] at hs;rcases hs with h2|h1
  ·
   exact h2
  ·
   have:=zg3 _ h1;simp at this;omega
 have hn:Tk.signAt l k=.ok ⟨4,(l.drop k).take 2,0,k⟩:=by
  unfold Tk.signAt;rw[if_pos ⟨h,h2⟩]
 rw[hn];rfl
theorem sign_one (l:List UInt8) (k:Nat) (_hk:k<l.length) (h:NoTwo l k) (hs:Tk.isSg ((l.drop k).take 1)=true) :
  Value.tuple #[.agg #[.int .i64 4,.string ⟨((l.drop k).take 1).toArray⟩,.int .i64 0,.int .i64 (k:Int)],.int .i64 0]=zbl (Tk.signAt l k):=by
 have h1:Tk.signs1.contains ((l.drop k).take 1)=true:=by
  rw[Tk.isSg,Bool.or_eq_true] at hs;rcases hs with h2|h1
  ·
   have:=zg2 _ h2;simp at this;omega
  ·
   exact h1
 have hn:Tk.signAt l k=.ok ⟨4,(l.drop k).take 1,0,k⟩:=by
  unfold Tk.signAt;rw[if_neg h,if_pos h1]
 rw[hn];rfl
theorem zhY (l:List UInt8) (k:Nat) (h:Left l k 0) :
  Value.tuple #[.agg #[.int .i64 0,.string ⟨#[]⟩,.int .i64 0,.int .i64 0],.int .i64 1]=zbl (Tk.signAt l k):=by
 have h1:=h.2.2 rfl;have hn:Tk.signAt l k=.error 1:=by
  unfold Tk.signAt;rw[if_neg (h.2.1 (by omega)),if_neg (by rw[h1];simp)]
 rw[hn];rfl
theorem left_two (l:List UInt8) (k:Nat):Left l k 2:=⟨by omega,fun h=>absurd h (by omega),fun h=>absurd h (by omega)⟩
theorem zhB (l:List UInt8) (k:Nat) (h:¬k+2≤l.length):Left l k 1:=⟨by omega,fun _ h'=>h h'.1,fun h=>absurd h (by omega)⟩
theorem left_one (l:List UInt8) (k:Nat) (hs:Tk.isSg ((l.drop k).take 2)=false):Left l k 1 :=
 ⟨by omega,fun _ h'=>by rw[Tk.isSg,Bool.or_eq_false_iff] at hs;rw[hs.1] at h';exact absurd h'.2 (by simp),fun h=>absurd h (by omega)⟩
theorem ziJ (l:List UInt8) (k:Nat) (h:Left l k 1) (hs:Tk.isSg ((l.drop k).take 1)=false):Left l k 0 :=
 ⟨by omega,fun _=>h.2.1 (by omega),fun _=>by rw[Tk.isSg,Bool.or_eq_false_iff] at hs;exact hs.2⟩
set_option maxHeartbeats 1000000 in
theorem zfA (l:List UInt8) (ao:Option Addr) (cap k:Nat) (w:World) (hB:Byt w ao l) (hk:k<l.length) (hl:l.length≤1000000) (hcap:l.length≤cap) :
  Calls Tryz.prog 91 #[.slice ao l.length cap,.int .i64 (k:Int)] w fun e w'=>e=.returned (zbl (Tk.signAt l k))∧Below w.heap.size w w':=by
 obtain⟨b,off,rfl,hc0⟩:=hB k hk;have hbl:b<w.heap.size:=World.block_lt_of_cell? _ _ hc0;have HB:=zH hB;clear hB hc0;go_enter Tryz.func91,Tryz.ntmps91;go_wp2
 go_loop [6,7] (fun i _=>∃s:Nat,s≤2∧i=.int .i64 s∧Hid (Left l k s)) (fun i _=>(intOf i).toNat)
 case atStart=>exact⟨2,by omega,rfl,left_two l k⟩
 case round =>
  obtain⟨s,hs,rfl,hrel⟩:=hrel;by_cases c2:s=2
  ·
   subst c2;by_cases h2:k+2≤l.length
   ·
    have hcv2:=fun cap'=>zau l b off k (k+2) cap' (w.alloc (.cells #[.int .i64 0,.string ⟨#[]⟩,.int .i64 0,.int .i64 0] 55)) (HB.out.later ((Below.refl _ _).alloc (lR _) _)) (by omega) h2;have es:k+2-k=2:=by omega
    rw[es] at hcv2;clear es;go_wp2_with (first|(go_at_call 108;refine(zeL _ _).mono ?_;rintro e w' ⟨rfl,rfl⟩))
    ·
     refine bodyPost_ret (v:=.tuple #[.agg #[.int .i64 4,.string ⟨((l.drop k).take 2).toArray⟩,.int .i64 0,.int .i64 (k:Int)],.int .i64 0]) (by simp[results,Tryz.results91,go_sem]) rfl ⟨congrArg Ending.returned (sign_two l k h2 (by assumption)),?_⟩;exact(Below.refl _ _).alloc (lR _) _
    ·
     go_round
     case rel=>exact⟨1,by omega,rfl,left_one l k (by assumption)⟩
     case measure=>simp[intOf]
   ·
    have h2':l.length<k+2:=by omega
    have HS:=zH (zhB l k h2);clear h2;go_wp2
    go_round
    case rel=>exact⟨1,by omega,rfl,HS⟩
    case measure=>simp[intOf]
  ·
   by_cases c1:s=1
   ·
    subst c1;clear c2 hs;have hcv1:=fun cap'=>zau l b off k (k+1) cap' (w.alloc (.cells #[.int .i64 0,.string ⟨#[]⟩,.int .i64 0,.int .i64 0] 55)) (HB.out.later ((Below.refl _ _).alloc (lR _) _)) (by omega) (by omega);have es:k+1-k=1:=by omega
    rw[es] at hcv1;clear es;go_wp2_with (first|(go_at_call 108;refine(zeL _ _).mono ?_;rintro e w' ⟨rfl,rfl⟩))
    ·
     refine bodyPost_ret (v:=.tuple #[.agg #[.int .i64 4,.string ⟨((l.drop k).take 1).toArray⟩,.int .i64 0,.int .i64 (k:Int)],.int .i64 0]) (by simp[results,Tryz.results91,go_sem]) rfl ⟨congrArg Ending.returned (sign_one l k hk (hrel.out.2.1 (by omega)) (by assumption)),?_⟩;exact(Below.refl _ _).alloc (lR _) _
    ·
     go_round
     case rel=>exact⟨0,by omega,rfl,ziJ l k hrel.out (by assumption)⟩
     case measure=>simp[intOf]
   ·
    have hs0:s=0:=by omega
    subst hs0;clear c1 c2 hs;go_wp2;refine bodyPost_ret (v:=.tuple #[.agg #[.int .i64 0,.string ⟨#[]⟩,.int .i64 0,.int .i64 0],.int .i64 1]) (by simp[results,Tryz.results91,go_sem]) rfl ⟨congrArg Ending.returned (zhY l k hrel.out),?_⟩;exact(Below.refl _ _).alloc (lR _) _
theorem zcP (r:Except Nat Tk.Tok):∃(K:Int) (S:ByteArray) (N P E:Int),zbl r=.tuple #[.agg #[.int .i64 K,.string S,.int .i64 N,.int .i64 P],.int .i64 E]:=by
 cases r with
 | error e=>exact⟨_,_,_,_,_,rfl⟩
 | ok t=>exact⟨_,_,_,_,_,rfl⟩
theorem zaX {w w2:World} {c0 c1 c2 c3:Value} {t:TypeId} (hb:Below (w.alloc (.cells #[c0,c1,c2,c3] t)).heap.size (w.alloc (.cells #[c0,c1,c2,c3] t)) w2) :
  w2.cell? ⟨w.heap.size,0,none⟩=some c0∧w2.cell? ⟨w.heap.size,1,none⟩=some c1∧w2.cell? ⟨w.heap.size,2,none⟩=some c2∧w2.cell? ⟨w.heap.size,3,none⟩=some c3 ∧
  w2.frozen? ⟨w.heap.size,0,none⟩=false∧w2.frozen? ⟨w.heap.size,1,none⟩=false∧w2.frozen? ⟨w.heap.size,2,none⟩=false∧w2.frozen? ⟨w.heap.size,3,none⟩=false∧w.heap.size<w2.heap.size:=by
 have hs:w.heap.size<(w.alloc (.cells #[c0,c1,c2,c3] t)).heap.size:=by simp
 refine⟨?_,?_,?_,?_,?_,?_,?_,?_,Nat.lt_of_lt_of_le hs hb.size⟩
 ·
  rw[hb.cell hs,World.cell?_alloc_mark];rfl
 ·
  rw[hb.cell hs,World.cell?_alloc_mark];rfl
 ·
  rw[hb.cell hs,World.cell?_alloc_mark];rfl
 ·
  rw[hb.cell hs,World.cell?_alloc_mark];rfl
 ·
  rw[hb.frozen hs,World.frozen?_alloc_mark];rfl
 ·
  rw[hb.frozen hs,World.frozen?_alloc_mark];rfl
 ·
  rw[hb.frozen hs,World.frozen?_alloc_mark];rfl
 ·
  rw[hb.frozen hs,World.frozen?_alloc_mark];rfl
set_option maxHeartbeats 1000000 in
theorem zf1 (l:List UInt8) (ao:Option Addr) (cap k:Nat) (w:World) (hB:Byt w ao l) (hk:k<l.length) (hl:l.length≤1000000) (hcap:l.length≤cap) :
  Calls Tryz.prog 60 #[.slice ao l.length cap,.int .i64 (k:Int)] w fun e w'=>e=.returned (zbl (Tk.tokAt l k))∧Below w.heap.size w w':=by
 obtain⟨b,off,rfl,hc⟩:=hB k hk;have hbl:b<w.heap.size:=World.block_lt_of_cell? _ _ hc;have hg:l.getD k 0=l[k]:=by simp[List.getD,List.getElem?_eq_getElem hk]
 have HG:=zH hg;have HB:=zH hB;clear hB hg;have HW:=zH (HB.out.later ((Below.refl _ _).alloc (lR _) (.cells #[.int .i64 0,.string ⟨#[]⟩,.int .i64 0,.int .i64 0] 55)));by_cases hL:Tk.isLet l[k]=true
 ·
  have HT:Hid (Tk.tokAt l k=Tk.nameAt l k):=by unfold Tk.tokAt;rw[HG.out,if_pos hL];rfl
  obtain⟨K,S,N,P,E,hv⟩:=zcP (Tk.nameAt l k);have HV:=zH hv;clear hv;go_enter Tryz.func60,Tryz.ntmps60;go_wp2_with (first|(go_at_call 87;refine(zbq _ _).mono ?_;rintro e w' ⟨rfl,rfl⟩)|(go_at_call 88;refine(zfB l _ cap k _ HW.out hk hl hcap).mono ?_;rintro e w2 ⟨rfl,hb⟩;rw[HV.out];obtain⟨q0,q1,q2,q3,f0,f1,f2,f3,hz⟩:=zaX hb));refine bodyPost_ret (v:=.tuple #[.agg #[.int .i64 K,.string S,.int .i64 N,.int .i64 P],.int .i64 E]) (by simp[results,Tryz.results60,go_sem,q0,q1,q2,q3]) rfl ⟨by rw[HT.out,HV.out],?_⟩;exact(((((Below.refl _ _).alloc (lR _) _).trans (hb.mono (by simp))).setCell (lR _) _).setCell (lR _) _ |>.setCell (lR _) _).setCell (lR _) _
 ·
  have hL':Tk.isLet l[k]=false:=by simpa using hL
  clear hL;by_cases hD:Tk.isDig l[k]=true
  ·
   have HT:Hid (Tk.tokAt l k=Tk.numAt l k):=by unfold Tk.tokAt;rw[HG.out,if_neg (by simp[hL']),if_pos hD];rfl
   obtain⟨K,S,N,P,E,hv⟩:=zcP (Tk.numAt l k);have HV:=zH hv;clear hv;go_enter Tryz.func60,Tryz.ntmps60;go_wp2_with (first|(go_at_call 87;refine(zbq _ _).mono ?_;rintro e w' ⟨rfl,rfl⟩)|(go_at_call 89;refine(zbI _ _).mono ?_;rintro e w' ⟨rfl,rfl⟩)|(go_at_call 90;refine(zeq l _ cap k _ HW.out hk hl hcap).mono ?_;rintro e w2 ⟨rfl,hb⟩;rw[HV.out];obtain⟨q0,q1,q2,q3,f0,f1,f2,f3,hz⟩:=zaX hb));refine bodyPost_ret (v:=.tuple #[.agg #[.int .i64 K,.string S,.int .i64 N,.int .i64 P],.int .i64 E]) (by simp[results,Tryz.results60,go_sem,q0,q1,q2,q3]) rfl ⟨by rw[HT.out,HV.out],?_⟩;exact(((((Below.refl _ _).alloc (lR _) _).trans (hb.mono (by simp))).setCell (lR _) _).setCell (lR _) _ |>.setCell (lR _) _).setCell (lR _) _
  ·
   have hD':Tk.isDig l[k]=false:=by simpa using hD
   clear hD;have HT:Hid (Tk.tokAt l k=Tk.signAt l k):=by unfold Tk.tokAt;rw[HG.out,if_neg (by simp[hL']),if_neg (by simp[hD'])];rfl
   obtain⟨K,S,N,P,E,hv⟩:=zcP (Tk.signAt l k);have HV:=zH hv;clear hv;go_enter Tryz.func60,Tryz.ntmps60;go_wp2_with (first|(go_at_call 87;refine(zbq _ _).mono ?_;rintro e w' ⟨rfl,rfl⟩)|(go_at_call 89;refine(zbI _ _).mono ?_;rintro e w' ⟨rfl,rfl⟩)|(go_at_call 91;refine(zfA l _ cap k _ HW.out hk hl hcap).mono ?_;rintro e w2 ⟨rfl,hb⟩;rw[HV.out];obtain⟨q0,q1,q2,q3,f0,f1,f2,f3,hz⟩:=zaX hb));refine bodyPost_ret (v:=.tuple #[.agg #[.int .i64 K,.string S,.int .i64 N,.int .i64 P],.int .i64 E]) (by simp[results,Tryz.results60,go_sem,q0,q1,q2,q3]) rfl ⟨by rw[HT.out,HV.out],?_⟩;exact(((((Below.refl _ _).alloc (lR _) _).trans (hb.mono (by simp))).setCell (lR _) _).setCell (lR _) _ |>.setCell (lR _) _).setCell (lR _) _
end Go.Proofs.YtlnbmmgbfgmboaaGreatDoor
