import Derived.Test.YtgbdanddbgomhaaGreatDoorMs6
set_option linter.unusedVariables false
set_option linter.unusedSimpArgs false
namespace Go.Proofs.YtgbdanddbgomhaaGreatDoor
open Go
section
inductive T where
 | mk (op:Int) (p:Nat->Bool) (lo hi:Int) (kids:List T)
def T.one (p:Nat->Bool):T := .mk 1 p 0 0 []
def T.rep (lo hi:Int) (t:T):T := .mk 4 noneP lo hi [t]
def T.zero:T := .mk 0 noneP 0 0 []
def T.many (op:Int) (l:List T):T:=match l with
 | [t]=>t
 | l => .mk op noneP 0 0 l
abbrev R (α:Type):=Except (Int×Int) (α×Nat)
def loopR {α:Type} (step:α->Nat->Option (R α)):Nat->α->Nat->R α
 | 0,a,p => .ok (a,p)
 | n+1,a,p=>match step a p with
   | none => .ok (a,p)
   | some (.error e) => .error e
   | some (.ok (a',p'))=>loopR step n a' p'
def thenR {α β:Type} (r:R α) (f:α->Nat->R β):R β:=match r with
 | .error e => .error e
 | .ok (a,p)=>f a p
section
variable (s:ByteArray)
def isB (pos:Nat) (c:Nat):Bool:=decide (pos<s.size)&&bt s pos==c
def quotT:ByteArray:=⟨#[92,46,91,93,40,41,123,125,124,63,42,43,94,36,45,47]⟩
def stopT:ByteArray:=⟨#[93,41,125,123,124,63,94,36]⟩
def cEsc (pos:Nat):R Int:=
 if pos<s.size then
   if bt s pos=110 then .ok (10,pos+1) else if bt s pos=116 then .ok (9,pos+1)
   else if inT (bt s pos:Int) quotT=true then .ok ((bt s pos:Int),pos+1) else .error (2,(pos:Int))
 else .error (2,(pos:Int))
def cMem (pos:Nat):R Int:=
 if pos<s.size then
   if bt s pos=93 then .error (2,(pos:Int)) else if bt s pos=92 then cEsc s (pos+1) else .ok ((bt s pos:Int),pos+1)
 else .error (2,(pos:Int))
def cWide (pos:Nat):Bool:=isB s pos 92&&decide (pos+1<s.size)&&isWide (bt s (pos+1):Int)
def cItem (pos:Nat):R (Nat->Bool):=
 if cWide s pos=true then .ok (wideP (bt s (pos+1):Int),pos+2) else
 thenR (cMem s pos) fun lo p1 =>
   if isB s p1 45=true then thenR (cMem s (p1+1)) fun hi p3=>if hi<lo then .error (2,(p3:Int)-1) else .ok (rangeP lo hi,p3)
   else .ok (rangeP lo lo,p1)
def clsStep (q:Nat->Bool) (pos:Nat):Option (R (Nat->Bool)):=
 if isB s pos 93=true then none else some (thenR (cItem s pos) fun r p => .ok (orP q r,p))
def cClass (pos:Nat):R (Nat->Bool):=
 thenR (thenR (cItem s (if isB s pos 94=true then pos+1 else pos)) (loopR (clsStep s) (s.size+1))) fun q p =>
   .ok (if isB s pos 94=true then notP q else q,p+1)
def isD (pos:Nat):Bool:=decide (pos<s.size)&&decide (48<=bt s pos)&&decide (bt s pos<=57)
def cNum (pos:Nat):R Int:=
 if isD s pos=true then
   if isD s (pos+1)=true then .ok (10*((bt s pos:Int)-48)+((bt s (pos+1):Int)-48),pos+2) else .ok ((bt s pos:Int)-48,pos+1)
 else .error (2,(pos:Int))
def cTimes (pos:Nat):R (Int×Int):=
 thenR (cNum s pos) fun lo p =>
   thenR (if isB s p 44=true then cNum s (p+1) else .ok (lo,p)) fun hi q =>
     if isB s q 125=true∧1<=hi∧hi<=32∧lo<=hi then .ok ((lo,hi),q+1) else .error (2,(q:Int))
def cAtom (deep:Option (Nat->R T)) (pos:Nat):R T:=
 if pos<s.size then
   if bt s pos=40 then (match deep with
     | none => .error (4,(pos:Int))
     | some f=>thenR (f (pos+1)) fun t p=>if isB s p 41=true then .ok (t,p+1) else .error (2,(p:Int)))
   else if bt s pos=91 then thenR (cClass s (pos+1)) fun q p => .ok (.one q,p)
   else if bt s pos=46 then .ok (.one (notP (rangeP 10 10)),pos+1)
   else if bt s pos=92 then
     if cWide s pos=true then .ok (.one (wideP (bt s (pos+1):Int)),pos+2)
     else thenR (cEsc s (pos+1)) fun b p => .ok (.one (rangeP b b),p)
   else if bt s pos=42∨bt s pos=43 then .error (3,(pos:Int))
   else if inT (bt s pos:Int) stopT=true then .error (2,(pos:Int))
   else .ok (.one (rangeP (bt s pos:Int) (bt s pos:Int)),pos+1)
 else .error (2,(pos:Int))
def repStep (t:T) (pos:Nat):Option (R T):=
 if isB s pos 63=true then some (.ok (.rep 0 1 t,pos+1))
 else if isB s pos 123=true then some (thenR (cTimes s (pos+1)) fun m p => .ok (.rep m.1 m.2 t,p))
 else none
def cPiece (deep:Option (Nat->R T)) (pos:Nat):R T:=thenR (cAtom s deep pos) (loopR (repStep s) (s.size+1))
def partStep (deep:Option (Nat->R T)) (top:Bool) (l:List T) (pos:Nat):Option (R (List T)):=
 if pos<s.size∧bt s pos≠124∧(bt s pos≠41∨top=true) then some (thenR (cPiece s deep pos) fun t p => .ok (l++[t],p)) else none
def cPart (deep:Option (Nat->R T)) (top:Bool) (pos:Nat):R T:=
 thenR (thenR (cPiece s deep pos) fun t p=>loopR (partStep s deep top) (s.size+1) [t] p) fun l p => .ok (.many 2 l,p)
def patStep (deep:Option (Nat->R T)) (top:Bool) (l:List T) (pos:Nat):Option (R (List T)):=
 if isB s pos 124=true then some (thenR (cPart s deep top (pos+1)) fun t p => .ok (l++[t],p)) else none
def cPat (deep:Option (Nat->R T)) (top:Bool) (pos:Nat):R T:=
 thenR (thenR (cPart s deep top pos) fun t p=>loopR (patStep s deep top) (s.size+1) [t] p) fun l p => .ok (.many 3 l,p)
def pat:Nat->Bool->Nat->R T
 | 0,top,pos=>cPat s none top pos
 | d+1,top,pos=>cPat s (some (pat d false)) top pos
def parse:Except (Int×Int) T:=
 if 200<s.size then .error (4,0) else match pat s 20 true 0 with
 | .error e => .error e
 | .ok (t,_) => .ok t
end
def Fwd {α:Type} (s:ByteArray) (pos:Nat) (r:R α):Prop:=match r with
 | .ok (_,p)=>pos<p∧p<=s.size
 | .error (c,a)=>0<c∧0<=a
section
variable {s:ByteArray} {α β:Type}
theorem zan {pos c:Nat} (h:isB s pos c=true):pos<s.size∧bt s pos=c:=by simpa [isB] using h
theorem Fwd.mono {r:R α} {p q:Nat} (h:Fwd s q r) (hp:p<=q):Fwd s p r:=by
 unfold Fwd at *;split <;> simp_all
 omega
theorem Fwd.bind {r:R α} {f:α->Nat->R β} {pos:Nat} (h:Fwd s pos r) (hf:∀ a p,pos<p->p<=s.size->Fwd s pos (f a p)):Fwd s pos (thenR r f):=by
 unfold thenR
 match r,h with
 | .error e,h=>exact h
 | .ok (a,p),h=>exact hf a p h.1 h.2
theorem Fwd.loop {step:α->Nat->Option (R α)} (hs:∀ a p r,p<=s.size->step a p=some r->Fwd s p r):∀ (n:Nat) (a:α) (pos p:Nat),pos<p->p<=s.size->Fwd s pos (loopR step n a p)
 | 0,a,pos,p,h1,h2=>⟨h1,h2⟩
 | n+1,a,pos,p,h1,h2=>by
   unfold loopR;cases h:step a p with
   | none=>exact⟨h1,h2⟩
   | some r =>
     have:=hs a p r h2 h
     match r,this with
     | .error e,h=>exact h
     | .ok (a',p'),h=>exact Fwd.loop hs n a' pos p' (Nat.lt_trans h1 h.1) h.2
end
section
variable (s:ByteArray)
theorem zke (pos:Nat):Fwd s pos (cEsc s pos):=by
 unfold cEsc;split
 . split
   . exact⟨by omega,by omega⟩
   . split
     . exact⟨by omega,by omega⟩
     . split
       . exact⟨by omega,by omega⟩
       . simp[Fwd]
 . simp[Fwd]
theorem zbk (pos:Nat):Fwd s pos (cMem s pos):=by
 unfold cMem;split
 . split
   . simp[Fwd]
   . split
     . exact (zke s (pos+1)).mono (by omega)
     . simp[Fwd];omega
 . simp[Fwd]
theorem zco (pos:Nat):Fwd s pos (cItem s pos):=by
 unfold cItem;split
 . rename_i h;simp[cWide] at h;simp[Fwd];omega
 . refine (zbk s pos).bind fun lo p1 h1 h2=>?_
   split
   . rename_i h;have:=zan h;refine Fwd.bind ((zbk s (p1+1)).mono (by omega)) fun hi p3 h3 h4=>?_
     split
     . simp[Fwd];omega
     . exact⟨h3,h4⟩
   . exact⟨h1,h2⟩
theorem zgh (q:Nat->Bool) (p:Nat) (r:R (Nat->Bool)) (h:clsStep s q p=some r):Fwd s p r:=by
 unfold clsStep at h;split at h
 . cases h
 . cases h;exact (zco s p).bind fun a p' h1 h2=>⟨h1,h2⟩
theorem zhc:∀ (n:Nat) (q:Nat->Bool) (p:Nat),p<=s.size->s.size+1-p<=n->(∃ e,loopR (clsStep s) n q p = .error e∧0<e.1∧0<=e.2)∨∃ q' p',loopR (clsStep s) n q p = .ok (q',p')∧isB s p' 93=true∧p<=p'
 | 0,q,p,h1,h2=>by omega
 | n+1,q,p,h1,h2=>by
   unfold loopR;cases h:clsStep s q p with
   | none =>
     right;refine⟨q,p,rfl,?_,Nat.le_refl _⟩;unfold clsStep at h;split at h
     . assumption
     . cases h
   | some r =>
     have:=zgh s q p r h
     match r,this with
     | .error e,h=>exact .inl ⟨e,rfl,h⟩
     | .ok (a',p'),h =>
       have h3:=h.1;rcases zhc n a' p' h.2 (by omega) with h4|⟨q2,p2,h4,h5,h6⟩
       . exact .inl h4
       . exact .inr ⟨q2,p2,h4,h5,by omega⟩
theorem zkl (pos:Nat):Fwd s pos (cClass s pos):=by
 unfold cClass;have h0:Fwd s pos (cItem s (if isB s pos 94=true then pos+1 else pos)):=by split <;> exact (zco s _).mono (by omega)
 revert h0;generalize cItem s (if isB s pos 94=true then pos+1 else pos)=r;intro h0
 match r,h0 with
 | .error e,h0=>exact h0
 | .ok (q,p),h0 =>
   have h1:=h0.1;have h2:=h0.2;rcases zhc s (s.size+1) q p h2 (by omega) with ⟨e,h3,h4⟩|⟨q',p',h3,h4,h5⟩
   . show Fwd s pos (thenR (loopR (clsStep s) (s.size+1) q p) _)
     rw[h3];exact h4
   . show Fwd s pos (thenR (loopR (clsStep s) (s.size+1) q p) _)
     rw[h3];have:=zan h4;exact⟨by omega,by omega⟩
theorem zed (pos:Nat):Fwd s pos (cNum s pos):=by
 unfold cNum;split
 . rename_i h;simp[isD] at h;split
   . rename_i h';simp[isD] at h';simp[Fwd];omega
   . simp[Fwd];omega
 . simp[Fwd]
theorem zex (pos:Nat):Fwd s pos (cTimes s pos):=by
 unfold cTimes;refine (zed s pos).bind fun lo p h1 h2=>?_
 have h0:Fwd s pos (if isB s p 44=true then cNum s (p+1) else .ok (lo,p)):=by
   split
   . exact (zed s _).mono (by omega)
   . exact⟨h1,h2⟩
 refine h0.bind fun hi q h3 h4=>?_
 split
 . rename_i h;have:=zan h.1;exact⟨by omega,by omega⟩
 . simp[Fwd]
theorem zhg (deep:Option (Nat->R T)) (hd:∀ f,deep=some f->∀ p,p<=s.size->Fwd s p (f p)) (pos:Nat):Fwd s pos (cAtom s deep pos):=by
 unfold cAtom;split
 . split
   . cases deep with
     | none=>simp[Fwd]
     | some f =>
       refine Fwd.bind ((hd f rfl (pos+1) (by omega)).mono (by omega)) fun t p h1 h2=>?_
       split
       . rename_i h;have:=zan h;exact⟨by omega,by omega⟩
       . simp[Fwd]
   . split
     . exact Fwd.bind ((zkl s (pos+1)).mono (by omega)) fun q p h1 h2=>⟨h1,h2⟩
     . split
       . exact⟨by omega,by omega⟩
       . split
         . split
           . rename_i h;simp[cWide] at h;exact⟨by omega,by omega⟩
           . exact Fwd.bind ((zke s (pos+1)).mono (by omega)) fun q p h1 h2=>⟨h1,h2⟩
         . split
           . simp[Fwd]
           . split
             . simp[Fwd]
             . exact⟨by omega,by omega⟩
 . simp[Fwd]
theorem zg3 (t:T) (p:Nat) (r:R T) (h:repStep s t p=some r):Fwd s p r:=by
 unfold repStep at h;split at h
 . rename_i h1;have:=zan h1;cases h;exact⟨by omega,by omega⟩
 . split at h
   . cases h;exact Fwd.bind ((zex s (p+1)).mono (by omega)) fun q p h1 h2=>⟨h1,h2⟩
   . cases h
variable (deep:Option (Nat->R T)) (hd:∀ f,deep=some f->∀ p,p<=s.size->Fwd s p (f p)) (top:Bool)
include hd
theorem zb7 (pos:Nat):Fwd s pos (cPiece s deep pos):=
 (zhg s deep hd pos).bind fun t p h1 h2=>Fwd.loop (fun a p r _ h=>zg3 s a p r h) _ t pos p h1 h2
theorem zf3 (l:List T) (p:Nat) (r:R (List T)) (h:partStep s deep top l p=some r):Fwd s p r:=by
 unfold partStep at h;split at h
 . cases h;exact (zb7 s deep hd p).bind fun a p' h1 h2=>⟨h1,h2⟩
 . cases h
theorem zbe (pos:Nat):Fwd s pos (cPart s deep top pos):=
 Fwd.bind ((zb7 s deep hd pos).bind fun t p h1 h2=>Fwd.loop (fun a p r _ h=>zf3 s deep hd top a p r h) _ [t] pos p h1 h2) fun l p h1 h2=>⟨h1,h2⟩
theorem zg5 (l:List T) (p:Nat) (r:R (List T)) (h:patStep s deep top l p=some r):Fwd s p r:=by
 unfold patStep at h;split at h
 . cases h;exact Fwd.bind ((zbe s deep hd top (p+1)).mono (by omega)) fun a p' h1 h2=>⟨h1,h2⟩
 . cases h
theorem zhf (pos:Nat):Fwd s pos (cPat s deep top pos):=
 Fwd.bind ((zbe s deep hd top pos).bind fun t p h1 h2=>Fwd.loop (fun a p r _ h=>zg5 s deep hd top a p r h) _ [t] pos p h1 h2) fun l p h1 h2=>⟨h1,h2⟩
omit hd
theorem zg4:∀ (d:Nat) (top:Bool) (pos:Nat),Fwd s pos (pat s d top pos)
 | 0,top,pos=>zhf s none (fun f h=>by cases h) top pos
 | d+1,top,pos=>zhf s (some (pat s d false)) (fun f h p _=>by cases h;exact zg4 d false p) top pos
end
end
end Go.Proofs.YtgbdanddbgomhaaGreatDoor
