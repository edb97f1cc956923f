import Derived.Test.YtgbdanddbgomhaaGreatDoorMs28
set_option linter.unusedVariables false
set_option linter.unusedSimpArgs false
namespace Go.Proofs.YtgbdanddbgomhaaGreatDoor
open Go Go.RowKit
section
attribute [local go_sem ↓] Go.wp_at_zero Go.wp_at_succ
theorem za1 {P:Program} {fn:Func} {Q:Ending->World->Prop} {a:Act} {w:World} {chain:List PanicEntry} (hd:a.defers=[]) (hR:Q (.panicked chain) w):bodyPost P fn Q (.panic chain) a w:=⟨hd,hR⟩
set_option maxHeartbeats 400000 in
theorem zcl (w:World) (g:Nat) (s:ByteArray) (pos:Nat) (opn:Int) (h:Rx w g s pos opn) (hs:s.size<=1000) (hp:pos<=s.size) (t:ByteArray) (ht:t.size<=2) (hb:preB (s.extract pos s.size) t=false):
   Calls Tryz.prog 88 #[.pointer (some ⟨g,0,none⟩),.string t] w fun e w'=>e = .returned (.bool false)∧Rx w' g s pos opn∧w.grownBy w' (some g):=by
 have HI:=Zh (zmf w g s pos opn h hs hp t ht);simp only[hb] at HI;obtain⟨c0,c1,c2⟩:=h.cell;go_enter Tryz.func88,Tryz.ntmps88;go_wp2_with (go_at_call 105;(with_reducible refine (HI.out).mono ?_);rintro e w1 ⟨rfl,n,rfl⟩);go_ret;exact⟨rfl,h.drewN n,za5 (za9 _ _) _⟩
set_option maxHeartbeats 400000 in
theorem zcp (w:World) (g:Nat) (s:ByteArray) (pos:Nat) (opn:Int) (h:Rx w g s pos opn) (hs:s.size<=1000) (hp:pos<=s.size) (t:ByteArray) (ht:t.size<=2) (hb:preB (s.extract pos s.size) t=true):
   Calls Tryz.prog 88 #[.pointer (some ⟨g,0,none⟩),.string t] w fun e w'=>e = .returned (.bool true)∧Rx w' g s (pos+t.size) opn∧w.grownBy w' (some g):=by
 have HI:=Zh (zmf w g s pos opn h hs hp t ht);simp only[hb] at HI;obtain⟨c0,c1,c2⟩:=h.cell;obtain⟨f0,f1,f2⟩:=h.frozen;go_enter Tryz.func88,Tryz.ntmps88;go_wp2_with (go_at_call 105;(with_reducible refine (HI.out).mono ?_);rintro e w1 ⟨rfl,n,rfl⟩);go_ret;exact⟨rfl,(h.drewN n).setPos (pos+t.size),za5 (zaj (za9 _ _) _) _⟩
theorem zaq (w:World) (g:Nat) (s:ByteArray) (pos:Nat) (opn:Int) (h:Rx w g s pos opn) (hs:s.size<=1000) (hp:pos<=s.size) (c:UInt8) (n:Nat) (hn:n=c.toNat) (hb:isB s pos n=false):
   Calls Tryz.prog 88 #[.pointer (some ⟨g,0,none⟩),.string ⟨#[c]⟩] w fun e w'=>e = .returned (.bool false)∧Rx w' g s pos opn∧w.grownBy w' (some g):=
 zcl w g s pos opn h hs hp ⟨#[c]⟩ (show 1<=2 by omega) (by rw[pre1 s pos c hp,←hn];exact hb)
theorem zaa (w:World) (g:Nat) (s:ByteArray) (pos:Nat) (opn:Int) (h:Rx w g s pos opn) (hs:s.size<=1000) (hp:pos<=s.size) (c:UInt8) (n:Nat) (hn:n=c.toNat) (hb:isB s pos n=true):
   Calls Tryz.prog 88 #[.pointer (some ⟨g,0,none⟩),.string ⟨#[c]⟩] w fun e w'=>e = .returned (.bool true)∧Rx w' g s (pos+1) opn∧w.grownBy w' (some g):=
 zcp w g s pos opn h hs hp ⟨#[c]⟩ (show 1<=2 by omega) (by rw[pre1 s pos c hp,←hn];exact hb)
theorem zc0 (w:World) (g:Nat) (s:ByteArray) (pos:Nat) (opn:Int) (h:Rx w g s pos opn) (hs:s.size<=1000) (hp:pos<=s.size) (c:UInt8) (n:Nat) (hn:n=c.toNat) (b:Bool) (hb:isB s pos n=b):
   Calls Tryz.prog 105 #[.pointer (some ⟨g,0,none⟩),.string ⟨#[c]⟩] w fun e w'=>e = .returned (.bool b)∧∃ n,w'=w.drewN n:=by
 rw[←hb,hn,←pre1 s pos c hp];exact zmf w g s pos opn h hs hp ⟨#[c]⟩ (show 1<=2 by omega)
def cPeek (s:ByteArray) (pos:Nat):R Int:=if pos<s.size then .ok ((bt s pos:Int),pos) else .error (2,(pos:Int))
def isU8 (a:Int) (v:Value) (_:World):Prop:=v = .int .u8 a
set_option maxHeartbeats 400000 in
theorem zav (w:World) (g:Nat) (s:ByteArray) (pos:Nat) (opn:Int) (h:Rx w g s pos opn) (hs:s.size<=1000) (hp:pos<=s.size):
   Calls Tryz.prog 127 #[.pointer (some ⟨g,0,none⟩)] w (XRet w g s opn (cPeek s pos) isU8):=by
 obtain⟨c0,c1,c2⟩:=h.cell;have HE:=Zh (zb0 w g s pos opn h hs)
 by_cases hlt:pos<s.size
 . have e:cPeek s pos = .ok ((s[pos]'hlt).toNat,pos):=(by unfold cPeek;rw[if_pos hlt,zko s pos hlt]);rw[e];have e2:(pos==s.size)=false:=(by simp;omega);simp only[e2] at HE;clear e e2;have k0:(0:Int)<=(pos:Int):=(by omega);have k1:(pos:Int)<(s.size:Int):=(by omega);go_enter Tryz.func127,Tryz.ntmps127;go_wp2_with (go_at_call 64;(with_reducible refine (HE.out).mono ?_);rintro e w1 ⟨rfl,n,rfl⟩);go_quiet (fail);go_wp2;go_ret;exact⟨⟨_,rfl,rfl⟩,(h.drewN _).drewN _,za5 (za5 (za9 _ _) _) _⟩
 . have e:cPeek s pos = .error (2,(pos:Int)):=(by unfold cPeek;rw[if_neg hlt]);rw[e];have e2:(pos==s.size)=true:=(by simp;omega);simp only[e2] at HE;clear e e2;go_enter Tryz.func127,Tryz.ntmps127;go_wp2_with (first
     | (go_at_call 64;(with_reducible refine (HE.out).mono ?_);rintro e w1 ⟨rfl,n,rfl⟩)
     | (go_at_call 65;(with_reducible refine (zag _ g s pos opn _ (h.drewN _)).mono ?_);rintro e w2 ⟨rfl,rfl⟩))
   exact za1 rfl ⟨⟨_,Nat.le_refl _,rfl,heap_alloc_new _ _⟩,zam (za5 (za9 _ _) _) _⟩
def cNext (s:ByteArray) (pos:Nat):R Int:=if pos<s.size then .ok ((bt s pos:Int),pos+1) else .error (2,(pos:Int))
set_option maxHeartbeats 400000 in
theorem zfp (w:World) (g:Nat) (s:ByteArray) (pos:Nat) (opn:Int) (h:Rx w g s pos opn) (hs:s.size<=1000) (hp:pos<=s.size):
   Calls Tryz.prog 141 #[.pointer (some ⟨g,0,none⟩)] w (XRet w g s opn (cNext s pos) isU8):=by
 have HP:=Zh (zav w g s pos opn h hs hp)
 by_cases hlt:pos<s.size
 . have e:cNext s pos = .ok ((bt s pos:Int),pos+1):=(by unfold cNext;rw[if_pos hlt]);have e2:cPeek s pos = .ok ((bt s pos:Int),pos):=(by unfold cPeek;rw[if_pos hlt]);rw[e];simp only[e2] at HP;clear e e2;go_enter Tryz.func141,Tryz.ntmps141;go_wp2_with (go_at_call 127;(with_reducible refine (HP.out).mono ?_);rintro e w1 ⟨⟨v,rfl,rfl⟩,r1,o1⟩;obtain⟨c0,c1,c2⟩:=r1.cell;obtain⟨f0,f1,f2⟩:=r1.frozen);go_ret;exact⟨⟨_,rfl,rfl⟩,r1.setPos (pos+1),zaj o1 _⟩
 . have e:cNext s pos = .error (2,(pos:Int)):=(by unfold cNext;rw[if_neg hlt]);have e2:cPeek s pos = .error (2,(pos:Int)):=(by unfold cPeek;rw[if_neg hlt]);rw[e];simp only[e2] at HP;clear e e2;go_enter Tryz.func141,Tryz.ntmps141;go_wp2_with (go_at_call 127;(with_reducible refine (HP.out).mono ?_);rintro e w1 ⟨⟨gs,hB,rfl,hgs⟩,o1⟩);exact za1 rfl ⟨⟨gs,hB,rfl,hgs⟩,o1⟩
set_option maxHeartbeats 1000000 in
theorem zbn (w:World) (g:Nat) (s:ByteArray) (pos:Nat) (opn:Int) (h:Rx w g s pos opn) (hs:s.size<=1000) (hp:pos<=s.size) (b:Bool) (hb:isD s pos=b):
   Calls Tryz.prog 140 #[.pointer (some ⟨g,0,none⟩)] w fun e w'=>e = .returned (.bool b)∧∃ n,w'=w.drewN n:=by
 obtain⟨c0,c1,c2⟩:=h.cell
 by_cases hlt:pos<s.size
 . have e2:(pos==s.size)=false:=(by simp;omega);have HE:∀ w,Rx w g s pos opn->Calls Tryz.prog 64 #[.pointer (some ⟨g,0,none⟩)] w fun e w'=>e = .returned (.bool false)∧∃ n,w'=w.drewN n:=fun w h=>by rw[←e2];exact zb0 w g s pos opn h hs
   replace HE:=Zh HE;have k0:(0:Int)<=(pos:Int):=(by omega);have k1:(pos:Int)<(s.size:Int):=(by omega);have hbe:=zko s pos hlt;have hdd:isD s pos=(decide (48<=bt s pos)&&decide (bt s pos<=57)):=(by unfold isD;simp[hlt]);rw[hbe] at hdd;rw[←hb,hdd];clear e2 hdd hb hbe;have hnot:∀ (x:Bool) (w:World),(Op.unary .not (.bool x)).run Tryz.prog w = .ok (.bool (!x)) w:=fun _ _=>rfl
   by_cases h1:(48:Int)<=((s[pos]'hlt).toNat:Int)
   . have d1:decide ((48:Int)<=((s[pos]'hlt).toNat:Int))=true:=(by simpa using h1);have d2:decide (48<=(s[pos]'hlt).toNat)=true:=(by simp;omega);rw[d2,Bool.true_and];clear d2;go_enter Tryz.func140,Tryz.ntmps140;go_wp2;go_quiet ((go_at_call 64;exact Calls.quiet_of (HE.out _ (by first | exact h | exact h.drewN _))));go_wp2;go_ret;refine⟨congrArg Ending.returned (congrArg Value.bool ?_),_,rfl⟩;rw[Bool.eq_iff_iff];simp;omega
   . have d1:decide ((48:Int)<=((s[pos]'hlt).toNat:Int))=false:=(by simpa using h1);have d2:decide (48<=(s[pos]'hlt).toNat)=false:=(by simp;omega);rw[d2,Bool.false_and];clear d2;go_enter Tryz.func140,Tryz.ntmps140;go_wp2;go_quiet ((go_at_call 64;exact Calls.quiet_of (HE.out _ (by first | exact h | exact h.drewN _))));go_wp2;go_ret;exact⟨rfl,_,rfl⟩
 . have e2:(pos==s.size)=true:=(by simp;omega);have HE:∀ w,Rx w g s pos opn->Calls Tryz.prog 64 #[.pointer (some ⟨g,0,none⟩)] w fun e w'=>e = .returned (.bool true)∧∃ n,w'=w.drewN n:=fun w h=>by rw[←e2];exact zb0 w g s pos opn h hs
   replace HE:=Zh HE;have hdd:isD s pos=false:=(by unfold isD;simp[hlt]);rw[←hb,hdd];clear e2 hdd hb;have hnot:∀ (x:Bool) (w:World),(Op.unary .not (.bool x)).run Tryz.prog w = .ok (.bool (!x)) w:=fun _ _=>rfl
   go_enter Tryz.func140,Tryz.ntmps140;go_wp2;go_quiet ((go_at_call 64;exact Calls.quiet_of (HE.out _ (by first | exact h | exact h.drewN _))));go_wp2;go_ret;exact⟨rfl,_,rfl⟩
end
section
attribute [local go_sem ↓] Go.wp_at_zero Go.wp_at_succ
section
variable {α:Type} {w wx w':World} {g:Nat} {s:ByteArray} {opn:Int} {r:R α} {val:α->Value->World->Prop}
theorem XRet.fault {c q:Int} {e:Ending} (o:w.grownBy wx (some g)) (hf:Fault w' wx.heap.size c q e) (o':wx.grownBy w' (some g)) (hr:r = .error (c,q)):XRet w g s opn r val e w':=by
 rw[hr];exact⟨hf.more o.size,za3 o o'⟩
theorem XRet.ok {a:α} {v:Value} {p:Nat} (hr:r = .ok (a,p)) (hv:val a v w') (hx:Rx w' g s p opn) (o:w.grownBy w' (some g)):XRet w g s opn r val (.returned v) w':=by
 rw[hr];exact⟨⟨v,rfl,hv⟩,hx,o⟩
theorem XRet.here {pos:Nat} {c:Int} (o:w.grownBy wx (some g)) (hr:r = .error (c,(pos:Int))):
   XRet w g s opn r val (.panicked [{v := .iface 69 (.pointer (some ⟨wx.heap.size,0,none⟩)),recovered:=false}]) (wx.alloc (.cells #[.int .i64 (pos:Int),.int .i64 c] 73)):=by
 rw[hr];exact⟨⟨_,o.size,rfl,heap_alloc_new _ _⟩,zam o _⟩
end
theorem zka:∀ (l:List UInt8) (c:UInt8),(Lib.indexByte l c<0)↔¬ (l.any fun b=>b==c)=true
 | [],c=>by simp[Lib.indexByte]
 | b::l,c=>by
   have ih:=zka l c;have hge:=Lib.indexByte_ge l c;unfold Lib.indexByte
   by_cases h:(b==c)=true
   . simp[h]
   . simp only[h,if_false,List.any_cons,Bool.false_or]
     by_cases h1:(Lib.indexByte l c == -1)=true
     . have e:Lib.indexByte l c = -1:=(by simpa using h1);have:=ih.1 (by omega);simp[h1,this]
     . have e:¬ Lib.indexByte l c = -1:=(by simpa using h1);have hn:¬ Lib.indexByte l c<0:=(by omega);have:=fun h=>hn (ih.2 h)
       simp[h1];constructor
       . intro h2;omega
       . intro h2;exfalso;apply this
         simpa using h2
set_option maxRecDepth 20000 in
set_option maxHeartbeats 1000000 in
theorem zky (s:ByteArray) (c:Int) (w:World):
   Calls Tryz.prog 83 #[.string s,.int .u8 c] w fun e w'=>e = .returned (.int .i64 (Lib.indexByte s.data.toList c.toNat.toUInt8))∧w=w':=by
 go_enter Tryz.func83,Tryz.ntmps83;go_wp2;rw[run_callFunc_extern Tryz.func103 (by kernel_rfl) (by kernel_rfl) (by kernel_rfl) (e:=Extern.BytealgIndexByte.indexByte) (by kernel_rfl),Lib.run_indexByteString];simp only[Result.andThen];rw[Oper.upon_value];go_wp2;go_ret;exact⟨rfl,rfl⟩
set_option maxHeartbeats 1000000 in
theorem zj4 (s:ByteArray) (c:Int) (w:World):
   Calls Tryz.prog 58 #[.string s,.int .u8 c] w fun e w'=>e = .returned (.int .i64 (Lib.indexByte s.data.toList c.toNat.toUInt8))∧w=w':=by
 go_enter Tryz.func58,Tryz.ntmps58;go_wp2_with (go_at_call 83;(with_reducible refine (zky s c w).mono ?_);rintro e w1 ⟨rfl,rfl⟩);go_ret;exact⟨rfl,rfl⟩
theorem idx_in (s:ByteArray) (c:Int) (h0:0<=c) (h1:c<=255):(Lib.indexByte s.data.toList c.toNat.toUInt8<0)↔inT c s=false:=by
 rw[zka];unfold inT;have e:(fun b:UInt8=>b==c.toNat.toUInt8)=fun b:UInt8=>((b.toNat:Int)==c):=by
   funext b
   rw[Bool.eq_iff_iff];have hb:=UInt8.toNat_lt b;simp only[beq_iff_eq];constructor
   . intro h;rw[h];simp[Nat.toUInt8,UInt8.toNat_ofNat'];omega
   . intro h;have:b.toNat=c.toNat:=by omega
     rw[←UInt8.toNat_inj,this];simp[Nat.toUInt8,UInt8.toNat_ofNat'];omega
 rw[e];simp
set_option maxHeartbeats 1000000 in
theorem zeo (w:World) (g:Nat) (s:ByteArray) (pos:Nat) (opn:Int) (h:Rx w g s pos opn) (hs:s.size<=1000) (hp:pos<s.size):
   Calls Tryz.prog 132 #[.pointer (some ⟨g,0,none⟩)] w (XRet w g s opn (cEsc s (pos+1)) isU8):=by
 obtain⟨c0,c1,c2⟩:=h.cell;obtain⟨f0,f1,f2⟩:=h.frozen;have h1:=h.setPos (pos+1);have o1:w.grownBy (w.setCell ⟨g,1,none⟩ (.int .i64 ((pos+1:Nat):Int))) (some g):=zaj (za9 _ _) _;have HP:=Zh (zav _ g s (pos+1) opn h1 hs (by omega))
 by_cases hlt:pos+1<s.size
 . have e2:cPeek s (pos+1) = .ok ((bt s (pos+1):Int),pos+1):=(by unfold cPeek;rw[if_pos hlt]);have hbt:=ziu s (pos+1);have hE:cEsc s (pos+1)=if bt s (pos+1)=110 then .ok (10,pos+2) else if bt s (pos+1)=116 then .ok (9,pos+2) else if inT (bt s (pos+1):Int) quotT=true then .ok ((bt s (pos+1):Int),pos+2) else .error (2,((pos+1:Nat):Int)):=by unfold cEsc;rw[if_pos hlt]
   have hidx:=idx_in quotT (bt s (pos+1):Int) (by omega) (by omega);simp only[e2] at HP;generalize hb:(bt s (pos+1):Int)=b at *;have hb1:(bt s (pos+1)=110)↔b=110:=(by omega);have hb2:(bt s (pos+1)=116)↔b=116:=(by omega);simp only[hb1,hb2] at hE;have hb0:0<=b∧b<=255:=(by omega);clear hb hb1 hb2 e2 hbt
   by_cases b1:b=110
   . rw[if_pos b1] at hE;have HE:=Zh hE;subst b1;clear hE hidx;go_enter Tryz.func132,Tryz.ntmps132;go_wp2_with (go_at_call 127;(refine (HP.out).mono ?_);rintro e w1 ⟨⟨v,rfl,rfl⟩,r1,o2⟩;obtain⟨k0,k1,k2⟩:=r1.cell;obtain⟨l0,l1,l2⟩:=r1.frozen);go_ret;exact XRet.ok HE.out rfl (r1.setPos (pos+2)) (zaj (za3 o1 o2) _)
   . rw[if_neg b1] at hE
     by_cases b2:b=116
     . rw[if_pos b2] at hE;have HE:=Zh hE;subst b2;clear hE hidx;go_enter Tryz.func132,Tryz.ntmps132;go_wp2_with (go_at_call 127;(refine (HP.out).mono ?_);rintro e w1 ⟨⟨v,rfl,rfl⟩,r1,o2⟩;obtain⟨k0,k1,k2⟩:=r1.cell;obtain⟨l0,l1,l2⟩:=r1.frozen);go_ret;exact XRet.ok HE.out rfl (r1.setPos (pos+2)) (zaj (za3 o1 o2) _)
     . rw[if_neg b2] at hE;have e1:(b != 110)=true:=(by simpa using b1);have e2:(b != 116)=true:=(by simpa using b2);have e3:(b==110)=false:=(by simpa using b1);have e4:(b==116)=false:=(by simpa using b2);generalize hj:Lib.indexByte quotT.data.toList b.toNat.toUInt8=j at hidx;have HX:Hid (∀ w,Calls Tryz.prog 58 #[.string ⟨#[92,46,91,93,40,41,123,125,124,63,42,43,94,36,45,47]⟩,.int .u8 b] w fun e w'=>e = .returned (.int .i64 j)∧w=w'):=by
         intro w;rw[←hj];exact zj4 quotT b w
       clear hj b1 b2
       by_cases hin:inT b quotT=true
       . rw[if_pos hin] at hE;have HE:=Zh hE;have hj:¬ j<0:=fun h=>by rw[hidx.1 h] at hin;cases hin
         clear hE hidx hin;go_enter Tryz.func132,Tryz.ntmps132;go_wp2_with (first
           | (go_at_call 127;(refine (HP.out).mono ?_);rintro e w1 ⟨⟨v,rfl,rfl⟩,r1,o2⟩;obtain⟨k0,k1,k2⟩:=r1.cell;obtain⟨l0,l1,l2⟩:=r1.frozen)
           | (go_at_call 58;(with_reducible refine (HX.out _).mono ?_);rintro e w3 ⟨rfl,rfl⟩))
         go_ret;exact XRet.ok HE.out rfl (r1.setPos (pos+2)) (zaj (za3 o1 o2) _)
       . rw[if_neg hin] at hE;have HE:=Zh hE;have hj:j<0:=hidx.2 (by simpa using hin);clear hE hidx hin;go_enter Tryz.func132,Tryz.ntmps132;go_wp2_with (first
           | (go_at_call 127;(refine (HP.out).mono ?_);rintro e w1 ⟨⟨v,rfl,rfl⟩,r1,o2⟩;obtain⟨k0,k1,k2⟩:=r1.cell)
           | (go_at_call 58;(with_reducible refine (HX.out _).mono ?_);rintro e w3 ⟨rfl,rfl⟩)
           | (go_at_call 65;(with_reducible refine (zag _ g s (pos+1) opn _ r1).mono ?_);rintro e w4 ⟨rfl,rfl⟩))
         exact za1 rfl (XRet.here (pos:=pos+1) (za3 o1 o2) HE.out)
 . have e2:cPeek s (pos+1) = .error (2,((pos+1:Nat):Int)):=(by unfold cPeek;rw[if_neg hlt]);have HE:Hid (cEsc s (pos+1) = .error (2,((pos+1:Nat):Int))):=by show cEsc s (pos+1)=_;unfold cEsc;rw[if_neg hlt]
   simp only[e2] at HP;clear e2;go_enter Tryz.func132,Tryz.ntmps132;go_wp2_with (go_at_call 127;(refine (HP.out).mono ?_);rintro e w1 ⟨⟨gs,hB,rfl,hgs⟩,o2⟩);exact za1 rfl (XRet.fault o1 ⟨gs,hB,rfl,hgs⟩ o2 HE.out)
theorem zb2 {s:ByteArray} {pos:Nat} (h:pos<s.size):cPeek s pos = .ok ((bt s pos:Int),pos):=by unfold cPeek;rw[if_pos h]
theorem zhe {s:ByteArray} {pos:Nat} (h:¬ pos<s.size):cPeek s pos = .error (2,(pos:Int)):=by unfold cPeek;rw[if_neg h]
theorem zel {s:ByteArray} {pos:Nat} (h:pos<s.size):cNext s pos = .ok ((bt s pos:Int),pos+1):=by unfold cNext;rw[if_pos h]
set_option maxHeartbeats 1000000 in
theorem zab (w:World) (g:Nat) (s:ByteArray) (pos:Nat) (opn:Int) (h:Rx w g s pos opn) (hs:s.size<=1000) (hp:pos<=s.size):
   Calls Tryz.prog 145 #[.pointer (some ⟨g,0,none⟩)] w (XRet w g s opn (cMem s pos) isU8):=by
 have HP:=Zh (zav w g s pos opn h hs hp)
 by_cases hlt:pos<s.size
 . simp only[zb2 hlt] at HP;have hbt:=ziu s pos;have hE:cMem s pos=if bt s pos=93 then .error (2,(pos:Int)) else if bt s pos=92 then cEsc s (pos+1) else .ok ((bt s pos:Int),pos+1):=by unfold cMem;rw[if_pos hlt]
   by_cases b1:bt s pos=92
   . rw[if_neg (by omega),if_pos b1] at hE;have HE:=Zh hE;rw[b1] at HP;clear hE b1;have HQ:=Zh (fun w h=>zeo w g s pos opn h hs hlt);cases hq:cEsc s (pos+1) with
     | ok x =>
       obtain⟨a,p⟩:=x;simp only[hq] at HQ HE;clear hq;go_enter Tryz.func145,Tryz.ntmps145;go_wp2_with (first
         | (go_at_call 127;(with_reducible refine (HP.out).mono ?_);rintro e w1 ⟨⟨v,rfl,rfl⟩,r1,o1⟩)
         | (go_at_call 132;(with_reducible refine (HQ.out _ r1).mono ?_);rintro e w2 ⟨⟨v,rfl,rfl⟩,r2,o2⟩))
       go_ret;exact XRet.ok HE.out rfl r2 (za3 o1 o2)
     | error x =>
       obtain⟨c,q⟩:=x;simp only[hq] at HQ HE;clear hq;go_enter Tryz.func145,Tryz.ntmps145;go_wp2_with (first
         | (go_at_call 127;(with_reducible refine (HP.out).mono ?_);rintro e w1 ⟨⟨v,rfl,rfl⟩,r1,o1⟩)
         | (go_at_call 132;(with_reducible refine (HQ.out _ r1).mono ?_);rintro e w2 ⟨⟨gs,hB,rfl,hgs⟩,o2⟩))
       exact za1 rfl (XRet.fault o1 ⟨gs,hB,rfl,hgs⟩ o2 HE.out)
   . by_cases b2:bt s pos=93
     . rw[if_pos b2] at hE;have HE:=Zh hE;rw[b2] at HP;clear hE b1 b2;go_enter Tryz.func145,Tryz.ntmps145;go_wp2_with (first
         | (go_at_call 127;(with_reducible refine (HP.out).mono ?_);rintro e w1 ⟨⟨v,rfl,rfl⟩,r1,o1⟩)
         | (go_at_call 65;(with_reducible refine (zag _ g s pos opn _ r1).mono ?_);rintro e w4 ⟨rfl,rfl⟩))
       exact za1 rfl (XRet.here o1 HE.out)
     . rw[if_neg b2,if_neg b1] at hE;have HE:=Zh hE;have e1:((bt s pos:Int)==92)=false:=(by simp;omega);have e2:((bt s pos:Int)==93)=false:=(by simp;omega);have HN:=Zh (fun w h=>zfp w g s pos opn h hs hp);simp only[zel hlt] at HN;clear hE b1 b2;generalize (bt s pos:Int)=b at *;go_enter Tryz.func145,Tryz.ntmps145;go_wp2_with (first
         | (go_at_call 127;(with_reducible refine (HP.out).mono ?_);rintro e w1 ⟨⟨v,rfl,rfl⟩,r1,o1⟩)
         | (go_at_call 141;(with_reducible refine (HN.out _ r1).mono ?_);rintro e w4 ⟨⟨v,rfl,rfl⟩,r4,o4⟩))
       go_ret;exact XRet.ok HE.out rfl r4 (za3 o1 o4)
 . simp only[zhe hlt] at HP;have HE:Hid (cMem s pos = .error (2,(pos:Int))):=by show cMem s pos=_;unfold cMem;rw[if_neg hlt]
   go_enter Tryz.func145,Tryz.ntmps145;go_wp2_with (first
     | (go_at_call 127;(with_reducible refine (HP.out).mono ?_);rintro e w1 ⟨⟨gs,hB,rfl,hgs⟩,o1⟩))
   exact za1 rfl (XRet.fault (za9 _ _) ⟨gs,hB,rfl,hgs⟩ o1 HE.out)
def isI64 (a:Int) (v:Value) (_:World):Prop:=v = .int .i64 a
set_option maxHeartbeats 1000000 in
theorem zeq (w:World) (g:Nat) (s:ByteArray) (pos:Nat) (opn:Int) (h:Rx w g s pos opn) (hs:s.size<=1000) (hp:pos<=s.size):
   Calls Tryz.prog 133 #[.pointer (some ⟨g,0,none⟩)] w (XRet w g s opn (cNum s pos) isI64):=by
 by_cases hd:isD s pos=true
 . have hd':=hd;simp[isD] at hd';obtain⟨⟨hlt,l1⟩,l2⟩:=hd';have HD:=Zh (zbn w g s pos opn h hs hp true hd);have HN:=Zh (fun w h=>zfp w g s pos opn h hs hp);simp only[zel hlt] at HN
   by_cases hd2:isD s (pos+1)=true
   . have hd':=hd2;simp[isD] at hd';obtain⟨⟨hlt2,m1⟩,m2⟩:=hd';have HE:Hid (cNum s pos = .ok (10*((bt s pos:Int)-48)+((bt s (pos+1):Int)-48),pos+2)):=by show cNum s pos=_;unfold cNum;rw[if_pos hd,if_pos hd2]
     have HD2:=Zh (fun w h=>zbn w g s (pos+1) opn h hs (by omega) true hd2);have HN2:=Zh (fun w h=>zfp w g s (pos+1) opn h hs (by omega));simp only[zel hlt2] at HN2;have i1:(48:Int)<=(bt s pos:Int):=(by omega);have i2:(bt s pos:Int)<=57:=(by omega);have i3:(48:Int)<=(bt s (pos+1):Int):=(by omega);have i4:(bt s (pos+1):Int)<=57:=(by omega);clear hd hd2 l1 l2 m1 m2;generalize (bt s pos:Int)=a at *;generalize (bt s (pos+1):Int)=b at *;go_enter Tryz.func133,Tryz.ntmps133;go_wp2_with (first
       | (go_at_call 140;(with_reducible refine (HD.out).mono ?_);rintro e w1 ⟨rfl,n,rfl⟩)
       | (go_at_call 141;(with_reducible refine (HN.out _ (h.drewN _)).mono ?_);rintro e w2 ⟨⟨v,rfl,rfl⟩,r2,o2⟩)
       | (go_at_call 140;(with_reducible refine (HD2.out _ r2).mono ?_);rintro e w3 ⟨rfl,n3,rfl⟩)
       | (go_at_call 141;(with_reducible refine (HN2.out _ (r2.drewN _)).mono ?_);rintro e w4 ⟨⟨v,rfl,rfl⟩,r4,o4⟩))
     go_ret;exact XRet.ok HE.out rfl r4 (za3 (za5 (za3 (za5 (za9 _ _) _) o2) _) o4)
   . have HE:Hid (cNum s pos = .ok ((bt s pos:Int)-48,pos+1)):=by show cNum s pos=_;unfold cNum;rw[if_pos hd,if_neg hd2]
     have HD2:=Zh (fun w h=>zbn w g s (pos+1) opn h hs (by omega) false (by simpa using hd2));have i1:(48:Int)<=(bt s pos:Int):=(by omega);have i2:(bt s pos:Int)<=57:=(by omega);clear hd hd2 l1 l2;generalize (bt s pos:Int)=a at *;go_enter Tryz.func133,Tryz.ntmps133;go_wp2_with (first
       | (go_at_call 140;(with_reducible refine (HD.out).mono ?_);rintro e w1 ⟨rfl,n,rfl⟩)
       | (go_at_call 141;(with_reducible refine (HN.out _ (h.drewN _)).mono ?_);rintro e w2 ⟨⟨v,rfl,rfl⟩,r2,o2⟩)
       | (go_at_call 140;(with_reducible refine (HD2.out _ r2).mono ?_);rintro e w3 ⟨rfl,n3,rfl⟩))
     go_ret;exact XRet.ok HE.out rfl (r2.drewN _) (za5 (za3 (za5 (za9 _ _) _) o2) _)
 . have HD:=Zh (zbn w g s pos opn h hs hp false (by simpa using hd));have HE:Hid (cNum s pos = .error (2,(pos:Int))):=by show cNum s pos=_;unfold cNum;rw[if_neg hd]
   go_enter Tryz.func133,Tryz.ntmps133;go_wp2_with (first
     | (go_at_call 140;(with_reducible refine (HD.out).mono ?_);rintro e w1 ⟨rfl,n,rfl⟩)
     | (go_at_call 65;(with_reducible refine (zag _ g s pos opn _ (h.drewN _)).mono ?_);rintro e w4 ⟨rfl,rfl⟩))
   exact za1 rfl (XRet.here (za5 (za9 _ _) _) HE.out)
end
end Go.Proofs.YtgbdanddbgomhaaGreatDoor
