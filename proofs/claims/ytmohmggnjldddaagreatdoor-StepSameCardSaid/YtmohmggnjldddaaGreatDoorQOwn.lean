/-
  The project's forms (tree's exprForm, condForm): proved is that each answers what the document asks of a node's own parts.
-/
import Derived.Test.YtmohmggnjldddaaGreatDoorQRune4
import Derived.Lib.OthersKept
import Derived.Lib.Hide
import Derived.WalkSmall
import Derived.Outline
import Derived.Deep.DeepCutAuto
import Derived.Deep.CutBlock
import Derived.BigQuiet
namespace Go.Proofs.YtmohmggnjldddaaGreatDoor
open Go Go.RowKit
def wordL (l:List UInt8):Bool:=l == [118,97,114] || l == [97,114,114,97,121] || l == [105,102] || l == [101,108,115,101] || l == [119,104,105,108,101] || l == [97,115,115,101,114,116] || l == [97,115,115,117,109,101] || l == [115,107,105,112] || l == [105,110,112,117,116] || l == [116,114,117,101] || l == [102,97,108,115,101]
theorem word_any (s:ByteArray) (w:World):Calls Tryz.prog 202 #[.string s] w fun e w'=>e=.returned (.bool (wordL s.toList))∧w=w':=by
 go_enter Tryz.func202,Tryz.ntmps202
 go_wp2
 all_goals
  go_ret
  refine ⟨ret_bool ?_,rfl⟩
  first | (exfalso;simp_all;done) | (unfold wordL;simp only [*,Bool.or_true,Bool.true_or,Bool.or_false])
def isLet (r:Int):Bool:=decide (cls r=3)
def isDig (r:Int):Bool:=decide (cls r=4)
def inNm (r:Int):Bool:=isLet r || isDig r
theorem isLetter_any (r:Int) (w:World):Calls Tryz.prog 201 #[.int .i32 r] w fun e w'=>e=.returned (.bool (isLet r))∧w=w':=by
 go_enter Tryz.func201,Tryz.ntmps201
 go_wp2_with (go_at_call 206;refine (class_any _ _).mono ?_;rintro e w' ⟨rfl,rfl⟩)
 go_ret
 exact ⟨ret_bool (by unfold isLet;rw [Bool.eq_iff_iff];simp),rfl⟩
theorem isDigit_any (r:Int) (w:World):Calls Tryz.prog 205 #[.int .i32 r] w fun e w'=>e=.returned (.bool (isDig r))∧w=w':=by
 go_enter Tryz.func205,Tryz.ntmps205
 go_wp2_with (go_at_call 206;refine (class_any _ _).mono ?_;rintro e w' ⟨rfl,rfl⟩)
 go_ret
 exact ⟨ret_bool (by unfold isDig;rw [Bool.eq_iff_iff];simp),rfl⟩
theorem inName_any (r:Int) (w:World):Calls Tryz.prog 200 #[.int .i32 r] w fun e w'=>e=.returned (.bool (inNm r))∧w=w':=by
 cases h:isLet r with
 | true =>
   have H:=Lib.hid h;clear h
   go_enter Tryz.func200,Tryz.ntmps200
   go_wp2_with (first | (go_at_call 201;refine (isLetter_any _ _).mono ?_;rintro e w' ⟨rfl,rfl⟩;have h:=H.out) | (go_at_call 205;refine (isDigit_any _ _).mono ?_;rintro e w' ⟨rfl,rfl⟩))
   go_ret
   exact ⟨ret_bool (by unfold inNm;rw [H.out];rfl),rfl⟩
 | false =>
   have H:=Lib.hid h;clear h
   go_enter Tryz.func200,Tryz.ntmps200
   go_wp2_with (first | (go_at_call 201;refine (isLetter_any _ _).mono ?_;rintro e w' ⟨rfl,rfl⟩;have h:=H.out) | (go_at_call 205;refine (isDigit_any _ _).mono ?_;rintro e w' ⟨rfl,rfl⟩))
   go_ret
   exact ⟨ret_bool (by unfold inNm;rw [H.out];simp),rfl⟩
def nmOk (r:Int) (n:Nat):Bool:=inNm r && (decide (n ≠ 0) || isLet r)
def nmG (s:ByteArray):Nat→Nat→Nat→Option Nat
 | 0,_,n=>some n
 | f+1,p,n=>if p < s.size then (if nmOk (rn s p) n=true then nmG s f (p+wd s p) (n+1) else none) else some n
def nameB (s:ByteArray):Bool:=match nmG s s.size 0 0 with
 | some N=>decide (0 < N∧N≤32) && !wordL s.toList
 | none=>false
theorem nmG_go {s:ByteArray} {f p n:Nat} (h:p < s.size) (ho:nmOk (rn s p) n=true):nmG s (f+1) p n=nmG s f (p+wd s p) (n+1):=by simp [nmG,h,ho]
theorem nmG_no {s:ByteArray} {f p n:Nat} (h:p < s.size) (ho:nmOk (rn s p) n=false):nmG s (f+1) p n=none:=by simp [nmG,h,ho]
theorem nmG_end {s:ByteArray} {f p n:Nat} (h:¬ p < s.size):nmG s f p n=some n:=by cases f <;> simp [nmG,h]
theorem nmG_ge (s:ByteArray):∀ f p n N,nmG s f p n=some N→n≤N
 | 0,p,n,N,h=>by simp [nmG] at h;omega
 | f+1,p,n,N,h=>by
   unfold nmG at h
   split at h
   · split at h
     · have:=nmG_ge s f _ _ _ h;omega
     · cases h
   · cases h;omega
theorem nmG_size (s:ByteArray):∀ f p n N,s.size≤p+f→nmG s f p n=some N→p≤s.size→s.size≤p+4 * (N - n)
 | 0,p,n,N,hf,h,hp=>by simp [nmG] at h;omega
 | f+1,p,n,N,hf,h,hp=>by
   unfold nmG at h
   split at h
   · rename_i hlt
     have hd:=dec_facts s p hlt
     split at h
     · have:=nmG_size s f _ _ _ (by omega) h hd.2.1
       have:=nmG_ge s f _ _ _ h
       omega
     · cases h
   · omega
structure NmRel (s:ByteArray) (p b n:Nat):Prop where
 eq:nmG s b p n=nmG s s.size 0 0
 fuel:s.size≤p+b
 le:p≤s.size
 n32:n≤32
 n0:n=0→p=0
theorem NmRel.next {s:ByteArray} {p b n:Nat} (h:NmRel s p b n) (hp:p < s.size) (ho:nmOk (rn s p) n=true) (h32:n ≠ 32):∃ b',NmRel s (p+wd s p) b' (n+1):=by
 obtain ⟨h1,h2,h3,h4,h5⟩:=h
 have hd:=dec_facts s p hp
 cases b with
 | zero=>omega
 | succ b=>exact ⟨b,by rw [← h1,nmG_go hp ho],by omega,hd.2.1,by omega,by omega⟩
theorem NmRel.no {s:ByteArray} {p b n:Nat} (h:NmRel s p b n) (hp:p < s.size) (ho:nmOk (rn s p) n=false):nmG s s.size 0 0=none:=by
 obtain ⟨h1,h2,h3,h4,h5⟩:=h
 cases b with
 | zero=>omega
 | succ b=>rw [← h1,nmG_no hp ho]
theorem NmRel.many {s:ByteArray} {p b:Nat} (h:NmRel s p b 32) (hp:p < s.size):nameB s=false:=by
 cases ho:nmOk (rn s p) 32 with
 | false=>unfold nameB;rw [h.no hp ho]
 | true =>
   obtain ⟨h1,h2,h3,h4,h5⟩:=h
   cases b with
   | zero=>omega
   | succ b =>
     rw [nmG_go hp ho] at h1
     unfold nameB
     rw [← h1]
     cases hN:nmG s b (p+wd s p) 33 with
     | none=>rfl
     | some N =>
       have:=nmG_ge s _ _ _ _ hN
       simp;omega
theorem NmRel.fin {s:ByteArray} {p b n:Nat} (h:NmRel s p b n) (hp:¬ p < s.size):nmG s s.size 0 0=some n:=by rw [← h.eq,nmG_end hp]
theorem nameB_none {s:ByteArray} (h:nmG s s.size 0 0=none):nameB s=false:=by unfold nameB;rw [h]
theorem nameB_some {s:ByteArray} {n:Nat} (h:nmG s s.size 0 0=some n):nameB s=(decide (0 < n∧n≤32) && !wordL s.toList):=by unfold nameB;rw [h]
theorem inName_is (r:Int) (b:Bool) (hb:inNm r=b) (w:World):Calls Tryz.prog 200 #[.int .i32 r] w fun e w'=>e=.returned (.bool b)∧w=w':=by
 rw [← hb]
 exact inName_any r w
theorem isLetter_at (r:Int) (b:Bool) (hb:isLet r=b) (w:World):Calls Tryz.prog 201 #[.int .i32 r] w fun e w'=>e=.returned (.bool b)∧w=w':=by
 rw [← hb]
 exact isLetter_any r w
theorem word_is (s:ByteArray) (b:Bool) (hb:wordL s.toList=b) (w:World):Calls Tryz.prog 202 #[.string s] w fun e w'=>e=.returned (.bool b)∧w=w':=by
 rw [← hb]
 exact word_any s w
set_option maxHeartbeats 4000000 in
theorem name_any (s:ByteArray) (w:World) (hs:s.size≤maxLen) :
    Calls Tryz.prog 181 #[.string s] w fun e w'=>e=.returned (.bool (nameB s))∧Below w.heap.size w w':=by
 unfold maxLen at hs
 go_enter Tryz.func181,Tryz.ntmps181
 go_wp2
 go_loopw [3] (fun cv wr=>∃ (pos b n:Nat),cv=.int .i64 n∧wr.heap[w.heap.size]?=some (.stringIter s pos)∧Below w.heap.size w wr∧NmRel s pos b n) (fun _ wr=>s.size - wr.iterPos w.heap.size)
 case atStart=>exact ⟨0,s.size,0,rfl,World.iter_heap w s 0,(Below.refl _ _).alloc (Nat.le_refl _) _,rfl,by omega,by omega,by omega,fun _=>rfl⟩
 case round =>
  obtain ⟨pos,b,n,rfl,hit,hB,hrel⟩:=hrel
  have hn32:=hrel.n32
  have HR:=Lib.hid hrel;clear hrel
  have HI:=Lib.hid hit
  by_cases hp:pos < s.size
  · have hnx:∀ ty,(Instr.next (.pointer (some ⟨w.heap.size,0,none⟩)) true ty).run Tryz.prog wr=.ok (.tuple #[.bool true,.int .i64 pos,.int .i32 (rn s pos)]) (wr.iterAt w.heap.size s (pos+wd s pos)):=fun ty=>Lib.run_next_any_at wr w.heap.size s pos ty hit hp
    have hd:=dec_facts s pos hp
    have HN:=Lib.hid (Lib.iterAt_heap wr w.heap.size s pos (pos+wd s pos) hit)
    have hB1:=Lib.below_iterAt hB (Nat.le_refl _) s (pos+wd s pos)
    clear hit
    have HI1:=Lib.hid (show (wr.iterAt w.heap.size s (pos+wd s pos)).iterPos w.heap.size=pos+wd s pos from iterPos_of HN.out)
    have HJ1:=Lib.hid (show wr.iterPos w.heap.size=pos from iterPos_of HI.out)
    cases ht:inNm (rn s pos) with
    | false =>
      have HF:=Lib.hid (show nameB s=false from nameB_none (HR.out.no hp (by unfold nmOk;rw [ht];rfl)))
      have HT:=Lib.hid (fun w=>inName_is (rn s pos) false ht w);clear ht
      go_wp2_with (go_at_call 200;refine (HT.out _).mono ?_;rintro e w' ⟨rfl,rfl⟩)
      go_ret
      exact ⟨ret_bool HF.out.symm,hB1⟩
    | true =>
      have HT:=Lib.hid (fun w=>inName_is (rn s pos) true ht w)
      by_cases h0:n=0
      · subst h0
        cases hl:isLet (rn s pos) with
        | false =>
          have HF:=Lib.hid (show nameB s=false from nameB_none (HR.out.no hp (by unfold nmOk;rw [hl];simp)))
          have HL:=Lib.hid (fun w=>isLetter_at (rn s pos) false hl w);clear hl ht
          go_wp2_with (first | (go_at_call 200;refine (HT.out _).mono ?_;rintro e w' ⟨rfl,rfl⟩) | (go_at_call 201;refine (HL.out _).mono ?_;rintro e w' ⟨rfl,rfl⟩))
          go_ret
          exact ⟨ret_bool HF.out.symm,hB1⟩
        | true =>
          have HX:=Lib.hid (HR.out.next hp (by unfold nmOk;rw [hl,ht];rfl) (by omega))
          have HL:=Lib.hid (fun w=>isLetter_at (rn s pos) true hl w);clear hl ht
          go_wp2_with (first | (go_at_call 200;refine (HT.out _).mono ?_;rintro e w' ⟨rfl,rfl⟩) | (go_at_call 201;refine (HL.out _).mono ?_;rintro e w' ⟨rfl,rfl⟩))
          go_roundw
          case rel =>
           obtain ⟨b',hb'⟩:=HX.out
           exact ⟨pos+wd s pos,b',1,rfl,HN.out,hB1,hb'⟩
          case measure=>rw [HI1.out,HJ1.out];omega
      · have h0':¬ (n:Int)=0:=by omega
        by_cases h32:n=32
        · subst h32
          have HF:=Lib.hid (show nameB s=false from HR.out.many hp)
          clear ht
          go_wp2_with (first | (go_at_call 200;refine (HT.out _).mono ?_;rintro e w' ⟨rfl,rfl⟩))
          go_ret
          exact ⟨ret_bool HF.out.symm,hB1⟩
        · have h32':¬ (n:Int)=32:=by omega
          have HX:=Lib.hid (HR.out.next hp (by unfold nmOk;rw [ht];simp [h0]) h32)
          clear ht
          go_wp2_with (first | (go_at_call 200;refine (HT.out _).mono ?_;rintro e w' ⟨rfl,rfl⟩))
          go_roundw
          case rel =>
           obtain ⟨b',hb'⟩:=HX.out
           exact ⟨pos+wd s pos,b',n+1,by go_num,HN.out,hB1,hb'⟩
          case measure=>rw [HI1.out,HJ1.out];omega
  · have hnx:∀ ty,(Instr.next (.pointer (some ⟨w.heap.size,0,none⟩)) true ty).run Tryz.prog wr=_:=fun ty=>Lib.run_next_end_at wr w.heap.size s pos ty hit hp
    clear hit
    have HF:=Lib.hid (nameB_some (HR.out.fin hp))
    by_cases h0:0 < n
    · have h0':(0:Int) < (n:Int):=by omega
      cases hw:wordL s.toList with
      | true =>
        have HW:=Lib.hid (fun w=>word_is s true hw w)
        have HF2:=Lib.hid (show nameB s=false by rw [HF.out,hw];simp);clear hw
        go_wp2_with (go_at_call 202;refine (HW.out _).mono ?_;rintro e w' ⟨rfl,rfl⟩)
        go_ret
        exact ⟨ret_bool HF2.out.symm,hB⟩
      | false =>
        have HW:=Lib.hid (fun w=>word_is s false hw w)
        have HF2:=Lib.hid (show nameB s=true by rw [HF.out,hw];simp;omega);clear hw
        go_wp2_with (go_at_call 202;refine (HW.out _).mono ?_;rintro e w' ⟨rfl,rfl⟩)
        go_ret
        exact ⟨ret_bool HF2.out.symm,hB⟩
    · have h0':¬ (0:Int) < (n:Int):=by omega
      have HF2:=Lib.hid (show nameB s=false by rw [HF.out];simp;omega)
      go_wp2
      go_ret
      exact ⟨ret_bool HF2.out.symm,hB⟩
def argsE (k:Int):Int:=if k=4 ∨ k=5 then 1 else if 6≤k∧k≤10 then 2 else 0
def kindE (k:Int):Bool:=decide (1≤k∧k≤10)
def ownE (k n:Int) (len:Nat):Bool:=((len:Int) == argsE k) && ((n == 0) || ((k == 1) && decide (0 < n)))
def exprsC (k:Int):Int:=if k=3 then 2 else 0
def partsC (k:Int):Int:=if k=4 then 1 else if k=5 ∨ k=6 then 2 else 0
def kindC (k:Int):Bool:=decide (1≤k∧k≤6)
def opC (k n:Int):Bool:=if k=3 then decide (1≤n∧n≤6) else n == 0
def ownC (k n:Int) (xl cl:Nat):Bool:=opC k n && (((xl:Int) == exprsC k) && ((cl:Int) == partsC k))
def exprsS (k:Int):Int:=if k=1 then 1 else if k=2 then 2 else 0
def condsS (k:Int):Int:=if 3≤k∧k≤6 then 1 else 0
def kindS (k:Int):Bool:=decide (1≤k∧k≤7)
def ownS (k:Int) (xl cl tl el:Nat):Bool:=((xl:Int) == exprsS k) && (((cl:Int) == condsS k) && ((((tl:Int) == 0) || ((k == 3) || (k == 4))) && (((el:Int) == 0) || (k == 3))))
def wellE (k n:Int) (nm:ByteArray) (len:Nat):Bool:=(kindE k && (((k == 2) || (k == 4)) || (nm.toList == []))) && ownE k n len
def wellC (k n:Int) (xl cl:Nat):Bool:=kindC k && ownC k n xl cl
set_option maxRecDepth 100000 in
set_option maxHeartbeats 8000000 in
theorem exprForm_any (k n:Int) (nm:ByteArray) (a:Option Addr) (len c:Nat) (w:World):Calls Tryz.prog 179 #[.agg #[.int .i64 k,.int .i64 n,.string nm,.slice a len c]] w (fun e w'=>e=.returned (.bool (wellE k n nm len))∧Below w.heap.size w w'):=by
 have ha:=(Below.refl w.heap.size w).alloc (Nat.le_refl _) (.cells #[.int .i64 k,.int .i64 n,.string nm,.slice a len c] 248)
 by_cases q1:k=1
 · subst q1
   have eq:wellE 1 n nm len=(decide (0≤n) && ((nm.toList == []) && ((len:Int) == 0))):=by
    have hz:decide (0≤n)=((n == 0) || decide (0 < n)):=by
     by_cases h:n=0
     · subst h;rfl
     · rw [show (n == 0)=false from by simpa using h,Bool.false_or];exact decide_eq_decide.2 (by omega)
    rw [hz]
    show ((true && (false || (nm.toList == []))) && (((len:Int) == 0) && ((n == 0) || (true && decide (0 < n)))))=_
    cases (nm.toList == []) <;> cases ((len:Int) == 0) <;> cases (n == 0) <;> cases decide (0 < n) <;> rfl
   cases h1:decide (0≤n) with
   | false =>
     have e:wellE 1 n nm len=false:=by rw [eq,h1];rfl
     rw [e]
     clear e eq
     go_enter Tryz.func179,Tryz.ntmps179
     go_wp2
     go_ret
     exact ⟨rfl,ha⟩
   | true =>
     cases h2:(nm.toList == []) with
     | false =>
       have e:wellE 1 n nm len=false:=by rw [eq,h1,h2];rfl
       rw [e]
       clear e eq
       go_enter Tryz.func179,Tryz.ntmps179
       go_wp2
       go_ret
       exact ⟨rfl,ha⟩
     | true =>
       cases h3:((len:Int) == 0) with
       | false =>
         have e:wellE 1 n nm len=false:=by rw [eq,h1,h2,h3];rfl
         rw [e]
         clear e eq
         go_enter Tryz.func179,Tryz.ntmps179
         go_wp2
         go_ret
         exact ⟨rfl,ha⟩
       | true =>
         have e:wellE 1 n nm len=true:=by rw [eq,h1,h2,h3];rfl
         rw [e]
         clear e eq
         go_enter Tryz.func179,Tryz.ntmps179
         go_wp2
         go_ret
         exact ⟨rfl,ha⟩
 by_cases q2:k=2
 · subst q2
   have eq:wellE 2 n nm len=((n == 0) && ((len:Int) == 0)):=by
    show ((true && (true || (nm.toList == []))) && (((len:Int) == 0) && ((n == 0) || (false && decide (0 < n)))))=_
    cases (nm.toList == []) <;> cases ((len:Int) == 0) <;> cases (n == 0) <;> rfl
   cases h1:(n == 0) with
   | false =>
     have e:wellE 2 n nm len=false:=by rw [eq,h1];rfl
     rw [e]
     clear e eq
     go_enter Tryz.func179,Tryz.ntmps179
     go_wp2
     go_ret
     exact ⟨rfl,ha⟩
   | true =>
     cases h2:((len:Int) == 0) with
     | false =>
       have e:wellE 2 n nm len=false:=by rw [eq,h1,h2];rfl
       rw [e]
       clear e eq
       go_enter Tryz.func179,Tryz.ntmps179
       go_wp2
       go_ret
       exact ⟨rfl,ha⟩
     | true =>
       have e:wellE 2 n nm len=true:=by rw [eq,h1,h2];rfl
       rw [e]
       clear e eq
       go_enter Tryz.func179,Tryz.ntmps179
       go_wp2
       go_ret
       exact ⟨rfl,ha⟩
 by_cases q3:k=3
 · subst q3
   have eq:wellE 3 n nm len=((n == 0) && ((nm.toList == []) && ((len:Int) == 0))):=by
    show ((true && (false || (nm.toList == []))) && (((len:Int) == 0) && ((n == 0) || (false && decide (0 < n)))))=_
    cases (nm.toList == []) <;> cases ((len:Int) == 0) <;> cases (n == 0) <;> rfl
   cases h1:(n == 0) with
   | false =>
     have e:wellE 3 n nm len=false:=by rw [eq,h1];rfl
     rw [e]
     clear e eq
     go_enter Tryz.func179,Tryz.ntmps179
     go_wp2
     go_ret
     exact ⟨rfl,ha⟩
   | true =>
     cases h2:(nm.toList == []) with
     | false =>
       have e:wellE 3 n nm len=false:=by rw [eq,h1,h2];rfl
       rw [e]
       clear e eq
       go_enter Tryz.func179,Tryz.ntmps179
       go_wp2
       go_ret
       exact ⟨rfl,ha⟩
     | true =>
       cases h3:((len:Int) == 0) with
       | false =>
         have e:wellE 3 n nm len=false:=by rw [eq,h1,h2,h3];rfl
         rw [e]
         clear e eq
         go_enter Tryz.func179,Tryz.ntmps179
         go_wp2
         go_ret
         exact ⟨rfl,ha⟩
       | true =>
         have e:wellE 3 n nm len=true:=by rw [eq,h1,h2,h3];rfl
         rw [e]
         clear e eq
         go_enter Tryz.func179,Tryz.ntmps179
         go_wp2
         go_ret
         exact ⟨rfl,ha⟩
 by_cases q4:k=4
 · subst q4
   have eq:wellE 4 n nm len=((n == 0) && ((len:Int) == 1)):=by
    show ((true && (true || (nm.toList == []))) && (((len:Int) == 1) && ((n == 0) || (false && decide (0 < n)))))=_
    cases (nm.toList == []) <;> cases ((len:Int) == 1) <;> cases (n == 0) <;> rfl
   cases h1:(n == 0) with
   | false =>
     have e:wellE 4 n nm len=false:=by rw [eq,h1];rfl
     rw [e]
     clear e eq
     go_enter Tryz.func179,Tryz.ntmps179
     go_wp2
     go_ret
     exact ⟨rfl,ha⟩
   | true =>
     cases h2:((len:Int) == 1) with
     | false =>
       have e:wellE 4 n nm len=false:=by rw [eq,h1,h2];rfl
       rw [e]
       clear e eq
       go_enter Tryz.func179,Tryz.ntmps179
       go_wp2
       go_ret
       exact ⟨rfl,ha⟩
     | true =>
       have e:wellE 4 n nm len=true:=by rw [eq,h1,h2];rfl
       rw [e]
       clear e eq
       go_enter Tryz.func179,Tryz.ntmps179
       go_wp2
       go_ret
       exact ⟨rfl,ha⟩
 by_cases q5:k=5
 · subst q5
   have eq:wellE 5 n nm len=((n == 0) && ((nm.toList == []) && ((len:Int) == 1))):=by
    show ((true && (false || (nm.toList == []))) && (((len:Int) == 1) && ((n == 0) || (false && decide (0 < n)))))=_
    cases (nm.toList == []) <;> cases ((len:Int) == 1) <;> cases (n == 0) <;> rfl
   cases h1:(n == 0) with
   | false =>
     have e:wellE 5 n nm len=false:=by rw [eq,h1];rfl
     rw [e]
     clear e eq
     go_enter Tryz.func179,Tryz.ntmps179
     go_wp2
     go_ret
     exact ⟨rfl,ha⟩
   | true =>
     cases h2:(nm.toList == []) with
     | false =>
       have e:wellE 5 n nm len=false:=by rw [eq,h1,h2];rfl
       rw [e]
       clear e eq
       go_enter Tryz.func179,Tryz.ntmps179
       go_wp2
       go_ret
       exact ⟨rfl,ha⟩
     | true =>
       cases h3:((len:Int) == 1) with
       | false =>
         have e:wellE 5 n nm len=false:=by rw [eq,h1,h2,h3];rfl
         rw [e]
         clear e eq
         go_enter Tryz.func179,Tryz.ntmps179
         go_wp2
         go_ret
         exact ⟨rfl,ha⟩
       | true =>
         have e:wellE 5 n nm len=true:=by rw [eq,h1,h2,h3];rfl
         rw [e]
         clear e eq
         go_enter Tryz.func179,Tryz.ntmps179
         go_wp2
         go_ret
         exact ⟨rfl,ha⟩
 by_cases q6:k=6
 · subst q6
   have eq:wellE 6 n nm len=((n == 0) && ((nm.toList == []) && ((len:Int) == 2))):=by
    show ((true && (false || (nm.toList == []))) && (((len:Int) == 2) && ((n == 0) || (false && decide (0 < n)))))=_
    cases (nm.toList == []) <;> cases ((len:Int) == 2) <;> cases (n == 0) <;> rfl
   cases h1:(n == 0) with
   | false =>
     have e:wellE 6 n nm len=false:=by rw [eq,h1];rfl
     rw [e]
     clear e eq
     go_enter Tryz.func179,Tryz.ntmps179
     go_wp2
     go_ret
     exact ⟨rfl,ha⟩
   | true =>
     cases h2:(nm.toList == []) with
     | false =>
       have e:wellE 6 n nm len=false:=by rw [eq,h1,h2];rfl
       rw [e]
       clear e eq
       go_enter Tryz.func179,Tryz.ntmps179
       go_wp2
       go_ret
       exact ⟨rfl,ha⟩
     | true =>
       cases h3:((len:Int) == 2) with
       | false =>
         have e:wellE 6 n nm len=false:=by rw [eq,h1,h2,h3];rfl
         rw [e]
         clear e eq
         go_enter Tryz.func179,Tryz.ntmps179
         go_wp2
         go_ret
         exact ⟨rfl,ha⟩
       | true =>
         have e:wellE 6 n nm len=true:=by rw [eq,h1,h2,h3];rfl
         rw [e]
         clear e eq
         go_enter Tryz.func179,Tryz.ntmps179
         go_wp2
         go_ret
         exact ⟨rfl,ha⟩
 by_cases q7:k=7
 · subst q7
   have eq:wellE 7 n nm len=((n == 0) && ((nm.toList == []) && ((len:Int) == 2))):=by
    show ((true && (false || (nm.toList == []))) && (((len:Int) == 2) && ((n == 0) || (false && decide (0 < n)))))=_
    cases (nm.toList == []) <;> cases ((len:Int) == 2) <;> cases (n == 0) <;> rfl
   cases h1:(n == 0) with
   | false =>
     have e:wellE 7 n nm len=false:=by rw [eq,h1];rfl
     rw [e]
     clear e eq
     go_enter Tryz.func179,Tryz.ntmps179
     go_wp2
     go_ret
     exact ⟨rfl,ha⟩
   | true =>
     cases h2:(nm.toList == []) with
     | false =>
       have e:wellE 7 n nm len=false:=by rw [eq,h1,h2];rfl
       rw [e]
       clear e eq
       go_enter Tryz.func179,Tryz.ntmps179
       go_wp2
       go_ret
       exact ⟨rfl,ha⟩
     | true =>
       cases h3:((len:Int) == 2) with
       | false =>
         have e:wellE 7 n nm len=false:=by rw [eq,h1,h2,h3];rfl
         rw [e]
         clear e eq
         go_enter Tryz.func179,Tryz.ntmps179
         go_wp2
         go_ret
         exact ⟨rfl,ha⟩
       | true =>
         have e:wellE 7 n nm len=true:=by rw [eq,h1,h2,h3];rfl
         rw [e]
         clear e eq
         go_enter Tryz.func179,Tryz.ntmps179
         go_wp2
         go_ret
         exact ⟨rfl,ha⟩
 by_cases q8:k=8
 · subst q8
   have eq:wellE 8 n nm len=((n == 0) && ((nm.toList == []) && ((len:Int) == 2))):=by
    show ((true && (false || (nm.toList == []))) && (((len:Int) == 2) && ((n == 0) || (false && decide (0 < n)))))=_
    cases (nm.toList == []) <;> cases ((len:Int) == 2) <;> cases (n == 0) <;> rfl
   cases h1:(n == 0) with
   | false =>
     have e:wellE 8 n nm len=false:=by rw [eq,h1];rfl
     rw [e]
     clear e eq
     go_enter Tryz.func179,Tryz.ntmps179
     go_wp2
     go_ret
     exact ⟨rfl,ha⟩
   | true =>
     cases h2:(nm.toList == []) with
     | false =>
       have e:wellE 8 n nm len=false:=by rw [eq,h1,h2];rfl
       rw [e]
       clear e eq
       go_enter Tryz.func179,Tryz.ntmps179
       go_wp2
       go_ret
       exact ⟨rfl,ha⟩
     | true =>
       cases h3:((len:Int) == 2) with
       | false =>
         have e:wellE 8 n nm len=false:=by rw [eq,h1,h2,h3];rfl
         rw [e]
         clear e eq
         go_enter Tryz.func179,Tryz.ntmps179
         go_wp2
         go_ret
         exact ⟨rfl,ha⟩
       | true =>
         have e:wellE 8 n nm len=true:=by rw [eq,h1,h2,h3];rfl
         rw [e]
         clear e eq
         go_enter Tryz.func179,Tryz.ntmps179
         go_wp2
         go_ret
         exact ⟨rfl,ha⟩
 by_cases q9:k=9
 · subst q9
   have eq:wellE 9 n nm len=((n == 0) && ((nm.toList == []) && ((len:Int) == 2))):=by
    show ((true && (false || (nm.toList == []))) && (((len:Int) == 2) && ((n == 0) || (false && decide (0 < n)))))=_
    cases (nm.toList == []) <;> cases ((len:Int) == 2) <;> cases (n == 0) <;> rfl
   cases h1:(n == 0) with
   | false =>
     have e:wellE 9 n nm len=false:=by rw [eq,h1];rfl
     rw [e]
     clear e eq
     go_enter Tryz.func179,Tryz.ntmps179
     go_wp2
     go_ret
     exact ⟨rfl,ha⟩
   | true =>
     cases h2:(nm.toList == []) with
     | false =>
       have e:wellE 9 n nm len=false:=by rw [eq,h1,h2];rfl
       rw [e]
       clear e eq
       go_enter Tryz.func179,Tryz.ntmps179
       go_wp2
       go_ret
       exact ⟨rfl,ha⟩
     | true =>
       cases h3:((len:Int) == 2) with
       | false =>
         have e:wellE 9 n nm len=false:=by rw [eq,h1,h2,h3];rfl
         rw [e]
         clear e eq
         go_enter Tryz.func179,Tryz.ntmps179
         go_wp2
         go_ret
         exact ⟨rfl,ha⟩
       | true =>
         have e:wellE 9 n nm len=true:=by rw [eq,h1,h2,h3];rfl
         rw [e]
         clear e eq
         go_enter Tryz.func179,Tryz.ntmps179
         go_wp2
         go_ret
         exact ⟨rfl,ha⟩
 by_cases q10:k=10
 · subst q10
   have eq:wellE 10 n nm len=((n == 0) && ((nm.toList == []) && ((len:Int) == 2))):=by
    show ((true && (false || (nm.toList == []))) && (((len:Int) == 2) && ((n == 0) || (false && decide (0 < n)))))=_
    cases (nm.toList == []) <;> cases ((len:Int) == 2) <;> cases (n == 0) <;> rfl
   cases h1:(n == 0) with
   | false =>
     have e:wellE 10 n nm len=false:=by rw [eq,h1];rfl
     rw [e]
     clear e eq
     go_enter Tryz.func179,Tryz.ntmps179
     go_wp2
     go_ret
     exact ⟨rfl,ha⟩
   | true =>
     cases h2:(nm.toList == []) with
     | false =>
       have e:wellE 10 n nm len=false:=by rw [eq,h1,h2];rfl
       rw [e]
       clear e eq
       go_enter Tryz.func179,Tryz.ntmps179
       go_wp2
       go_ret
       exact ⟨rfl,ha⟩
     | true =>
       cases h3:((len:Int) == 2) with
       | false =>
         have e:wellE 10 n nm len=false:=by rw [eq,h1,h2,h3];rfl
         rw [e]
         clear e eq
         go_enter Tryz.func179,Tryz.ntmps179
         go_wp2
         go_ret
         exact ⟨rfl,ha⟩
       | true =>
         have e:wellE 10 n nm len=true:=by rw [eq,h1,h2,h3];rfl
         rw [e]
         clear e eq
         go_enter Tryz.func179,Tryz.ntmps179
         go_wp2
         go_ret
         exact ⟨rfl,ha⟩
 have e:wellE k n nm len=false:=by
  have:kindE k=false:=by unfold kindE;rw [decide_eq_false_iff_not];omega
  unfold wellE;rw [this];rfl
 rw [e]
 clear e
 have k1:(k == 1)=false:=by simpa using q1
 have k2:(k == 2)=false:=by simpa using q2
 have k3:(k == 3)=false:=by simpa using q3
 have k4:(k == 4)=false:=by simpa using q4
 have k5:(k == 5)=false:=by simpa using q5
 have k6:(k == 6)=false:=by simpa using q6
 have k7:(k == 7)=false:=by simpa using q7
 have k8:(k == 8)=false:=by simpa using q8
 have k9:(k == 9)=false:=by simpa using q9
 have k10:(k == 10)=false:=by simpa using q10
 clear q1 q2 q3 q4 q5 q6 q7 q8 q9 q10
 go_enter Tryz.func179,Tryz.ntmps179
 go_wp2
 go_ret
 exact ⟨rfl,ha⟩
set_option maxRecDepth 100000 in
set_option maxHeartbeats 8000000 in
theorem condForm_any (k n:Int) (a:Option Addr) (xl c:Nat) (a2:Option Addr) (cl c2:Nat) (w:World):Calls Tryz.prog 178 #[.agg #[.int .i64 k,.int .i64 n,.slice a xl c,.slice a2 cl c2]] w (fun e w'=>e=.returned (.bool (wellC k n xl cl))∧Below w.heap.size w w'):=by
 have ha:=(Below.refl w.heap.size w).alloc (Nat.le_refl _) (.cells #[.int .i64 k,.int .i64 n,.slice a xl c,.slice a2 cl c2] 246)
 by_cases q1:k=1
 · subst q1
   have eq:wellC 1 n xl cl=((n == 0) && (((xl:Int) == 0) && ((cl:Int) == 0))):=by
    show (true && ((n == 0) && (((xl:Int) == 0) && ((cl:Int) == 0))))=_
    cases (n == 0) <;> cases ((xl:Int) == 0) <;> cases ((cl:Int) == 0) <;> rfl
   cases h1:(n == 0) with
   | false =>
     have e:wellC 1 n xl cl=false:=by rw [eq,h1];rfl
     rw [e]
     clear e eq
     go_enter Tryz.func178,Tryz.ntmps178
     go_wp2
     go_quiet (fail)
     go_wp2
     go_ret
     exact ⟨rfl,below_drewN ha _⟩
   | true =>
     cases h2:((xl:Int) == 0) with
     | false =>
       have e:wellC 1 n xl cl=false:=by rw [eq,h1,h2];rfl
       rw [e]
       clear e eq
       go_enter Tryz.func178,Tryz.ntmps178
       go_wp2
       go_quiet (fail)
       go_wp2
       go_ret
       exact ⟨rfl,below_drewN ha _⟩
     | true =>
       cases h3:((cl:Int) == 0) with
       | false =>
         have e:wellC 1 n xl cl=false:=by rw [eq,h1,h2,h3];rfl
         rw [e]
         clear e eq
         go_enter Tryz.func178,Tryz.ntmps178
         go_wp2
         go_quiet (fail)
         go_wp2
         go_ret
         exact ⟨rfl,below_drewN ha _⟩
       | true =>
         have e:wellC 1 n xl cl=true:=by rw [eq,h1,h2,h3];rfl
         rw [e]
         clear e eq
         go_enter Tryz.func178,Tryz.ntmps178
         go_wp2
         go_quiet (fail)
         go_wp2
         go_ret
         exact ⟨rfl,below_drewN ha _⟩
 by_cases q2:k=2
 · subst q2
   have eq:wellC 2 n xl cl=((n == 0) && (((xl:Int) == 0) && ((cl:Int) == 0))):=by
    show (true && ((n == 0) && (((xl:Int) == 0) && ((cl:Int) == 0))))=_
    cases (n == 0) <;> cases ((xl:Int) == 0) <;> cases ((cl:Int) == 0) <;> rfl
   cases h1:(n == 0) with
   | false =>
     have e:wellC 2 n xl cl=false:=by rw [eq,h1];rfl
     rw [e]
     clear e eq
     go_enter Tryz.func178,Tryz.ntmps178
     go_wp2
     go_quiet (fail)
     go_wp2
     go_ret
     exact ⟨rfl,below_drewN ha _⟩
   | true =>
     cases h2:((xl:Int) == 0) with
     | false =>
       have e:wellC 2 n xl cl=false:=by rw [eq,h1,h2];rfl
       rw [e]
       clear e eq
       go_enter Tryz.func178,Tryz.ntmps178
       go_wp2
       go_quiet (fail)
       go_wp2
       go_ret
       exact ⟨rfl,below_drewN ha _⟩
     | true =>
       cases h3:((cl:Int) == 0) with
       | false =>
         have e:wellC 2 n xl cl=false:=by rw [eq,h1,h2,h3];rfl
         rw [e]
         clear e eq
         go_enter Tryz.func178,Tryz.ntmps178
         go_wp2
         go_quiet (fail)
         go_wp2
         go_ret
         exact ⟨rfl,below_drewN ha _⟩
       | true =>
         have e:wellC 2 n xl cl=true:=by rw [eq,h1,h2,h3];rfl
         rw [e]
         clear e eq
         go_enter Tryz.func178,Tryz.ntmps178
         go_wp2
         go_quiet (fail)
         go_wp2
         go_ret
         exact ⟨rfl,below_drewN ha _⟩
 by_cases q3:k=3
 · subst q3
   have eq:wellC 3 n xl cl=(decide (1≤n) && (decide (n≤6) && (((xl:Int) == 2) && ((cl:Int) == 0)))):=by
    show (true && (decide (1≤n∧n≤6) && (((xl:Int) == 2) && ((cl:Int) == 0))))=_
    rw [Bool.decide_and]
    cases decide (1≤n) <;> cases decide (n≤6) <;> cases ((xl:Int) == 2) <;> cases ((cl:Int) == 0) <;> rfl
   cases h1:decide (1≤n) with
   | false =>
     have e:wellC 3 n xl cl=false:=by rw [eq,h1];rfl
     rw [e]
     clear e eq
     go_enter Tryz.func178,Tryz.ntmps178
     go_wp2
     go_quiet (fail)
     go_wp2
     go_ret
     exact ⟨rfl,below_drewN ha _⟩
   | true =>
     cases h2:decide (n≤6) with
     | false =>
       have e:wellC 3 n xl cl=false:=by rw [eq,h1,h2];rfl
       rw [e]
       clear e eq
       go_enter Tryz.func178,Tryz.ntmps178
       go_wp2
       go_quiet (fail)
       go_wp2
       go_ret
       exact ⟨rfl,below_drewN ha _⟩
     | true =>
       cases h3:((xl:Int) == 2) with
       | false =>
         have e:wellC 3 n xl cl=false:=by rw [eq,h1,h2,h3];rfl
         rw [e]
         clear e eq
         go_enter Tryz.func178,Tryz.ntmps178
         go_wp2
         go_quiet (fail)
         go_wp2
         go_ret
         exact ⟨rfl,below_drewN ha _⟩
       | true =>
         cases h4:((cl:Int) == 0) with
         | false =>
           have e:wellC 3 n xl cl=false:=by rw [eq,h1,h2,h3,h4];rfl
           rw [e]
           clear e eq
           go_enter Tryz.func178,Tryz.ntmps178
           go_wp2
           go_quiet (fail)
           go_wp2
           go_ret
           exact ⟨rfl,below_drewN ha _⟩
         | true =>
           have e:wellC 3 n xl cl=true:=by rw [eq,h1,h2,h3,h4];rfl
           rw [e]
           clear e eq
           go_enter Tryz.func178,Tryz.ntmps178
           go_wp2
           go_quiet (fail)
           go_wp2
           go_ret
           exact ⟨rfl,below_drewN ha _⟩
 by_cases q4:k=4
 · subst q4
   have eq:wellC 4 n xl cl=((n == 0) && (((xl:Int) == 0) && ((cl:Int) == 1))):=by
    show (true && ((n == 0) && (((xl:Int) == 0) && ((cl:Int) == 1))))=_
    cases (n == 0) <;> cases ((xl:Int) == 0) <;> cases ((cl:Int) == 1) <;> rfl
   cases h1:(n == 0) with
   | false =>
     have e:wellC 4 n xl cl=false:=by rw [eq,h1];rfl
     rw [e]
     clear e eq
     go_enter Tryz.func178,Tryz.ntmps178
     go_wp2
     go_quiet (fail)
     go_wp2
     go_ret
     exact ⟨rfl,below_drewN ha _⟩
   | true =>
     cases h2:((xl:Int) == 0) with
     | false =>
       have e:wellC 4 n xl cl=false:=by rw [eq,h1,h2];rfl
       rw [e]
       clear e eq
       go_enter Tryz.func178,Tryz.ntmps178
       go_wp2
       go_quiet (fail)
       go_wp2
       go_ret
       exact ⟨rfl,below_drewN ha _⟩
     | true =>
       cases h3:((cl:Int) == 1) with
       | false =>
         have e:wellC 4 n xl cl=false:=by rw [eq,h1,h2,h3];rfl
         rw [e]
         clear e eq
         go_enter Tryz.func178,Tryz.ntmps178
         go_wp2
         go_quiet (fail)
         go_wp2
         go_ret
         exact ⟨rfl,below_drewN ha _⟩
       | true =>
         have e:wellC 4 n xl cl=true:=by rw [eq,h1,h2,h3];rfl
         rw [e]
         clear e eq
         go_enter Tryz.func178,Tryz.ntmps178
         go_wp2
         go_quiet (fail)
         go_wp2
         go_ret
         exact ⟨rfl,below_drewN ha _⟩
 by_cases q5:k=5
 · subst q5
   have eq:wellC 5 n xl cl=((n == 0) && (((xl:Int) == 0) && ((cl:Int) == 2))):=by
    show (true && ((n == 0) && (((xl:Int) == 0) && ((cl:Int) == 2))))=_
    cases (n == 0) <;> cases ((xl:Int) == 0) <;> cases ((cl:Int) == 2) <;> rfl
   cases h1:(n == 0) with
   | false =>
     have e:wellC 5 n xl cl=false:=by rw [eq,h1];rfl
     rw [e]
     clear e eq
     go_enter Tryz.func178,Tryz.ntmps178
     go_wp2
     go_quiet (fail)
     go_wp2
     go_ret
     exact ⟨rfl,below_drewN ha _⟩
   | true =>
     cases h2:((xl:Int) == 0) with
     | false =>
       have e:wellC 5 n xl cl=false:=by rw [eq,h1,h2];rfl
       rw [e]
       clear e eq
       go_enter Tryz.func178,Tryz.ntmps178
       go_wp2
       go_quiet (fail)
       go_wp2
       go_ret
       exact ⟨rfl,below_drewN ha _⟩
     | true =>
       cases h3:((cl:Int) == 2) with
       | false =>
         have e:wellC 5 n xl cl=false:=by rw [eq,h1,h2,h3];rfl
         rw [e]
         clear e eq
         go_enter Tryz.func178,Tryz.ntmps178
         go_wp2
         go_quiet (fail)
         go_wp2
         go_ret
         exact ⟨rfl,below_drewN ha _⟩
       | true =>
         have e:wellC 5 n xl cl=true:=by rw [eq,h1,h2,h3];rfl
         rw [e]
         clear e eq
         go_enter Tryz.func178,Tryz.ntmps178
         go_wp2
         go_quiet (fail)
         go_wp2
         go_ret
         exact ⟨rfl,below_drewN ha _⟩
 by_cases q6:k=6
 · subst q6
   have eq:wellC 6 n xl cl=((n == 0) && (((xl:Int) == 0) && ((cl:Int) == 2))):=by
    show (true && ((n == 0) && (((xl:Int) == 0) && ((cl:Int) == 2))))=_
    cases (n == 0) <;> cases ((xl:Int) == 0) <;> cases ((cl:Int) == 2) <;> rfl
   cases h1:(n == 0) with
   | false =>
     have e:wellC 6 n xl cl=false:=by rw [eq,h1];rfl
     rw [e]
     clear e eq
     go_enter Tryz.func178,Tryz.ntmps178
     go_wp2
     go_quiet (fail)
     go_wp2
     go_ret
     exact ⟨rfl,below_drewN ha _⟩
   | true =>
     cases h2:((xl:Int) == 0) with
     | false =>
       have e:wellC 6 n xl cl=false:=by rw [eq,h1,h2];rfl
       rw [e]
       clear e eq
       go_enter Tryz.func178,Tryz.ntmps178
       go_wp2
       go_quiet (fail)
       go_wp2
       go_ret
       exact ⟨rfl,below_drewN ha _⟩
     | true =>
       cases h3:((cl:Int) == 2) with
       | false =>
         have e:wellC 6 n xl cl=false:=by rw [eq,h1,h2,h3];rfl
         rw [e]
         clear e eq
         go_enter Tryz.func178,Tryz.ntmps178
         go_wp2
         go_quiet (fail)
         go_wp2
         go_ret
         exact ⟨rfl,below_drewN ha _⟩
       | true =>
         have e:wellC 6 n xl cl=true:=by rw [eq,h1,h2,h3];rfl
         rw [e]
         clear e eq
         go_enter Tryz.func178,Tryz.ntmps178
         go_wp2
         go_quiet (fail)
         go_wp2
         go_ret
         exact ⟨rfl,below_drewN ha _⟩
 have e:wellC k n xl cl=false:=by
  have:kindC k=false:=by unfold kindC;rw [decide_eq_false_iff_not];omega
  unfold wellC;rw [this];rfl
 rw [e]
 clear e
 have k1:(k == 1)=false:=by simpa using q1
 have k2:(k == 2)=false:=by simpa using q2
 have k3:(k == 3)=false:=by simpa using q3
 have k4:(k == 4)=false:=by simpa using q4
 have k5:(k == 5)=false:=by simpa using q5
 have k6:(k == 6)=false:=by simpa using q6
 clear q1 q2 q3 q4 q5 q6
 go_enter Tryz.func178,Tryz.ntmps178
 go_wp2
 go_quiet (fail)
 go_wp2
 go_ret
 exact ⟨rfl,below_drewN ha _⟩
end Go.Proofs.YtmohmggnjldddaaGreatDoor
