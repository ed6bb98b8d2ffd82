import PyProof.Rows.All
import Wide.All
import OpenK.AllK
import Wide.FinOn
import HandS.ForMost
import HandS.Walk
import HandS.Zip
import HandS.TupAny
import HandS.Defaults
import HandS.IsInst
import HandS.Replace
import HandS.Flow
import HandS.Style
import HandS.Conv
import PyProof.ListStr
import PyProof.StrLawsFirst
import PyProof.StrWalks
import PyProof.Rows.SetFrom
import PyProof.Rows.SortStr
import HandS.Set
import HandS.SetTxt0
import KE.GoesMore
import KE.GoesZip
import KE.GoesEnum
import HandS.TupMul
import KE.SortData
import HandS.TupSets
import HandS.Deep
import HandS.Dict
import PyProof.NeKinds
import PyProof.CollectStr
import PyProof.ReprBulk
import PyProof.FitsInt
import PySem.Challenge.RW_foeholes_k05_what_are_rows_and_webs
set_option Elab.async false
set_option linter.all false
set_option maxRecDepth 100000
set_option maxHeartbeats 2000000
namespace Fo
open PySem PySem.Spec PyProof.Rows L2 RZ
/-! ### heaps -/
/-- tuples stay -/
def TS (H H' : Hp) : Prop := ∀ a xs, H a = some (.tup xs) → H' a = some (.tup xs)
theorem TS.refl (H : Hp) : TS H H := fun _ _ h => h
theorem TS.trans {H H1 H2 : Hp} (a : TS H H1) (b : TS H1 H2) : TS H H2 := fun c x h => b c x (a c x h)
theorem same_ts {H H' : Hp} (h : Same H H') : TS H H' := fun a xs e => h a _ e
theorem same_new {H : Hp} {p : Addr} {o : HO} (h : H p = none) : Same H (upd H p o) := fun b u q => by rw [upd_ne (ne_of_none q h)]; exact q
theorem TS.new {H : Hp} {p : Addr} {o : HO} (h : H p = none) : TS H (upd H p o) := same_ts (same_new h)
theorem TS.lst {H : Hp} {p : Addr} {xs : List V} {o : HO} (h : H p = some (.lst xs)) : TS H (upd H p o) := fun b u q => by
  rw [upd_ne (ne_of q h (by intro z; cases z))]; exact q
/-- all but what stands at p stays -/
def But (p : Addr) (H H' : Hp) : Prop := ∀ b o, b ≠ p → H b = some o → H' b = some o
theorem But.refl (p : Addr) (H : Hp) : But p H H := fun _ _ _ h => h
theorem But.trans {p : Addr} {H H1 H2 : Hp} (a : But p H H1) (b : But p H1 H2) : But p H H2 := fun c o n h => b c o n (a c o n h)
theorem same_but {H H' : Hp} (p : Addr) (h : Same H H') : But p H H' := fun b o _ e => h b o e
theorem But.upd {H : Hp} {p : Addr} {o : HO} : But p H (upd H p o) := fun b u n e => by rw [upd_ne n]; exact e
theorem But.ts {p : Addr} {H H' : Hp} {xs : List V} (h : But p H H') (hp : H p = some (.lst xs)) : TS H H' := fun a ys e => h a _ (ne_of e hp (by intro z; cases z)) e
section
variable {X : Cx}
/-! ### one rule an operator, whatever the kind -/
def rAddI : R2 := fun x y H Q => ∃ i j, x = .int i ∧ y = .int j ∧ Q (.int (i + j)) H
def rAddT : R2 := fun x y H Q => ∃ i j, x = .str i ∧ y = .str j ∧ i.length + j.length ≤ sizeLine ∧ Q (.str (i ++ j)) H
/-- what is wanted of a new object: told at any later heap that keeps the old -/
def New (o : HO) (H : Hp) (Q : VK) : Prop := ∀ p H', H p = none → Same H H' → H' p = some o → Q (.ref p) H'
/-- .. of an object that may be an old one -/
def Got (o : HO) (H : Hp) (Q : VK) : Prop := ∀ p H', Same H H' → H' p = some o → Q (.ref p) H'
theorem New.at {o : HO} {H : Hp} {Q : VK} (h : New o H Q) : ∀ p, H p = none → Q (.ref p) (upd H p o) := fun p np => h p _ np (same_new np) upd_same
theorem Got.new {o : HO} {H : Hp} {Q : VK} (h : Got o H Q) : New o H Q := fun p H' _ s e => h p H' s e
theorem OpR_imp {f : Value → Value → Sem Value} {r r' : R2} (h : OpR X f r) (i : ∀ x y H Q, r' x y H Q → r x y H Q) : OpR X f r' :=
  fun pins s σ H x y v u Q I rx ry q => h pins s σ H x y v u Q I rx ry (i _ _ _ _ q)
theorem CallR_imp {f : Value} {r r' : List V → Hp → VK → Prop} (h : CallR X f r) (i : ∀ xs H Q, r' xs H Q → r xs H Q) : CallR X f r' :=
  fun pins s σ H xs us Q I rs q => h pins s σ H xs us Q I rs (i _ _ _ q)
theorem SlR_imp {r r' : V → Option Int → Option Int → Hp → VK → Prop} (h : SlR X r) (i : ∀ x lo hi H Q, r' x lo hi H Q → r x lo hi H Q) : SlR X r' :=
  fun pins s σ H x v vl vu lo hi sl Q I rx hs pl pu q => h pins s σ H x v vl vu lo hi sl Q I rx hs pl pu (i _ _ _ _ _ q)
theorem MtM_imp {id : String} {r r' : V → List V → Hp → VK → Prop} (h : MtR X id r) (i : ∀ x xs H Q, r' x xs H Q → r x xs H Q) : MtR X id r' :=
  fun pins s σ H x xs v us Q I rx rs q => h pins s σ H x xs v us Q I rx rs (i _ _ _ _ q)
theorem PE_imp {e : Expr} {t t' : TE} (h : PE X e t) (i : ∀ σ H Q, t' σ H Q → t σ H Q) : PE X e t' := ⟨fun pins s σ H Q I q => h.run pins s σ H Q I (i _ _ _ q)⟩
def rCatL : R2 := fun x y H Q => ∃ l b xs zs, x = .ref l ∧ y = .ref b ∧ H l = some (.lst xs) ∧ H b = some (.lst zs) ∧ xs.length + zs.length ≤ sizeLine ∧ New (.lst (xs ++ zs)) H Q
def rCatU : R2 := fun x y H Q => ∃ a b xs ys, x = .ref a ∧ y = .ref b ∧ H a = some (.tup xs) ∧ H b = some (.tup ys) ∧ xs.length + ys.length ≤ sizeLine ∧ Got (.tup (xs ++ ys)) H Q
theorem op_catL : OpR X (binaryOp .Add) rCatL := OpR_imp op_cat fun x y H Q h => by
  obtain ⟨l, b, xs, zs, rfl, rfl, h1, h2, h3, q⟩ := h
  exact ⟨l, b, xs, zs, rfl, rfl, h1, h2, h3, q.at⟩
theorem op_catU : OpR X (binaryOp .Add) rCatU := OpR_imp op_catA fun x y H Q h => by
  obtain ⟨a, b, xs, ys, rfl, rfl, h1, h2, h3, q⟩ := h
  refine ⟨a, b, xs, ys, rfl, rfl, SqT.of h1, SqT.of h2, h3, fun e => ?_, fun _ e => ?_, fun _ _ => q.new.at⟩
  · subst e
    exact q b H (Same.refl H) h2
  · subst e
    exact q a H (Same.refl H) (by rw [List.append_nil]; exact h1)
def rAddG : R2 := fun x y H Q => rAddI x y H Q ∨ (rAddT x y H Q ∨ (rCatL x y H Q ∨ rCatU x y H Q))
theorem op_addG : OpR X (binaryOp .Add) rAddG := OpR.or (r := rAddI) op_add (OpR.or (r := rAddT) op_add_str (op_catL.or op_catU))
def rMulG : R2 := fun x y H Q => rI CMul (fun i j => .int (i * j)) x y H Q ∨ rRep x y H Q
theorem op_mulG : OpR X (binaryOp .Mult) rMulG := op_mul.or op_rep
theorem PI_or {tg it : Expr} {w1 w2 : TI} (h1 : PI X tg it w1) (h2 : PI X tg it w2) : PI X tg it (fun σ H R => w1 σ H R ∨ w2 σ H R) := by
  refine ⟨fun pins s σ H R I h => ?_⟩
  rcases h with h | h
  · exact h1.run pins s σ H R I h
  · exact h2.run pins s σ H R I h
def iG (K : PySem.W.Frag) (te : TE) : TI := fun σ H R => iList K te σ H R ∨ (iTup K te σ H R ∨ iStr te σ H R)
theorem pi_G {tg e : Expr} {te : TE} (he : PE X e te) : PI X tg e (iG X.K te) := PI_or (pi_list he) (PI_or (pi_tup he) (pi_str he))
def rSlLN (K : PySem.W.Frag) : V → Option Int → Option Int → Hp → VK → Prop := fun x lo hi H Q => ∃ a xs, x = .ref a ∧ SqL K H a xs ∧ New (.lst (cutV xs lo hi)) H Q
def rSlUN : V → Option Int → Option Int → Hp → VK → Prop := fun x lo hi H Q => ∃ a xs, x = .ref a ∧ H a = some (.tup xs) ∧ Got (.tup (cutV xs lo hi)) H Q
theorem cut_whole {xs : List V} {lo hi : Option Int} (h0 : HT.sIx xs.length 0 lo = 0) (h1 : HT.sIx xs.length xs.length hi = xs.length) : cutV xs lo hi = xs := by
  unfold cutV
  rw [h0, h1, List.drop_zero, Nat.sub_zero, List.take_length]
theorem sl_listN : SlR X (rSlLN X.K) := SlR_imp sl_list fun x lo hi H Q h => by
  obtain ⟨a, xs, rfl, h1, q⟩ := h
  exact ⟨a, xs, rfl, h1, q.at⟩
theorem sl_tupN : SlR X rSlUN := SlR_imp sl_tupA fun x lo hi H Q h => by
  obtain ⟨a, xs, rfl, h1, q⟩ := h
  refine ⟨a, xs, rfl, SqT.of h1, fun e => ?_, fun _ => q.new.at⟩
  exact q a H (Same.refl H) (by rw [cut_whole e.1 e.2]; exact h1)
def rSlG (K : PySem.W.Frag) : V → Option Int → Option Int → Hp → VK → Prop := fun x lo hi H Q => rSlLN K x lo hi H Q ∨ (rSlUN x lo hi H Q ∨ rSlS x lo hi H Q)
theorem sl_G : SlR X (rSlG X.K) := sl_listN.or (sl_tupN.or sl_str)
def tTupN (t : TA) : TE := fun σ H Q => t σ H fun xs H1 => xs.length ≤ sizeLine ∧ New (.tup xs) H1 Q
def tLstN (t : TA) : TE := fun σ H Q => t σ H fun xs H1 => xs.length ≤ sizeLine ∧ New (.lst xs) H1 Q
def upA (t : TA) : TA := fun σ H Q => ∃ Q0 : List V → Hp → Prop, t σ H Q0 ∧ ∀ vs H', Q0 vs H' → Q vs H'
theorem PA_up {es : List Expr} {t : TA} (h : PA X es t) : PA X es (upA t) := ⟨fun pos pins s σ H Q I q => by
  obtain ⟨Q0, q0, k⟩ := q
  refine thn (h.run pos pins s σ H Q0 I q0) fun us s' hh => ?_
  obtain ⟨vs, H', I', r, q'⟩ := hh
  exact ⟨vs, H', I', r, k vs H' q'⟩⟩
theorem pe_tupN {es : List Expr} {t : TA} {k : Nat} {pos : Pos} (h : PA X es t) : PE X (.Tuple es k pos) (tTupN t) :=
  PE_imp (pe_tup (PA_up h)) fun σ H Q q => ⟨_, q, fun vs H' z => ⟨z.1, z.2.at⟩⟩
theorem pe_lstN {es : List Expr} {t : TA} {pos : Pos} (h : PA X es t) : PE X (.List es pos) (tLstN t) :=
  PE_imp (pe_lst (PA_up h)) fun σ H Q q => ⟨_, q, fun vs H' z => ⟨z.1, z.2.at⟩⟩
/-- list(x): of a list, a tuple; of a text its signs -/
def sgs (l : List Nat) : List V := l.map fun c => .str ⟨#[c]⟩
def rListT : List V → Hp → VK → Prop := fun xs H Q => ∃ z : Str, xs = [.str z] ∧ z.cps.size ≤ sizeLine ∧ New (.lst (sgs z.cps.toList)) H Q
theorem call_listT (hc : X.calm = true) : CallR X (.type "list") rListT := by
  intro pins s σ H xs us Q I r h
  obtain ⟨z, rfl, hz, q⟩ := h
  obtain ⟨u, rfl, t, rfl⟩ := vals1 r
  refine call_list_str (I.ok.hd hc) z t (fun h' tk acc' c' hk hS hacc => ?_) hz
  have hv : Vals (sgs z.cps.toList) acc'.toList := by
    refine vals_of_at (by simp [sgs, hacc.1]) (fun j x u hx hu => ?_)
    have e1 : acc'[j]? = some u := by simpa using hu
    obtain ⟨c, k, hw1, rfl⟩ := hacc.2 j u e1
    have e2 : (V.str ⟨#[c]⟩ : V) = x := by
      unfold sgs at hx
      rw [List.getElem?_map, show z.cps.toList[j]? = some c by simpa using hw1] at hx
      exact Option.some.inj hx
    subst e2
    exact ⟨k, rfl⟩
  exact ⟨.ref s.heap.objs.size, _, I.laid (t' := tk) hk (Nat.le_refl _) (show ObjOk X.prog X.w _ h' _ (.lst _) from ⟨by simpa [sgs] using hz, acc'.toList, c', hv, by simpa using hS⟩), rfl, q.at _ (I.hok.fresh (Nat.le_refl _))⟩
def rListS (K : PySem.W.Frag) : List V → Hp → VK → Prop := fun xs H Q => ∃ p ys, xs = [.ref p] ∧ (SqL K H p ys ∨ SqT K H p ys) ∧ New (.lst ys) H Q
def rListG (K : PySem.W.Frag) : List V → Hp → VK → Prop := fun xs H Q => rListS K xs H Q ∨ rListT xs H Q
theorem call_listG (hc : X.calm = true) : CallR X (.type "list") (rListG X.K) := CallR.or (r := rListS X.K) (CallR_imp call_list_of fun xs H Q h => by
    obtain ⟨p, ys, rfl, h1, q⟩ := h
    exact ⟨p, ys, rfl, h1, q.at⟩) (call_listT hc)
def rTupN (K : PySem.W.Frag) : List V → Hp → VK → Prop := fun xs H Q => ∃ p ys, xs = [.ref p] ∧ ((SqL K H p ys ∧ New (.tup ys) H Q) ∨ (SqT K H p ys ∧ Q (.ref p) H))
theorem call_tupleN : CallR X (.type "tuple") (rTupN X.K) := CallR_imp call_tuple_of fun xs H Q h => by
  obtain ⟨p, ys, rfl, h | h⟩ := h
  · exact ⟨p, ys, rfl, .inl ⟨h.1, h.2.at⟩⟩
  · exact ⟨p, ys, rfl, .inr h⟩
def rSortN (K : PySem.W.Frag) : List V → Hp → VK → Prop := fun vs H Q => ∃ (a : Addr) (xs : List Str), vs = [V.ref a] ∧ SqL K H a (xs.map V.str) ∧ xs.length < 64 ∧
  ∀ (ys : List Str), ys.Perm xs → sortedS ys = true → New (.lst (ys.map V.str)) H Q
theorem cr_sortedN : CallR X (.builtin "sorted") (rSortN X.K) := CallR_imp cr_sortedS fun xs H Q h => by
  obtain ⟨a, xs, rfl, h1, h2, q⟩ := h
  exact ⟨a, xs, rfl, h1, h2, fun ys p e1 e2 => (q ys e1 e2).at p⟩
def rLenN (K : PySem.W.Frag) : List V → Hp → VK → Prop := fun xs H Q => ∃ x n, xs = [x] ∧ LenV K x H n ∧ Q (.int (n : Nat)) H
theorem call_lenN : CallR X (.builtin "len") (rLenN X.K) := call_len
/-! ### lists changed -/
/-- what is wanted behind a change of the list at l -/
def Chg (l : Addr) (xs : List V) (H : Hp) (Q : Hp → Prop) : Prop := ∀ H', But l H H' → H' l = some (.lst xs) → Q H'
theorem Chg.at {l : Addr} {xs : List V} {H : Hp} {Q : Hp → Prop} (h : Chg l xs H Q) : Q (upd H l (.lst xs)) := h _ But.upd upd_same
def rAppN : V → List V → Hp → VK → Prop := fun x vs H Q => ∃ l xs y, x = .ref l ∧ vs = [y] ∧ H l = some (.lst xs) ∧ xs.length < sizeLine ∧ Chg l (xs ++ [y]) H (Q .non)
def rPopN : V → List V → Hp → VK → Prop := fun x vs H Q => ∃ l xs i k y, x = .ref l ∧ vs = [.int i] ∧ H l = some (.lst xs) ∧ -(2 ^ 63) ≤ i ∧ i < 2 ^ 63 ∧ seqIndex? i xs.length = some k ∧ xs[k]? = some y ∧ Chg l (xs.eraseIdx k) H (Q y)
def rSetN : V → V → V → Hp → (Hp → Prop) → Prop := fun o i v H Q => ∃ p xs k j, o = .ref p ∧ i = .int k ∧ H p = some (.lst xs) ∧ ixN xs.length k = some j ∧ Chg p (xs.set j v) H Q
theorem mt_appN : MtR X "list.append" rAppN := MtM_imp mt_append fun x xs H Q h => by
  obtain ⟨l, xs, y, rfl, rfl, h1, h2, q⟩ := h
  exact ⟨l, xs, y, rfl, rfl, h1, h2, q.at⟩
theorem mt_popN : MtR X "list.pop" rPopN := MtM_imp mt_popAt fun x xs H Q h => by
  obtain ⟨l, xs, i, k, y, rfl, rfl, h1, h2, h3, h4, h5, q⟩ := h
  exact ⟨l, xs, i, k, y, rfl, rfl, h1, h2, h3, h4, h5, q.at⟩
theorem set_listN : PSet X rSetN := by
  intro pins s σ H o i v ov iv u Q I ro ri rv h
  refine set_list pins s σ H o i v ov iv u Q I ro ri rv ?_
  obtain ⟨p, xs, k, j, rfl, rfl, h1, h2, q⟩ := h
  exact ⟨p, xs, k, j, rfl, rfl, h1, h2, q.at⟩
/-! ### comparisons -/
def rCmpI (p : Int → Int → Bool) : R2 := fun x y H Q => ∃ i j, x = .int i ∧ y = .int j ∧ Q (.bl (p i j)) H
def rCmpS (p : List Nat → List Nat → Bool) : R2 := fun x y H Q => ∃ i j : Str, x = .str i ∧ y = .str j ∧ Q (.bl (p i.cps.toList j.cps.toList)) H
def rLtG : R2 := fun x y H Q => rCmpI (fun i j => decide (i < j)) x y H Q ∨ rCmpS (fun i j => decide (i < j)) x y H Q
theorem op_ltG : OpR X (compareOp .Lt) rLtG := OpR.or (r := rCmpI fun i j => decide (i < j)) (r' := rCmpS fun i j => decide (i < j)) op_lt op_lt_str
def rGtG : R2 := rCmpI fun i j => decide (j < i)
theorem op_gtG : OpR X (compareOp .Gt) rGtG := op_gt
def rGeG : R2 := rCmpI fun i j => decide (j ≤ i)
theorem op_geG : OpR X (compareOp .GtE) rGeG := op_ge
def rInSg : R2 := fun x y H Q => ∃ (c : Nat) (z : Str), x = .str ⟨#[c]⟩ ∧ y = .str z ∧ Q (.bl (decide (c ∈ z.cps.toList))) H
def rNiSg : R2 := fun x y H Q => ∃ (c : Nat) (z : Str), x = .str ⟨#[c]⟩ ∧ y = .str z ∧ Q (.bl (!decide (c ∈ z.cps.toList))) H
def rInG (K : PySem.W.Frag) : R2 := fun x y H Q => rInSg x y H Q ∨ rIn K false x y H Q
theorem op_inG : OpR X (compareOp .In) (rInG X.K) := OpR.or (r := rInSg) op_in_sign op_in_seq
def rNinG (K : PySem.W.Frag) : R2 := fun x y H Q => rNiSg x y H Q ∨ rIn K true x y H Q
theorem op_ninG : OpR X (compareOp .NotIn) (rNinG X.K) := OpR.or (r := rNiSg) op_notIn_sign op_notIn_seq
def rEqG (K : PySem.W.Frag) : R2 := fun x y H Q => rEq x y H Q ∨ rEqD K x y H Q
theorem op_eqG (hu : X.A.units + 64 < cLine) : OpR X (compareOp .Eq) (rEqG X.K) := op_eq.or (op_eqD hu)
def rNeG (K : PySem.W.Frag) : R2 := fun x y H Q => rNe x y H Q ∨ rNeD K x y H Q
theorem op_neG (hu : X.A.units + 64 < cLine) : OpR X (compareOp .NotEq) (rNeG X.K) := op_ne.or (op_neD hu)
def rIsiG (K : PySem.W.Frag) : List V → Hp → VK → Prop := fun xs H Q => rIsi K xs H Q ∨ rIsiT K xs H Q
theorem call_isiG : CallR X (.builtin "isinstance") (rIsiG X.K) := call_isi.or call_isiT
end
/-- the pen at p, its cells at c: n takes are left -/
def Pen (H : Hp) (p c : Addr) (n : Nat) : Prop := ∃ (cs : List Int) (k : Nat) (left : Int), H p = some (.lst [.ref c, .int k, .int left]) ∧ H c = some (.lst (cs.map V.int)) ∧ cs.length ≤ 12 ∧ k + n ≤ 1048576 ∧ c ≠ p
theorem Pen.less {H : Hp} {p c : Addr} {n m : Nat} (h : Pen H p c n) (hm : m ≤ n) : Pen H p c m := by
  obtain ⟨cs, k, l, h1, h2, h3, h4, h5⟩ := h
  exact ⟨cs, k, l, h1, h2, h3, by omega, h5⟩
theorem Pen.same {H H' : Hp} {p c : Addr} {n : Nat} (h : Pen H p c n) (s : Same H H') : Pen H' p c n := by
  obtain ⟨cs, k, l, h1, h2, h3, h4, h5⟩ := h
  exact ⟨cs, k, l, s _ _ h1, s _ _ h2, h3, h4, h5⟩
theorem Pen.at {H : Hp} {p c : Addr} {n : Nat} (h : Pen H p c n) : ∃ xs, H p = some (.lst xs) := by
  obtain ⟨cs, k, l, h1, h2, h3, h4, h5⟩ := h
  exact ⟨_, h1⟩
theorem Pen.atc {H : Hp} {p c : Addr} {n : Nat} (h : Pen H p c n) : ∃ xs, H c = some (.lst xs) := by
  obtain ⟨cs, k, l, h1, h2, h3, h4, h5⟩ := h
  exact ⟨_, h2⟩
theorem Pen.ts {H H' : Hp} {p c : Addr} {n : Nat} (h : Pen H p c n) (b : But p H H') : TS H H' := by
  obtain ⟨xs, e⟩ := h.at
  exact b.ts e
/-- a new address is neither the pen's nor its cells' -/
theorem Pen.ne {H : Hp} {p c D : Addr} {n : Nat} (h : Pen H p c n) (hD : H D = none) : p ≠ D ∧ c ≠ D := by
  obtain ⟨xs, e⟩ := h.at
  obtain ⟨ys, e2⟩ := h.atc
  exact ⟨ne_of_none e hD, ne_of_none e2 hD⟩
theorem Pen.chg {H H' : Hp} {p c D : Addr} {n : Nat} (h : Pen H p c n) (d : p ≠ D ∧ c ≠ D) (b : But D H H') : Pen H' p c n := by
  obtain ⟨cs, k, l, h1, h2, h3, h4, h5⟩ := h
  exact ⟨cs, k, l, b _ _ d.1 h1, b _ _ d.2 h2, h3, h4, h5⟩
/-- what is changed at D, new since H1, changes nothing of H -/
theorem But.chg {H H1 H4 H5 : Hp} {p D : Addr} (b : But p H H4) (b1 : But p H H1) (hD : H1 D = none) (b5 : But D H4 H5) : But p H H5 := fun b' o n e => b5 _ _ (ne_of_none (b1 _ _ n e) hD) (b _ _ n e)
theorem same_chg {H H1 H4 H5 : Hp} {D : Addr} (b : Same H H4) (b1 : Same H H1) (hD : H1 D = none) (b5 : But D H4 H5) : Same H H5 := fun b' o e => b5 _ _ (ne_of_none (b1 _ _ e) hD) (b _ _ e)
/-! ### small lists of ints read at a reckoned place -/
theorem fmod_in {a b : Int} (h : 0 < b) : 0 ≤ a.fmod b ∧ a.fmod b < b := ⟨Int.fmod_nonneg_of_pos a h, Int.fmod_lt_of_pos a h⟩
theorem at_of {α : Type} {xs : List α} {i : Int} (h0 : 0 ≤ i) (h1 : i < (xs.length : Int)) : ∃ v, atI xs i = some v ∧ v ∈ xs := by
  have hk : i.toNat < xs.length := by omega
  have ek : i = ((i.toNat : Nat) : Int) := by omega
  have q : atI xs ((i.toNat : Nat) : Int) = some (xs[i.toNat]'hk) := atI_nat (List.getElem?_eq_getElem hk)
  rw [← ek] at q
  exact ⟨_, q, List.getElem_mem hk⟩
theorem at_int {xs : List Int} {i : Int} (h0 : 0 ≤ i) (h1 : i < (xs.length : Int)) : ∃ v, atI (xs.map V.int) i = some (.int v) ∧ v ∈ xs := by
  obtain ⟨v, e, hv⟩ := at_of (xs := xs.map V.int) h0 (by rw [List.length_map]; exact h1)
  obtain ⟨w, hw, rfl⟩ := List.mem_map.mp hv
  exact ⟨w, e, hw⟩
theorem mul_in {a b A B : Int} (a0 : 0 ≤ a) (a1 : a < A) (b0 : 0 ≤ b) (b1 : b < B) : 0 ≤ a * b ∧ a * b < A * B := by
  refine ⟨Int.mul_nonneg a0 b0, ?_⟩
  have h1 : a * b ≤ A * b := Int.mul_le_mul_of_nonneg_right (by omega) b0
  have h2 : A * b < A * B := Int.mul_lt_mul_of_pos_left b1 (by omega)
  omega
theorem get_map {α : Type} {f : α → V} {xs : List α} {i : Nat} {x : V} (h : (xs.map f)[i]? = some x) : ∃ z, xs[i]? = some z ∧ x = f z := by
  rw [List.getElem?_map] at h
  cases e : xs[i]? with
  | none => rw [e] at h; cases h
  | some z => rw [e] at h; exact ⟨z, rfl, (Option.some.inj h).symm⟩
theorem szS {n : Nat} (h : Nat.ble n 1000 = true := by rfl) : n ≤ sizeLine := Nat.le_of_lt (small1000 (Nat.le_of_ble_eq_true h))
theorem ixN_of {n : Nat} {i : Int} (h0 : 0 ≤ i) (h1 : i < (n : Int)) : ixN n i = some i.toNat := by
  unfold ixN
  rw [if_pos h0, if_pos h1]
theorem cut_hi (xs : List V) (k : Nat) : cutV xs none (some (k : Int)) = xs.take k := by
  unfold cutV
  rw [HT.sIx_none, HT.sIx_nat, List.drop_zero, Nat.sub_zero]
  by_cases h : k ≤ xs.length
  · rw [Nat.min_eq_left h]
  · rw [Nat.min_eq_right (by omega), List.take_of_length_le (Nat.le_refl _), List.take_of_length_le (by omega)]
theorem cut_lohi (xs : List V) (j k : Nat) : cutV xs (some (j : Int)) (some (k : Int)) = (xs.drop j).take (k - j) := by
  unfold cutV
  rw [HT.sIx_nat, HT.sIx_nat]
  by_cases hj : j ≤ xs.length
  · rw [Nat.min_eq_left hj]
    by_cases h : k ≤ xs.length
    · rw [Nat.min_eq_left h]
    · rw [Nat.min_eq_right (by omega), List.take_of_length_le (by rw [List.length_drop]; omega), List.take_of_length_le (by rw [List.length_drop]; omega)]
  · rw [Nat.min_eq_right (by omega : xs.length ≤ j), List.drop_length, List.drop_eq_nil_of_le (by omega)]
    simp
theorem cut_lo (xs : List V) (j : Nat) : cutV xs (some (j : Int)) none = xs.drop j := by
  unfold cutV
  rw [HT.sIx_nat, HT.sIx_none]
  by_cases hj : j ≤ xs.length
  · rw [Nat.min_eq_left hj, List.take_of_length_le (by rw [List.length_drop]; omega)]
  · rw [Nat.min_eq_right (by omega : xs.length ≤ j), List.drop_length, List.drop_eq_nil_of_le (by omega)]
    simp
/-! ### the rules at a written part K by name (within a comprehension's block) -/
section
variable {X : Cx} (K : PySem.W.Frag)
theorem kLen (e : X.K = K) : CallR X (.builtin "len") (rLenN K) := e ▸ call_lenN
theorem kIsi (e : X.K = K) : CallR X (.builtin "isinstance") (rIsiG K) := e ▸ call_isiG
theorem kList (e : X.K = K) (hc : X.calm = true) : CallR X (.type "list") (rListG K) := e ▸ call_listG hc
theorem kTuple (e : X.K = K) : CallR X (.type "tuple") (rTupN K) := e ▸ call_tupleN
theorem kSorted (e : X.K = K) : CallR X (.builtin "sorted") (rSortN K) := e ▸ cr_sortedN
theorem kIx (e : X.K = K) : IxR X (rIx K) := e ▸ ix_seq
theorem kSl (e : X.K = K) : SlR X (rSlG K) := e ▸ sl_G
theorem kIn (e : X.K = K) : OpR X (compareOp .In) (rInG K) := e ▸ op_inG
theorem kNin (e : X.K = K) : OpR X (compareOp .NotIn) (rNinG K) := e ▸ op_ninG
theorem kEq (e : X.K = K) (hu : X.A.units + 64 < cLine) : OpR X (compareOp .Eq) (rEqG K) := e ▸ op_eqG hu
theorem kNe (e : X.K = K) (hu : X.A.units + 64 < cLine) : OpR X (compareOp .NotEq) (rNeG K) := e ▸ op_neG hu
theorem kAll (e : X.K = K) (hc : X.calm = true) : CallR X (.builtin "all") (rAll K) := e ▸ cr_all hc
theorem kAny (e : X.K = K) (hc : X.calm = true) : CallR X (.builtin "any") (rAny K) := e ▸ cr_any hc
theorem kG (e : X.K = K) {tg ex : Expr} {te : TE} (he : PE X ex te) : PI X tg ex (iG K te) := e ▸ pi_G he
theorem kTg (e : X.K = K) {es : List Expr} {k : Nat} {pos : Pos} {t : TGs} {n : Nat} (hc : X.calm = true) (h : PGs X es t)
    (hn : (assignEach es X.env).length = n := by rfl) (hst : (assignEach es X.env).findIdx? (·.1) = none := by rfl) : PG X (.Tuple es k pos) (gTup K n t) := e ▸ pg_tup hc h hn hst
theorem kBm (e : X.K = K) {T : String} {r : V → List V → Hp → VK → Prop} {ex : Expr} {to : TE} {t : TA} (h : PE X ex (tBM X.K T r to t)) : PE X ex (tBM K T r to t) := e ▸ h
theorem kBm0 (e : X.K = K) {T : String} {r : V → List V → Hp → VK → Prop} {ex : Expr} {to : TE} (h : PE X ex (tBM0 X.K T r to)) : PE X ex (tBM0 K T r to) := e ▸ h
def rJoin (K : PySem.W.Frag) : V → List V → Hp → VK → Prop := fun x xs H Q => ∃ a p, ∃ ys : List Str, x = .str a ∧ xs = [.ref p] ∧ (SqL K H p (ys.map V.str) ∨ SqT K H p (ys.map V.str)) ∧ (ys.map (·.length)).sum + ys.length * a.length ≤ 16777216 ∧ Q (.str (Txt.join a ys)) H
theorem kJoin (e : X.K = K) {o ex : Expr} {to te : TE} {apos pos : Pos} (ho : PE X o to) (he : PE X ex te) (hs : starEach [ex] X.env = [(false, eval ex X.env)] := by rfl) (hbase : attributeBase o "join" X.env (eval o X.env) = eval o X.env := by rfl) (hline : (apos.endLine == pos.line) = true := by rfl) :
    PE X (.Call (.Attribute o "join" apos) [ex] [] pos) (tM1 (rJoin K) to te) := by
  subst e
  exact pe_join ho he hs hbase hline
end
/-! ### walks -/
/-- a new pair of the i-th of xs and the i-th of ys, at a later heap -/
def YPairN (xs ys : Nat → Option V) : Nat → Hp → V → Hp → Prop := fun i H v H' => ∃ T x y, v = .ref T ∧ Same H H' ∧ H' T = some (.tup [x, y]) ∧ xs i = some x ∧ ys i = some y
theorem walkPair {J : It} {n : Nat} {G : Hp → Prop} {xs ys : Nat → Option V} (w : Walk J n G (YPair xs ys)) : Walk J n G (YPairN xs ys) := w.mono (fun _ h => h) fun i H x H' _ _ y => by
  obtain ⟨T, a, b, rfl, h1, rfl, h3, h4⟩ := y
  exact ⟨T, a, b, rfl, same_new h1, upd_same, h3, h4⟩
theorem walk_zipT {K : PySem.W.Frag} {a b : Addr} {xs ys : List V} {n : Nat} (hn : n = min xs.length ys.length) : Walk (ItzT K a b) n (fun H => SqT K H a xs ∧ SqT K H b ys) (YPair (fun i => xs[i]?) (fun i => ys[i]?)) := by
  have both : ∀ k, k < n → (∃ u, xs[k]? = some u) ∧ ∃ u, ys[k]? = some u := fun k hk =>
    ⟨⟨_, List.getElem?_eq_getElem (show k < xs.length by omega)⟩, ⟨_, List.getElem?_eq_getElem (show k < ys.length by omega)⟩⟩
  constructor
  · intro k _ hk st
    have ⟨⟨u, hu⟩, ⟨t, ht⟩⟩ := both k hk
    exact ⟨_, _, u, t, st.1, st.2, hu, ht⟩
  · exact fun _ st => ⟨_, _, st.1, st.2, by omega⟩
  · rintro k _ v _ - st ⟨pair, u, t, e1, e2, e3, left, right⟩
    exact ⟨pair, u, t, e1, e2, e3, left _ st.1, right _ st.2⟩
/-- a comprehension's state: Pv by the turn, what the new list at D holds, the heap -/
def LcI (D : Addr) (Pv : Nat → List V → Hp → Prop) (i : Nat) (H : Hp) : Prop := ∃ acc, acc.length ≤ i ∧ Pv i acc H ∧ H D = some (.lst acc)
theorem lcN {J : It} {n : Nat} {G : Hp → Prop} {Y : Nat → Hp → V → Hp → Prop} {g : TG} {tt : TT} {te : TE} {vs : List Nat} {σ : L2.St} {H1 : Hp} {D : Addr} {Qd : Hp → Prop} (w : Walk J n G Y) (hD : H1 D = none) (Pv : Nat → List V → Hp → Prop)
    (h0 : ∀ H', Same H1 H' → H' D = some (.lst []) → Pv 0 [] H') (hG : ∀ i acc H, i ≤ n → Pv i acc H → G H)
    (hs : ∀ i x acc H H', i < n → acc.length ≤ i → Pv i acc H → H D = some (.lst acc) → Y i H x H' → g x (wipe σ vs) H' fun σ2 H2 => wipe σ2 vs = wipe σ vs ∧ tt σ2 H2 fun b H3 =>
      if b = true then te σ2 H3 fun y H4 => ∃ acc, H4 D = some (.lst acc) ∧ acc.length < sizeLine ∧ LcI D Pv (i + 1) (upd H4 D (.lst (acc ++ [y]))) else LcI D Pv (i + 1) H3)
    (hd : ∀ acc H, acc.length ≤ n → Pv n acc H → H D = some (.lst acc) → Qd H) :
    ∃ W : Nat → Nat → Hp → Prop, (∃ m, W 0 m (upd H1 D (.lst []))) ∧ ∀ i m H, W i m H →
      (J.stop i H ∧ Qd H) ∨ (J.go i H ∧ ∃ Nx : Hp → Prop, (∀ H', Nx H' → ∃ m', m' < m ∧ W (i + 1) m' H') ∧ ∀ x H', J.yld i H x H' → g x (wipe σ vs) H' fun σ2 H2 => wipe σ2 vs = wipe σ vs ∧ tt σ2 H2 fun b H3 =>
        if b = true then te σ2 H3 fun y H4 => ∃ acc, H4 D = some (.lst acc) ∧ acc.length < sizeLine ∧ Nx (upd H4 D (.lst (acc ++ [y]))) else Nx H3) :=
  lc_it w (LcI D Pv) ⟨[], Nat.le_refl _, h0 _ (same_new hD) upd_same, upd_same⟩ (fun i H hi p => let ⟨acc, _, p, _⟩ := p; hG i acc H hi p)
    (fun i x H H' hi p y => let ⟨acc, hl, p, e⟩ := p; hs i x acc H H' hi hl p e y) (fun H p => let ⟨acc, hl, p, e⟩ := p; hd acc H hl p e)
/-- .. without an if -/
theorem lcN0 {J : It} {n : Nat} {G : Hp → Prop} {Y : Nat → Hp → V → Hp → Prop} {g : TG} {te : TE} {vs : List Nat} {σ : L2.St} {H1 : Hp} {D : Addr} {Qd : Hp → Prop} (w : Walk J n G Y) (hD : H1 D = none) (Pv : Nat → List V → Hp → Prop)
    (h0 : ∀ H', Same H1 H' → H' D = some (.lst []) → Pv 0 [] H') (hG : ∀ i acc H, i ≤ n → Pv i acc H → G H)
    (hs : ∀ i x acc H H', i < n → acc.length ≤ i → Pv i acc H → H D = some (.lst acc) → Y i H x H' → g x (wipe σ vs) H' fun σ2 H2 => wipe σ2 vs = wipe σ vs ∧ te σ2 H2 fun y H4 => ∃ acc, H4 D = some (.lst acc) ∧ acc.length < sizeLine ∧ LcI D Pv (i + 1) (upd H4 D (.lst (acc ++ [y]))))
    (hd : ∀ acc H, acc.length ≤ n → Pv n acc H → H D = some (.lst acc) → Qd H) :
    ∃ W : Nat → Nat → Hp → Prop, (∃ m, W 0 m (upd H1 D (.lst []))) ∧ ∀ i m H, W i m H →
      (J.stop i H ∧ Qd H) ∨ (J.go i H ∧ ∃ Nx : Hp → Prop, (∀ H', Nx H' → ∃ m', m' < m ∧ W (i + 1) m' H') ∧ ∀ x H', J.yld i H x H' → g x (wipe σ vs) H' fun σ2 H2 => wipe σ2 vs = wipe σ vs ∧ tYes σ2 H2 fun b H3 =>
        if b = true then te σ2 H3 fun y H4 => ∃ acc, H4 D = some (.lst acc) ∧ acc.length < sizeLine ∧ Nx (upd H4 D (.lst (acc ++ [y]))) else Nx H3) :=
  lcN (tt := tYes) w hD Pv h0 hG hs hd
theorem lcNext {D : Addr} {Pv : Nat → List V → Hp → Prop} {i : Nat} {H4 : Hp} {acc : List V} {y : V} (e : H4 D = some (.lst acc)) (hl : acc.length ≤ i) (hi : i < 100000) (k : ∀ H5, But D H4 H5 → H5 D = some (.lst (acc ++ [y])) → Pv (i + 1) (acc ++ [y]) H5) :
    ∃ acc, H4 D = some (.lst acc) ∧ acc.length < sizeLine ∧ LcI D Pv (i + 1) (upd H4 D (.lst (acc ++ [y]))) :=
  ⟨acc, e, by rw [sizeLine_eq]; omega, acc ++ [y], by rw [List.length_append]; exact Nat.succ_le_succ hl, k _ But.upd upd_same, upd_same⟩
/-! ### the reading, step by step -/
theorem modL {x y : V} {H : Hp} {Q : VK} {i j : Int} (hx : x = .int i) (hy : y = .int j) (hj : 0 < j) (h : ∀ r : Int, 0 ≤ r → r < j → Q (.int r) H) : rI (fun _ j => j ≠ 0) (fun i j => .int (i.fmod j)) x y H Q :=
  ⟨i, j, hx, hy, by omega, h _ (fmod_in hj).1 (fmod_in hj).2⟩
theorem mulR {i j : Int} (h : -(2 ^ 64) < j ∧ j < 2 ^ 64) : CMul i j := Or.inr h
theorem mulL {i j : Int} (h : -(2 ^ 64) < i ∧ i < 2 ^ 64) : CMul i j := Or.inl h
end Fo

namespace Fo
open PySem PySem.Spec PyProof.Rows L2 TL
/-! ### texts as lists of codes -/
abbrev Cs := List Nat
def tx (l : Cs) : Str := ⟨l.toArray⟩
theorem tl_tx (l : Cs) : tl (tx l) = l := rfl
theorem tx_tl (x : Str) : tx (tl x) = x := mk_tl x
theorem tx_len (l : Cs) : (tx l).length = l.length := by rw [len_tl, tl_tx]
theorem tx_inj {l m : Cs} (h : tx l = tx m) : l = m := by rw [← tl_tx l, h, tl_tx]
theorem tx_app (l m : Cs) : tx l ++ tx m = tx (l ++ m) := ext_tl (by rw [tl_append, tl_tx, tl_tx, tl_tx])
theorem tx_nil : (("" : String) : Str) = tx [] := by decide +kernel
theorem tx_one (c : Nat) : (⟨#[c]⟩ : Str) = tx [c] := rfl
theorem joinL_nil : ∀ l : List Cs, joinL [] l = l.flatten
  | [] => rfl
  | [a] => by simp [joinL]
  | a :: b :: r => by
    show a ++ ([] ++ joinL [] (b :: r)) = a ++ (b :: r).flatten
    rw [joinL_nil (b :: r), List.nil_append]
theorem join_tx (parts : List Cs) : Txt.join (("" : String) : Str) (parts.map tx) = tx parts.flatten := by
  refine ext_tl ?_
  rw [join_eq, tl_join, tx_nil, tl_tx, List.map_map, tl_tx]
  have e : parts.map (tl ∘ tx) = parts := by
    rw [show (tl ∘ tx) = (id : Cs → Cs) from funext fun l => rfl, List.map_id]
  rw [e, joinL_nil]
theorem flat_len (parts : List Cs) : ((parts.map tx).map (·.length)).sum = parts.flatten.length := by
  rw [List.length_flatten, List.map_map]
  have e : ((fun x : Str => x.length) ∘ tx) = List.length := funext fun l => tx_len l
  rw [e]
theorem flat_ones : ∀ t : Cs, (t.map fun c => [c]).flatten = t
  | [] => rfl
  | a :: r => by
    show [a] ++ (r.map fun c => [c]).flatten = a :: r
    rw [flat_ones r]
    rfl
theorem sgs_ones (t : Cs) : sgs t = ((t.map fun c => [c]).map tx).map V.str := by
  unfold sgs
  rw [List.map_map, List.map_map]
  rfl
theorem sgs_app (t : Cs) (k : Nat) : sgs t ++ [.str ⟨#[k]⟩] = sgs (t ++ [k]) := by
  unfold sgs
  rw [List.map_append]
  rfl
theorem idx_le : ∀ {l : Cs} {i : Nat} {hl : i < l.length} {c : Nat}, l[i] = c → ¬ i < l.idxOf c
  | a :: l, 0, _, c, h => by
    have e : a = c := h
    subst e
    rw [List.idxOf_cons_self]
    omega
  | a :: l, i + 1, hl, c, h => by
    have h2 : l[i]'(by simpa using hl) = c := by simpa using h
    rw [List.idxOf_cons]
    have ih := idx_le h2
    cases (a == c) with
    | true => simp
    | false => simp; omega
theorem occ_sign {l : Cs} {c : Nat} (h : c ∈ l) : ∃ rest, Builtin.Str.occurrences (tx l) ⟨#[c]⟩ 0 (tx l).length 1 = l.idxOf c :: rest := by
  have at_iff : ∀ i, StrLaws.At (tx l) ⟨#[c]⟩ (tx l).length i ↔ l[i]? = some c := fun i => StrLaws.subAt_one (tx l) c i
  have hi : l[l.idxOf c]? = some c := by
    have hlt := List.idxOf_lt_length_iff.mpr h
    rw [List.getElem?_eq_getElem hlt, List.getElem_idxOf hlt]
  rcases StrLaws.occ_head (tx l) ⟨#[c]⟩ 1 (Nat.le_refl 1) with ⟨_, hn⟩ | ⟨i, r, e, ha, hn⟩
  · exact absurd ((at_iff _).mpr hi) (hn _)
  · have h1 := (at_iff i).mp ha
    have h2 : ¬ l.idxOf c < i := fun z => hn _ z ((at_iff _).mpr hi)
    have h3 : ¬ i < l.idxOf c := fun z => by
      obtain ⟨hl, hg⟩ := List.getElem?_eq_some_iff.mp h1
      exact idx_le hg z
    have e2 : i = l.idxOf c := by omega
    exact ⟨r, by rw [e, e2]⟩
/-! ### signs drawn out of a pool -/
theorem erase_perm {α : Type} : ∀ {l : List α} {k : Nat} {y : α}, l[k]? = some y → (y :: l.eraseIdx k).Perm l
  | [], k, y, h => by simp at h
  | a :: l, 0, y, h => by
    have e : a = y := by simpa using h
    subst e
    exact List.Perm.refl _
  | a :: l, k + 1, y, h => by
    have h2 : l[k]? = some y := by simpa using h
    exact (List.Perm.swap a y _).trans (List.Perm.cons a (erase_perm h2))
theorem erase_map {α β : Type} (f : α → β) : ∀ (l : List α) (k : Nat), (l.map f).eraseIdx k = (l.eraseIdx k).map f
  | [], _ => rfl
  | _ :: _, 0 => rfl
  | a :: l, k + 1 => by
    show f a :: (l.map f).eraseIdx k = f a :: (l.eraseIdx k).map f
    rw [erase_map f l k]
def one (c : Nat) : Str := ⟨#[c]⟩
theorem one_of {t : Cs} {ys : List Str} (h : ys.Perm (t.map one)) : ∃ u : Cs, ys = u.map one ∧ u.Perm t := by
  have hb : ∀ l : Cs, (l.map one).map (fun x => (TL.tl x).headD 0) = l := fun l => by
    induction l with
    | nil => rfl
    | cons a r ih =>
      rw [List.map_cons, List.map_cons, ih]
      rfl
  refine ⟨ys.map fun x => (TL.tl x).headD 0, ?_, by have := h.map (fun x => (TL.tl x).headD 0); rw [hb] at this; exact this⟩
  have hm : ∀ x ∈ ys, ∃ c, x = one c := fun x hx => by
    obtain ⟨c, _, e⟩ := List.mem_map.mp (h.mem_iff.mp hx)
    exact ⟨c, e.symm⟩
  clear h
  induction ys with
  | nil => rfl
  | cons a r ih =>
    obtain ⟨c, rfl⟩ := hm a (List.mem_cons_self ..)
    rw [List.map_cons, List.map_cons, ← ih (fun x hx => hm x (List.mem_cons_of_mem _ hx))]
    rfl
theorem rise_of : ∀ (r : Cs) (p : Nat), risingS (one p) (r.map one) = true → (p :: r).Pairwise (· ≤ ·)
  | [], p, _ => List.pairwise_singleton _ _
  | x :: r, p, h => by
    have h' : (!ltCps [x] [p] && risingS (one x) (r.map one)) = true := h
    rw [Bool.and_eq_true] at h'
    have ih := rise_of r x h'.2
    have hx : p ≤ x := by
      have z := h'.1
      simp [ltCps] at z
      omega
    refine List.pairwise_cons.mpr ⟨fun y hy => ?_, ih⟩
    rcases List.mem_cons.mp hy with rfl | hy
    · exact hx
    · exact Nat.le_trans hx ((List.pairwise_cons.mp ih).1 y hy)
theorem sorted_of {u : Cs} (h : sortedS (u.map one) = true) : u.Pairwise (· ≤ ·) := by
  cases u with
  | nil => exact List.Pairwise.nil
  | cons a r => exact rise_of r a h
theorem strict_of {u : Cs} (h : u.Pairwise (· ≤ ·)) (n : u.Nodup) : u.Pairwise (· < ·) := by
  induction u with
  | nil => exact List.Pairwise.nil
  | cons a r ih =>
    obtain ⟨h1, h2⟩ := List.pairwise_cons.mp h
    obtain ⟨n1, n2⟩ := List.nodup_cons.mp n
    refine List.pairwise_cons.mpr ⟨fun y hy => ?_, ih h2 n2⟩
    have := h1 y hy
    have : a ≠ y := fun e => n1 (e ▸ hy)
    omega
def poolL : Cs := ((List.range 94).map (· + 33)).filter (· ≠ 37)
theorem poolL_len : poolL.length = 93 := by decide +kernel
theorem poolL_nodup : poolL.Nodup := by decide +kernel
theorem poolL_in : ∀ c ∈ poolL, 33 ≤ c ∧ c ≤ 126 := by decide +kernel
/-- a text of signs, unlike, sorted -/
structure Sgs (t : Cs) (n : Nat) : Prop where
  len : t.length = n
  up : t.Pairwise (· < ·)
  sub : ∀ c ∈ t, 33 ≤ c ∧ c ≤ 126
theorem sgs_of {t u rest : Cs} {n : Nat} (hp : (t ++ rest).Perm poolL) (hl : t.length = n) (hu : u.Perm t) (hs : sortedS (u.map one) = true) : Sgs u n := by
  have hn : (t ++ rest).Nodup := hp.nodup_iff.mpr poolL_nodup
  have hnu : u.Nodup := hu.nodup_iff.mpr (List.nodup_append.mp hn).1
  refine ⟨hu.length_eq.trans hl, strict_of (sorted_of hs) hnu, fun c hc => ?_⟩
  exact poolL_in c (hp.mem_iff.mp (List.mem_append_left _ (hu.mem_iff.mp hc)))
/-! ### data of tuples -/
mutual
inductive Tv (H : Hp) : V → PyData → Prop
  | non : Tv H .non .none
  | bl (b : Bool) : Tv H (.bl b) (.bool b)
  | int (i : Int) : Tv H (.int i) (.int i)
  | str (x : Str) : Tv H (.str x) (.str x)
  | tup {a : Addr} {xs : List V} {ds : List PyData} : H a = some (.tup xs) → TvA H xs ds → Tv H (.ref a) (.tuple ds)
inductive TvA (H : Hp) : List V → List PyData → Prop
  | nil : TvA H [] []
  | cons {v : V} {vs : List V} {d : PyData} {ds : List PyData} : Tv H v d → TvA H vs ds → TvA H (v :: vs) (d :: ds)
end
mutual
theorem Tv.ts {H H' : Hp} (t : TS H H') : ∀ (d : PyData) (v : V), Tv H v d → Tv H' v d
  | .none, _, h => by cases h; exact .non
  | .bool b, _, h => by cases h; exact .bl b
  | .int i, _, h => by cases h; exact .int i
  | .str x, _, h => by cases h; exact .str x
  | .tuple ds, _, h => by
    cases h with
    | tup h1 h2 => exact .tup (t _ _ h1) (TvA.ts t ds _ h2)
  | .list _, _, h => by cases h
  | .dict _, _, h => by cases h
theorem TvA.ts {H H' : Hp} (t : TS H H') : ∀ (ds : List PyData) (vs : List V), TvA H vs ds → TvA H' vs ds
  | [], _, h => by cases h; exact .nil
  | d :: ds, _, h => by
    cases h with
    | cons h1 h2 => exact .cons (Tv.ts t d _ h1) (TvA.ts t ds _ h2)
end
mutual
theorem Tv.dp {K : PySem.W.Frag} {H : Hp} : ∀ (d : PyData) (v : V), Tv H v d → Dp K H v d
  | .none, _, h => by cases h; exact .non
  | .bool b, _, h => by cases h; exact .bl b
  | .int i, _, h => by cases h; exact .int i
  | .str x, _, h => by cases h; exact .str x
  | .tuple ds, _, h => by
    cases h with
    | tup h1 h2 => exact .tup (SqT.of h1) (TvA.dp ds _ h2)
  | .list _, _, h => by cases h
  | .dict _, _, h => by cases h
theorem TvA.dp {K : PySem.W.Frag} {H : Hp} : ∀ (ds : List PyData) (vs : List V), TvA H vs ds → DpAll K H vs ds
  | [], _, h => by cases h; exact .nil
  | d :: ds, _, h => by
    cases h with
    | cons h1 h2 => exact .cons (Tv.dp d _ h1) (TvA.dp ds _ h2)
end
theorem Tv.mv {H H' : Hp} {d : PyData} {v : V} (h : Tv H v d) (t : TS H H') : Tv H' v d := Tv.ts t d v h
theorem TvA.mv {H H' : Hp} {ds : List PyData} {vs : List V} (h : TvA H vs ds) (t : TS H H') : TvA H' vs ds := TvA.ts t ds vs h
theorem Tv.tupI {H : Hp} {v : V} {ds : List PyData} (h : Tv H v (.tuple ds)) : ∃ a xs, v = .ref a ∧ H a = some (.tup xs) ∧ TvA H xs ds := by
  cases h with
  | tup h1 h2 => exact ⟨_, _, rfl, h1, h2⟩
theorem Tv.intI {H : Hp} {v : V} {i : Int} (h : Tv H v (.int i)) : v = .int i := by cases h; rfl
theorem Tv.strI {H : Hp} {v : V} {x : Str} (h : Tv H v (.str x)) : v = .str x := by cases h; rfl
theorem Tv.nonI {H : Hp} {v : V} (h : Tv H v .none) : v = .non := by cases h; rfl
theorem Tv.blI {H : Hp} {v : V} {b : Bool} (h : Tv H v (.bool b)) : v = .bl b := by cases h; rfl
theorem TvA.len {H : Hp} : ∀ {ds : List PyData} {vs : List V}, TvA H vs ds → vs.length = ds.length
  | [], _, h => by cases h; rfl
  | d :: ds, _, h => by
    cases h with
    | cons h1 h2 => rw [List.length_cons, List.length_cons, TvA.len h2]
theorem TvA.get {H : Hp} : ∀ {ds : List PyData} {vs : List V} {i : Nat} {d : PyData}, TvA H vs ds → ds[i]? = some d → ∃ x, vs[i]? = some x ∧ Tv H x d
  | [], _, i, d, h, e => by simp at e
  | d0 :: ds, _, i, d, h, e => by
    cases h with
    | cons h1 h2 =>
      cases i with
      | zero => simp at e; subst e; exact ⟨_, rfl, h1⟩
      | succ i =>
        obtain ⟨x, e1, e2⟩ := TvA.get (i := i) h2 (by simpa using e)
        exact ⟨x, by simpa using e1, e2⟩
theorem TvA.nilI {H : Hp} {vs : List V} (h : TvA H vs []) : vs = [] := by cases h; rfl
theorem TvA.consI {H : Hp} {vs : List V} {d : PyData} {ds : List PyData} (h : TvA H vs (d :: ds)) : ∃ x r, vs = x :: r ∧ Tv H x d ∧ TvA H r ds := by
  cases h with
  | cons h1 h2 => exact ⟨_, _, rfl, h1, h2⟩
theorem TvA.snoc {H : Hp} : ∀ {ds : List PyData} {vs : List V} {d : PyData} {v : V}, TvA H vs ds → Tv H v d → TvA H (vs ++ [v]) (ds ++ [d])
  | [], _, d, v, h, hv => by cases h; exact .cons hv .nil
  | d0 :: ds, _, d, v, h, hv => by
    cases h with
    | cons h1 h2 => exact .cons h1 (TvA.snoc h2 hv)
theorem TvA.strs {H : Hp} : ∀ (xs : List Str), TvA H (xs.map V.str) (xs.map PyData.str)
  | [] => .nil
  | x :: r => .cons (.str x) (TvA.strs r)
theorem TvA.app {H : Hp} : ∀ {ds es : List PyData} {vs ws : List V}, TvA H vs ds → TvA H ws es → TvA H (vs ++ ws) (ds ++ es)
  | [], _, _, _, h, h' => by cases h; exact h'
  | d0 :: ds, _, _, _, h, h' => by
    cases h with
    | cons h1 h2 => exact .cons h1 (TvA.app h2 h')
theorem TvA.take {H : Hp} : ∀ {ds : List PyData} {vs : List V} (n : Nat), TvA H vs ds → TvA H (vs.take n) (ds.take n)
  | _, _, 0, _ => .nil
  | [], _, n + 1, h => by cases h; exact .nil
  | d0 :: ds, _, n + 1, h => by
    cases h with
    | cons h1 h2 => exact .cons h1 (TvA.take n h2)
theorem TvA.drop {H : Hp} : ∀ {ds : List PyData} {vs : List V} (n : Nat), TvA H vs ds → TvA H (vs.drop n) (ds.drop n)
  | _, _, 0, h => h
  | [], _, n + 1, h => by cases h; exact .nil
  | d0 :: ds, _, n + 1, h => by
    cases h with
    | cons h1 h2 => exact TvA.drop n h2
/-! ### data of tuples and lists -/
/-- a key as data -/
def kD : Key → PyData
  | .inl i => .int i
  | .inr x => .str x
mutual
inductive Lv (H : Hp) : V → PyData → Prop
  | non : Lv H .non .none
  | bl (b : Bool) : Lv H (.bl b) (.bool b)
  | int (i : Int) : Lv H (.int i) (.int i)
  | str (x : Str) : Lv H (.str x) (.str x)
  | tup {a : Addr} {xs : List V} {ds : List PyData} : H a = some (.tup xs) → LvA H xs ds → Lv H (.ref a) (.tuple ds)
  | lst {a : Addr} {xs : List V} {ds : List PyData} : H a = some (.lst xs) → LvA H xs ds → Lv H (.ref a) (.list ds)
  | dct {a : Addr} {kvs : List (Key × V)} {es : List (PyData × PyData)} : H a = some (.dK kvs) → LvK H kvs es → Lv H (.ref a) (.dict es)
inductive LvA (H : Hp) : List V → List PyData → Prop
  | nil : LvA H [] []
  | cons {v : V} {vs : List V} {d : PyData} {ds : List PyData} : Lv H v d → LvA H vs ds → LvA H (v :: vs) (d :: ds)
inductive LvK (H : Hp) : List (Key × V) → List (PyData × PyData) → Prop
  | nil : LvK H [] []
  | cons {k : Key} {v : V} {kvs : List (Key × V)} {d : PyData} {es : List (PyData × PyData)} : Lv H v d → LvK H kvs es → LvK H ((k, v) :: kvs) ((kD k, d) :: es)
end
mutual
theorem Lv.sm {H H' : Hp} (t : Same H H') : ∀ (d : PyData) (v : V), Lv H v d → Lv H' v d
  | .none, _, h => by cases h; exact .non
  | .bool b, _, h => by cases h; exact .bl b
  | .int i, _, h => by cases h; exact .int i
  | .str x, _, h => by cases h; exact .str x
  | .tuple ds, _, h => by
    cases h with
    | tup h1 h2 => exact .tup (t _ _ h1) (LvA.sm t ds _ h2)
  | .list ds, _, h => by
    cases h with
    | lst h1 h2 => exact .lst (t _ _ h1) (LvA.sm t ds _ h2)
  | .dict es, _, h => by
    cases h with
    | dct h1 h2 => exact .dct (t _ _ h1) (LvK.sm t es _ h2)
theorem LvA.sm {H H' : Hp} (t : Same H H') : ∀ (ds : List PyData) (vs : List V), LvA H vs ds → LvA H' vs ds
  | [], _, h => by cases h; exact .nil
  | d :: ds, _, h => by
    cases h with
    | cons h1 h2 => exact .cons (Lv.sm t d _ h1) (LvA.sm t ds _ h2)
theorem LvK.sm {H H' : Hp} (t : Same H H') : ∀ (es : List (PyData × PyData)) (kvs : List (Key × V)), LvK H kvs es → LvK H' kvs es
  | [], _, h => by cases h; exact .nil
  | (k, d) :: es, _, h => by
    cases h with
    | cons h1 h2 => exact .cons (Lv.sm t d _ h1) (LvK.sm t es _ h2)
end
mutual
theorem Tv.lv {H : Hp} : ∀ (d : PyData) (v : V), Tv H v d → Lv H v d
  | .none, _, h => by cases h; exact .non
  | .bool b, _, h => by cases h; exact .bl b
  | .int i, _, h => by cases h; exact .int i
  | .str x, _, h => by cases h; exact .str x
  | .tuple ds, _, h => by
    cases h with
    | tup h1 h2 => exact .tup h1 (TvA.lv ds _ h2)
  | .list _, _, h => by cases h
  | .dict _, _, h => by cases h
theorem TvA.lv {H : Hp} : ∀ (ds : List PyData) (vs : List V), TvA H vs ds → LvA H vs ds
  | [], _, h => by cases h; exact .nil
  | d :: ds, _, h => by
    cases h with
    | cons h1 h2 => exact .cons (Tv.lv d _ h1) (TvA.lv ds _ h2)
end
theorem LvA.len {H : Hp} : ∀ {ds : List PyData} {vs : List V}, LvA H vs ds → vs.length = ds.length
  | [], _, h => by cases h; rfl
  | d :: ds, _, h => by
    cases h with
    | cons h1 h2 => rw [List.length_cons, List.length_cons, LvA.len h2]
theorem LvA.at {H : Hp} : ∀ {ds : List PyData} {vs : List V} {i : Nat} {x : V}, LvA H vs ds → vs[i]? = some x → ∃ d, ds[i]? = some d ∧ Lv H x d
  | [], _, i, x, h, e => by cases h; simp at e
  | d0 :: ds, _, i, x, h, e => by
    cases h with
    | cons h1 h2 =>
      cases i with
      | zero => simp at e; subst e; exact ⟨_, rfl, h1⟩
      | succ i =>
        obtain ⟨d, e1, e2⟩ := LvA.at (i := i) h2 (by simpa using e)
        exact ⟨d, by simpa using e1, e2⟩
/-- how deep a data value is: within n -/
def SD : Nat → PyData → Prop
  | 0, _ => False
  | _ + 1, .none => True
  | _ + 1, .bool _ => True
  | _ + 1, .int _ => True
  | _ + 1, .str _ => True
  | _ + 1, .dict _ => False
  | n + 1, .tuple ds => ds.length ≤ 50000 ∧ ∀ d ∈ ds, SD n d
  | n + 1, .list ds => ds.length ≤ 50000 ∧ ∀ d ∈ ds, SD n d
/-- isinstance of one class, of two -/
theorem isi1 {K : PySem.W.Frag} {H : Hp} {x : V} {T S : String} {b : Bool} {Q : VK} (ty : TyX K H x (.type T)) (k : kitB T S = some b) (q : Q (.bl b) H) : rIsiG K [x, .ty S] H Q :=
  .inl ⟨x, .ty S, .type T, .type S, b, rfl, .ty S, ty, kit_ty k, q⟩
theorem isi2 {K : PySem.W.Frag} {H : Hp} {x : V} {T S S' : String} {b b' : Bool} {tp : Addr} {Q : VK} (e : H tp = some (.tup [.ty S, .ty S'])) (ty : TyX K H x (.type T)) (k : kitB T S = some b) (k' : kitB T S' = some b') (q : Q (.bl (b || b')) H) : rIsiG K [x, .ref tp] H Q :=
  .inr ⟨x, tp, [.ty S, .ty S'], .type T, [.type S, .type S'], b || b', rfl, e, .cons (.ty S) (.cons (.ty S') .nil), ty,
    kitAny_cons (kit_ty k) (fun h => kitAny_cons (kit_ty k') (fun h' => by rw [h, h']; exact kitAny_nil) (fun h' => by rw [h']; exact Bool.or_true _)) (fun h => by rw [h]; rfl), q⟩
theorem notin_true : ∀ n : Nat, inV (.bl false) (List.replicate n (.bl true)) = false
  | 0 => rfl
  | n + 1 => by
    show (eqV (.bl true) (.bl false) || inV (.bl false) (List.replicate n (.bl true))) = false
    rw [notin_true n]
    rfl
theorem flat_true : ∀ n : Nat, (List.replicate n (V.bl true)).all flatV = true
  | 0 => rfl
  | n + 1 => by
    show (flatV (.bl true) && (List.replicate n (V.bl true)).all flatV) = true
    rw [flat_true n]
    rfl
/-! ### readers -/
structure Sta where
  ways : List (Nat × Cs)
  fin : Option Cs
  deriving DecidableEq
structure Rdr where
  reads : Cs
  tells : Cs
  states : List Sta
  deriving DecidableEq
instance : Inhabited Sta := ⟨⟨[], none⟩⟩
def dO : Option Cs → PyData
  | none => .none
  | some t => .str (tx t)
def dW (w : Nat × Cs) : PyData := .tuple [.int w.1, .str (tx w.2)]
def dS (s : Sta) : PyData := .tuple [.tuple (s.ways.map dW), dO s.fin]
def dR (r : Rdr) : PyData := .tuple [.str (tx r.reads), .str (tx r.tells), .tuple (r.states.map dS)]
/-- what reading it asks, no told text longer than B -/
structure Rdr.Ok (r : Rdr) (B : Nat) : Prop where
  ne : 0 < r.states.length
  ways : ∀ s ∈ r.states, s.ways.length = r.reads.length
  there : ∀ s ∈ r.states, ∀ w ∈ s.ways, w.1 < r.states.length ∧ w.2.length ≤ B
  fins : ∀ s ∈ r.states, ∀ t, s.fin = some t → t.length ≤ B
def Rdr.sta (r : Rdr) (s : Nat) : Sta := r.states.getD s default
def Rdr.go (r : Rdr) (s : Nat) (c : Nat) : Nat × Cs := (r.sta s).ways.getD (r.reads.idxOf c) (0, [])
def Rdr.run (r : Rdr) : Nat → Cs → Nat × Cs
  | s, [] => (s, [])
  | s, c :: cs => ((r.run (r.go s c).1 cs).1, (r.go s c).2 ++ (r.run (r.go s c).1 cs).2)
theorem Rdr.run_app (r : Rdr) : ∀ (l m : Cs) (s : Nat), r.run s (l ++ m) = ((r.run (r.run s l).1 m).1, (r.run s l).2 ++ (r.run (r.run s l).1 m).2)
  | [], m, s => rfl
  | c :: l, m, s => by
    show ((r.run (r.go s c).1 (l ++ m)).1, (r.go s c).2 ++ (r.run (r.go s c).1 (l ++ m)).2) = _
    rw [Rdr.run_app r l m]
    show _ = (_, ((r.go s c).2 ++ (r.run (r.go s c).1 l).2) ++ _)
    rw [List.append_assoc]
    rfl
theorem Rdr.run_one (r : Rdr) (s c : Nat) : r.run s [c] = r.go s c := by
  show ((r.go s c).1, (r.go s c).2 ++ []) = _
  rw [List.append_nil]
theorem Rdr.run_snoc (r : Rdr) (l : Cs) (c s : Nat) : r.run s (l ++ [c]) = ((r.go (r.run s l).1 c).1, (r.run s l).2 ++ (r.go (r.run s l).1 c).2) := by
  rw [Rdr.run_app, Rdr.run_one]
theorem Rdr.sta_at {r : Rdr} {s : Nat} (h : s < r.states.length) : r.states[s]? = some (r.sta s) := by
  unfold Rdr.sta
  rw [List.getD_eq_getElem?_getD, List.getElem?_eq_getElem h]
  rfl
theorem Rdr.sta_mem {r : Rdr} {s : Nat} (h : s < r.states.length) : r.sta s ∈ r.states := List.mem_of_getElem? (Rdr.sta_at h)
theorem Rdr.go_at {r : Rdr} {B s c : Nat} (o : r.Ok B) (h : s < r.states.length) (hc : c ∈ r.reads) : (r.sta s).ways[r.reads.idxOf c]? = some (r.go s c) := by
  have hl := o.ways _ (Rdr.sta_mem h)
  have hi := List.idxOf_lt_length_iff.mpr hc
  unfold Rdr.go
  rw [List.getD_eq_getElem?_getD, List.getElem?_eq_getElem (by omega)]
  rfl
theorem Rdr.go_ok {r : Rdr} {B s c : Nat} (o : r.Ok B) (h : s < r.states.length) (hc : c ∈ r.reads) : (r.go s c).1 < r.states.length ∧ (r.go s c).2.length ≤ B :=
  o.there _ (Rdr.sta_mem h) _ (List.mem_of_getElem? (Rdr.go_at o h hc))
theorem Rdr.run_ok {r : Rdr} {B : Nat} (o : r.Ok B) : ∀ (l : Cs) (s : Nat), s < r.states.length → (∀ c ∈ l, c ∈ r.reads) → (r.run s l).1 < r.states.length ∧ (r.run s l).2.length ≤ l.length * B
  | [], s, h, _ => ⟨h, Nat.zero_le _⟩
  | c :: l, s, h, hl => by
    have g := Rdr.go_ok o h (hl c (List.mem_cons_self ..))
    have q := Rdr.run_ok o l _ g.1 (fun x hx => hl x (List.mem_cons_of_mem _ hx))
    refine ⟨q.1, ?_⟩
    show ((r.go s c).2 ++ (r.run (r.go s c).1 l).2).length ≤ (l.length + 1) * B
    rw [List.length_append, Nat.succ_mul]
    omega
/-- the telling -/
def Rdr.telling (r : Rdr) (l : Cs) : Option Cs := (r.sta (r.run 0 l).1).fin.map ((r.run 0 l).2 ++ ·)
/-- a state as the document has it: R ways, below N, told at most B signs of T, an end of at most E -/
structure StaVal (R N B E : Nat) (T : Cs) (s : Sta) : Prop where
  len : s.ways.length = R
  way : ∀ w ∈ s.ways, w.1 < N ∧ w.2.length ≤ B ∧ ∀ c ∈ w.2, c ∈ T
  fin : ∀ t, s.fin = some t → t.length ≤ E ∧ ∀ c ∈ t, c ∈ T
structure Rdr.Val (r : Rdr) (B E : Nat) : Prop where
  ne : 0 < r.states.length
  sta : ∀ s ∈ r.states, StaVal r.reads.length r.states.length B E r.tells s
theorem Rdr.Val.ok {r : Rdr} {B E M : Nat} (v : r.Val B E) (hB : B ≤ M) (hE : E ≤ M) : r.Ok M :=
  ⟨v.ne, fun s hs => (v.sta s hs).len, fun s hs w hw => let z := (v.sta s hs).way w hw; ⟨z.1, Nat.le_trans z.2.1 hB⟩, fun s hs t ht => Nat.le_trans ((v.sta s hs).fin t ht).1 hE⟩
theorem succ_cost {m k C : Nat} (h : k < m) : (m - k) * C = (m - (k + 1)) * C + C := by
  rw [show m - k = (m - (k + 1)) + 1 by omega, Nat.succ_mul]
theorem end_of {H : Hp} {v : V} {t T : Cs} {E : Nat} (hv : v ∈ [V.str (tx t), V.str (("" : String) : Str), V.str (("" : String) : Str), V.non]) (ht : t.length ≤ E) (hs : ∀ c ∈ t, c ∈ T) :
    ∃ f : Option Cs, Tv H v (dO f) ∧ ∀ u, f = some u → u.length ≤ E ∧ ∀ c ∈ u, c ∈ T := by
  have h0 : ∃ f : Option Cs, Tv H (V.str (("" : String) : Str)) (dO f) ∧ ∀ u, f = some u → u.length ≤ E ∧ ∀ c ∈ u, c ∈ T := by
    refine ⟨some [], ?_, fun u e => ?_⟩
    · rw [tx_nil]
      exact .str _
    · cases e
      exact ⟨Nat.zero_le _, fun _ h => nomatch h⟩
  rcases List.mem_cons.mp hv with rfl | hv
  · exact ⟨some t, .str _, fun u e => by cases e; exact ⟨ht, hs⟩⟩
  rcases List.mem_cons.mp hv with rfl | hv
  · exact h0
  rcases List.mem_cons.mp hv with rfl | hv
  · exact h0
  · rw [List.mem_singleton.mp hv]
    exact ⟨none, .non, fun u e => nomatch e⟩
theorem min_in {r : Int} (h : 0 ≤ r) : 0 ≤ (if r < 3 then r else 3) ∧ (if r < 3 then r else 3) < 4 := by
  by_cases c : r < 3
  · rw [if_pos c]
    omega
  · rw [if_neg c]
    omega
/-- a data value is handed back -/
def Ret (d : PyData) (H : Hp) (Q : VK) : Prop := ∀ x H', Same H H' → Tv H' x d → Q x H'
theorem Tv.dR {H : Hp} {v : V} {r : Rdr} (h : Tv H v (dR r)) : ∃ a ss xs, v = .ref a ∧ H a = some (.tup [.str (tx r.reads), .str (tx r.tells), .ref ss]) ∧ H ss = some (.tup xs) ∧ TvA H xs (r.states.map dS) := by
  obtain ⟨a, xs, rfl, ha, hA⟩ := h.tupI
  obtain ⟨x1, r1, rfl, h1, hA⟩ := hA.consI
  obtain ⟨x2, r2, rfl, h2, hA⟩ := hA.consI
  obtain ⟨x3, r3, rfl, h3, hA⟩ := hA.consI
  cases hA.nilI
  cases h1.strI
  cases h2.strI
  obtain ⟨ss, ys, rfl, hs, hB⟩ := h3.tupI
  exact ⟨a, ss, ys, rfl, ha, hs, hB⟩
theorem Tv.dS {H : Hp} {v : V} {s : Sta} (h : Tv H v (dS s)) : ∃ a ws xs e, v = .ref a ∧ H a = some (.tup [.ref ws, e]) ∧ H ws = some (.tup xs) ∧ TvA H xs (s.ways.map dW) ∧ Tv H e (dO s.fin) := by
  obtain ⟨a, xs, rfl, ha, hA⟩ := h.tupI
  obtain ⟨x1, r1, rfl, h1, hA⟩ := hA.consI
  obtain ⟨x2, r2, rfl, h2, hA⟩ := hA.consI
  cases hA.nilI
  obtain ⟨ws, ys, rfl, hs, hB⟩ := h1.tupI
  exact ⟨a, ws, ys, x2, rfl, ha, hs, hB, h2⟩
theorem Tv.dW {H : Hp} {v : V} {w : Nat × Cs} (h : Tv H v (dW w)) : ∃ a, v = .ref a ∧ H a = some (.tup [.int w.1, .str (tx w.2)]) := by
  obtain ⟨a, xs, rfl, ha, hA⟩ := h.tupI
  obtain ⟨x1, r1, rfl, h1, hA⟩ := hA.consI
  obtain ⟨x2, r2, rfl, h2, hA⟩ := hA.consI
  cases hA.nilI
  cases h1.intI
  cases h2.strI
  exact ⟨a, rfl, ha⟩
theorem Tv.mkW {H : Hp} {a : Addr} {w : Nat × Cs} (h : H a = some (.tup [.int w.1, .str (tx w.2)])) : Tv H (.ref a) (Fo.dW w) := .tup h (.cons (.int _) (.cons (.str _) .nil))
theorem dS_at {H : Hp} {xs : List V} {r : Rdr} {s : Nat} (h : TvA H xs (r.states.map Fo.dS)) (hs : s < r.states.length) : ∃ x, xs[s]? = some x ∧ Tv H x (Fo.dS (r.sta s)) :=
  h.get (by rw [List.getElem?_map, Rdr.sta_at hs]; rfl)
theorem dW_at {H : Hp} {xs : List V} {r : Rdr} {B s c : Nat} (o : r.Ok B) (h : TvA H xs ((r.sta s).ways.map Fo.dW)) (hs : s < r.states.length) (hc : c ∈ r.reads) : ∃ x, xs[r.reads.idxOf c]? = some x ∧ Tv H x (Fo.dW (r.go s c)) :=
  h.get (by rw [List.getElem?_map, Rdr.go_at o hs hc]; rfl)
theorem take_snoc {α : Type} {l : List α} {i : Nat} {x : α} (h : l[i]? = some x) : l.take (i + 1) = l.take i ++ [x] := by
  rw [List.take_add_one, h]
  rfl
theorem tx_at {l : Cs} {i : Nat} {c : Nat} (h : (tx l).cps[i]? = some c) : l[i]? = some c := by
  unfold tx at h
  simpa using h
theorem tx_size (l : Cs) : (tx l).cps.size = l.length := by
  unfold tx
  simp
end Fo

namespace Fo
open PySem PySem.Spec PyProof.Rows L2
/-! ### what can be shown as a text -/
structure RP (d : PyData) (k M : Nat) : Prop where
  lay : d.canLay0 = true
  dep : d.depth ≤ k
  wt : d.weight ≤ M
  short : d.intsShort 13 = true
  show' : d.showable = true
theorem RP.mono {d : PyData} {k M k' M' : Nat} (h : RP d k M) (hk : k ≤ k') (hM : M ≤ M') : RP d k' M' := ⟨h.lay, Nat.le_trans h.dep hk, Nat.le_trans h.wt hM, h.short, h.show'⟩
theorem RP.none {k M : Nat} : RP .none k M := ⟨by simp [PyData.canLay0], by simp [PyData.depth], by simp [PyData.weight], by simp [PyData.intsShort], by simp [PyData.showable]⟩
theorem RP.str {l : Cs} {k M : Nat} (h : ∀ c ∈ l, c < 0x110000) (hl : l.length ≤ M) : RP (.str (tx l)) k M := by
  refine ⟨?_, by simp [PyData.depth], ?_, by simp [PyData.intsShort], by simp [PyData.showable]⟩
  · simp only [PyData.canLay0, PyData.strOk]
    rw [← Array.all_toList]
    exact List.all_eq_true.mpr fun c hc => decide_eq_true (h c hc)
  · show (tx l).cps.size ≤ M
    rw [tx_size]
    exact hl
theorem all_map0 {α : Type} {f : α → PyData} : ∀ {l : List α} {k M : Nat}, (∀ x ∈ l, RP (f x) k M) → PyData.canLayAll0 (l.map f) = true ∧ PyData.depthAll (l.map f) ≤ k ∧ PyData.weightAll (l.map f) ≤ l.length * (M + 1) ∧ PyData.intsShortAll 13 (l.map f) = true ∧ PyData.showableAll (l.map f) = true
  | [], k, M, _ => ⟨by simp [PyData.canLayAll0], by simp [PyData.depthAll], by simp [PyData.weightAll], by simp [PyData.intsShortAll], by simp [PyData.showableAll]⟩
  | x :: r, k, M, h => by
    have hx := h x (List.mem_cons_self ..)
    obtain ⟨a1, a2, a3, a4, a5⟩ := all_map0 (f := f) (l := r) fun y hy => h y (List.mem_cons_of_mem _ hy)
    rw [List.map_cons]
    refine ⟨?_, ?_, ?_, ?_, ?_⟩
    · simp only [PyData.canLayAll0, hx.lay, a1, Bool.and_self]
    · simp only [PyData.depthAll]
      have := hx.dep
      omega
    · simp only [PyData.weightAll, List.length_cons, Nat.succ_mul]
      have := hx.wt
      omega
    · simp only [PyData.intsShortAll, hx.short, a4, Bool.and_self]
    · simp only [PyData.showableAll, hx.show', a5, Bool.and_self]
theorem RP.tupM {α : Type} {f : α → PyData} {l : List α} {k M : Nat} (h : ∀ x ∈ l, RP (f x) k M) : RP (.tuple (l.map f)) (k + 1) (l.length * (M + 1)) := by
  obtain ⟨a1, a2, a3, a4, a5⟩ := all_map0 h
  exact ⟨by simp only [PyData.canLay0]; exact a1, by simp only [PyData.depth]; omega, by simp only [PyData.weight]; exact a3, by simp only [PyData.intsShort]; exact a4, by simp only [PyData.showable]; exact a5⟩
theorem RP.tup {ds : List PyData} {k M : Nat} (h : ∀ x ∈ ds, RP x k M) : RP (.tuple ds) (k + 1) (ds.length * (M + 1)) := by
  have := RP.tupM (f := id) h
  rw [List.map_id] at this
  exact this
theorem RP.nat {n k : Nat} (h : n < 1000) : RP (.int (n : Int)) k 64 := by
  have hl : (TL.tl (Str.ofString (toString ((n : Nat) : Int)))).length ≤ 3 := by
    rw [TL.tl_num]
    exact TL.numL_len (k := 3) (by decide) h
  have h2 : ((n : Int).natAbs).log2 ≤ 10 := by
    have e : (n : Int).natAbs = n := rfl
    rw [e]
    by_cases h0 : n = 0
    · subst h0
      decide
    · exact Nat.le_of_lt_succ ((Nat.log2_lt h0).mpr (by omega))
  refine ⟨by simp [PyData.canLay0], by simp [PyData.depth], ?_, ?_, ?_⟩
  · simp only [PyData.weight]
    split
    · omega
    · omega
  · simp only [PyData.intsShort]
    refine decide_eq_true ?_
    show (Str.ofString (toString ((n : Nat) : Int))).length ≤ 13
    rw [TL.len_tl]
    omega
  · simp only [PyData.showable]
    exact decide_eq_true (by omega)
theorem mem2 {α : Type} {P : α → Prop} {a b : α} (ha : P a) (hb : P b) : ∀ x ∈ [a, b], P x := fun x hx => by
  rcases List.mem_cons.mp hx with rfl | hx
  · exact ha
  · rw [List.mem_singleton.mp hx]
    exact hb
theorem mem3 {α : Type} {P : α → Prop} {a b c : α} (ha : P a) (hb : P b) (hc : P c) : ∀ x ∈ [a, b, c], P x := fun x hx => by
  rcases List.mem_cons.mp hx with rfl | hx
  · exact ha
  · exact mem2 hb hc x hx
theorem RP.dO {f : Option Cs} {k M : Nat} (h : ∀ t, f = some t → t.length ≤ M ∧ ∀ c ∈ t, c < 0x110000) : RP (Fo.dO f) k M := by
  cases f with
  | none => exact .none
  | some t => exact .str (h t rfl).2 (h t rfl).1
theorem RP.dR {r : Rdr} {B E : Nat} (v : r.Val B E) (hB : B ≤ 60) (hE : E ≤ 60) (hr : ∀ c ∈ r.reads, c < 0x110000) (ht : ∀ c ∈ r.tells, c < 0x110000) (lr : r.reads.length ≤ 20) (lt : r.tells.length ≤ 20) (ln : r.states.length ≤ 20) : RP (Fo.dR r) 60 1000000 := by
  have w1 : ∀ s ∈ r.states, RP (.tuple (s.ways.map Fo.dW)) 2 2700 := fun s hs => by
    have vs := v.sta s hs
    refine (RP.tupM (k := 1) (M := 130) (fun w hw => ?_)).mono (Nat.le_refl _) ?_
    · have z := vs.way w hw
      exact (RP.tup (k := 0) (M := 64) (mem2 (RP.nat (by omega)) (.str (fun c hc => ht c (z.2.2 c hc)) (by omega)))).mono (Nat.le_refl _) (by show 2 * (64 + 1) ≤ 130; decide)
    · rw [vs.len]
      omega
  have w2 : ∀ s ∈ r.states, RP (Fo.dS s) 3 5402 := fun s hs => by
    have vs := v.sta s hs
    exact (RP.tup (k := 2) (M := 2700) (mem2 (w1 s hs) (RP.dO fun t h => ⟨Nat.le_trans (vs.fin t h).1 (by omega), fun c hc => ht c ((vs.fin t h).2 c hc)⟩))).mono (Nat.le_refl _) (by show 2 * (2700 + 1) ≤ 5402; decide)
  have w3 := (RP.tupM w2).mono (k' := 4) (M' := 110000) (Nat.le_refl _) (by omega)
  exact (RP.tup (k := 4) (M := 110000) (mem3 (.str hr (by omega)) (.str ht (by omega)) w3)).mono (by decide) (by show 3 * (110000 + 1) ≤ 1000000; decide)
/-! ### repr of data, where nothing is being shown -/
def rRepr (K : PySem.W.Frag) : List V → Hp → VK → Prop := fun xs H Q => ∃ (a : Addr) (d : PyData), xs = [.ref a] ∧ Dp K H (.ref a) d ∧ RP d 60 1000000 ∧ Q (.str d.shown) H
section
variable {X : Cx}
theorem call_reprD (K : PySem.W.Frag) (e : X.K = K) {k : Nat} (hg : X.A.guards = some []) (hr : Room k X.A) : CallR X (.builtin "repr") (rRepr K) := by
  subst e
  intro pins s σ H xs us Q I r h
  obtain ⟨a, d, rfl, hd, rp, q⟩ := h
  rw [Vals.ref1 r]
  obtain ⟨as, rd⟩ := Dp.reads I d _ (.ref a) hd rfl
  have hl : d.layable0 = true := by
    have h1 := rp.lay
    have h2 : decide (d.depth ≤ 64) = true := decide_eq_true (Nat.le_trans rp.dep (by decide))
    have h3 : decide (d.weight ≤ 2 ^ 20) = true := decide_eq_true (Nat.le_trans rp.wt (by decide))
    show (d.canLay0 && decide (d.depth ≤ 64) && decide (d.weight ≤ 2 ^ 20)) = true
    rw [h1, h2, h3]
    rfl
  refine repr_of_reads' rd rp.show' (PyData.noDict_hsm (PyData.hasDict_of_layable hl)) hg (by have := hr.un; have := rp.dep; omega) (fun _ _ z => z) (fun h' u tk hk => ?_) (Nat.le_trans (shown_le13 hl rp.short) (by rw [sizeLine_eq]; decide))
  exact ⟨.str d.shown, H, I.kept hk, ⟨_, rfl⟩, q⟩
end
/-! ### a def that is asked where nothing is being shown -/
structure FnG (P : Program) (w : World) (K : PySem.W.Frag) (mg : Str → Option Value) (base : Heap) (CX : CXT) (k : Nat) (f : Addr) (fd : FuncData) (ps : List Str) (sp : Sp) : Prop where
  len : ∀ vs H Q E, sp vs H Q E → vs.length = ps.length
  run : ∀ (A : Around) (hg : A.guards = some []) (outer : List Env) (s : Shared) (H : Hp) (args : Args) (us : List Value) (vs : List V) (Q : VK) (E : XK), Room k A → Env0 P w K mg base A outer s H →
    BindsTo s fd args (ps.zip us) → Vals vs us → sp vs H Q E → codeAny (model P w) A (.call (.ref f) args) (CR CX outer P w H s Q E) s
section
variable {P : Program} {w : World} {K : PySem.W.Frag} {mg : Str → Option Value} {base : Heap}
/-- by its body -/
theorem fnG {x qual : Str} {st : Stmt} {f : Addr} {fd : FuncData} {N ps : List Str} {k : Nat} {sp : Sp} (F : Fun K x qual st f fd) (S : FnScope N ps (defScope st)) (len : ∀ vs H Q E, sp vs H Q E → vs.length = ps.length)
    (body : ∀ (cdv : Value) (A : Around) (outer : List Env) (s : Shared) (H : Hp) (vs : List V) (Q : VK) (E : XK), A.guards = some [] → Room k (A.deeper (envOfC qual (defScope st) s.heap.objs.size f cdv)) → sp vs H Q E →
      ∃ t, PSs (cxOf CX0 P w K mg base N qual (defScope st) f cdv A outer s H E).nox (defBody st) t ∧ t { nx := fun _ H' => Q .non H', rt := Q } (L2.start N vs) H) : FnG P w K mg base CX0 (k + 1) f fd ps sp := by
  obtain ⟨oc, od, kV, doc, pm, an, cdv, ct, osl, rfl, lk, hcd⟩ := F.ex
  refine ⟨len, fun A hg outer s H args us vs Q E hr en hb r h => ?_⟩
  have old : ∀ b o, base.get? b = some o → s.heap.get? b = some o := fun b o z => (en.bs b o z).1
  have inK := en.mod.kin.keeps old
  have kinds : ∀ y ∈ ps.zip us, (defScope st).names.lookup y.1 = some .local ∨ ((defScope st).names.lookup y.1 = some .cell ∧ ((cellsFrom (s.heap.objs.size + 1) (defScope st).names []).lookup y.1).isSome = true) := by
    rintro ⟨n, v⟩ hy
    rcases S.par n (List.of_mem_zip hy).1 with z | z
    · exact Or.inl z
    · exact Or.inr ⟨z, PySem.W.cellsFrom_some _ _ _ (Or.inl z)⟩
  apply codeAny_call_function hr.depth (inK _ _ lk) rfl S.co S.gen rfl
    (PySem.W.codeRec_of inK hcd)
  apply hb
  refine wpAny_newFunctionEnv_cells S.kind kinds (fun env he s1 x => ?_)
  subst he
  refine ⟨(en.mod.nolimit.keeps old).keeps x.toInCall.keep, ?_⟩
  apply codeAny_func
  obtain ⟨t, ht, hq⟩ := body cdv A outer s H vs Q E hg (hr.deeper _) h
  have J0 := inv_start (CX := CX0) (E := E) S hr.hd en (len _ _ _ _ h) r x
  refine wpAny_mono (ht.nox.run [] s1 _ H _ J0 hq) (fun fl s' z => ?_) (fun e s' z => z)
  have out : ∀ {σ' : L2.St} {H' : Hp} {v : V} {u : Value}, Inv (cxOf CX0 P w K mg base N qual (defScope st) f cdv A outer s H E) [] σ' H' s' → RelV v u → Q v H' → CE outer P w H s Q u s' :=
    fun J rv hv => ⟨_, _, J.os, J.bare, J.base, J.hok, rv, hv⟩
  cases fl with
  | next => exact let ⟨_, _, J, hv⟩ := z; out (v := V.non) (u := Value.none) J rfl hv
  | ret u => exact let ⟨_, _, _, J, rv, hv⟩ := z; out J rv hv
  | brk => exact let ⟨_, _, _, hv⟩ := z; hv.elim
  | cont => exact let ⟨_, _, _, hv⟩ := z; hv.elim
end
/-! ### the law's call, from such a promise -/
section
variable {P : Program} {w : World} {K : PySem.W.Frag} {mg mb : Str → Option Value} {k : Nat} {fa a : Addr} {fd : FuncData} {x : Str} {sp : Sp} {s₁ : Shared} {vs : List Value} {ns : List Int}
/-- what the law's call is to leave -/
def LawEnd (s₁ : Shared) (r : Result) (s' : Shared) : Prop := r = .ok (.ret (.bool true)) ∧ OldK s₁.heap s'.heap ∧ s'.os = s₁.os ∧ AllBare s'.gens
/-- from an abstract heap that tracks the script alone, or nothing -/
theorem lawG_at (inK : K.In s₁.heap) (hm : s₁.heap.Ns mainGlobals mg) (hb : s₁.heap.Ns builtinsNs mb) (hbb : ∀ x : Str, x ≠ "__name__" → mb x = bootBuiltins x) (lim : s₁.heap.NoLimit) (ng : s₁.gens = #[])
    (ha : s₁.heap.get? a = some { cls := .type "list", data := .seq vs.toArray }) (hr : Room k callerA) (F : ∀ base : Heap, K.In base → base.Ns mainGlobals mg → FnG P w K mg base CX0 k fa fd [x] sp)
    (bd : ∀ (s : Shared) (u : Value), BindsTo s fd ⟨[u], []⟩ [(x, u)]) {H : Hp} (only : Only H) (hs : sp [.ref a] H (fun v _ => v = .bl true) fun _ _ _ => False) (hok : HOk P w H s₁.heap) (at' : ∀ b, H b ≠ none → b = a) (out : H a ≠ none → K.lookup a = none) :
    codeAny (model P w) callerA (.call (.ref fa) ⟨[.ref a], []⟩) (LawEnd s₁) s₁ := by
  -- what is not tracked stands in the base
  have keepB : ∀ {b : Addr} {o : Obj}, s₁.heap.get? b = some o → H b = none → (hidT s₁.heap H).get? b = some o := hidT_get
  have untracked : ∀ {b : Addr}, b ≠ a → H b = none := fun {b} n => by
    by_cases z : H b = none
    · exact z
    · exact absurd (at' b z) n
  have spaces : ∀ {b : Addr} {m : Str → Option Value}, s₁.heap.Ns b m → (hidT s₁.heap H).Ns b m := fun {b m} h => by
    obtain ⟨o, es, ep, e, d, r⟩ := h
    refine ⟨o, es, ep, keepB e (untracked fun z => ?_), d, r⟩
    subst z
    cases ha.symm.trans e
    cases d
  have inB : K.In (hidT s₁.heap H) := fun b o e => by
    refine keepB (inK b o e) ?_
    by_cases z : H b = none
    · exact z
    · have eb := at' b z
      subst eb
      rw [out z] at e
      cases e
  have md : Mod K mg (hidT s₁.heap H) := by
    refine ⟨inB, spaces hm, ⟨mb, spaces hb, hbb⟩, ?_⟩
    obtain ⟨mc, h1, h2⟩ := lim
    exact ⟨mc, spaces h1, h2⟩
  have en : Env0 P w K mg (hidT s₁.heap H) callerA [] s₁ H := by
    refine ⟨rfl, md, fun b o e => of_hidT e, Nat.le_of_eq (hidT_size _ _), trivial, fun b z => ?_, hok, .of_eq ng⟩
    exact absurd (show b ∈ ([] : List Addr) from z) List.not_mem_nil
  have run := (F _ inB (spaces hm)).run callerA rfl [] s₁ H ⟨[.ref a], []⟩ [.ref a] [.ref a] _ _ hr en (bd s₁ (.ref a)) (.cons rfl .nil) hs
  refine codeAny_mono run fun r s' z => ?_
  rcases r with e | fl
  · exact False.elim z
  cases fl with
  | ret u =>
    obtain ⟨v, H', eos, bare, un, hok', rv, q⟩ := z
    cases (show v = .bl true from q)
    cases (show u = Value.bool true from rv)
    refine ⟨rfl, OldK.of_keep (fun b o e => ?_), eos, bare⟩
    by_cases zb : H b = none
    · exact un.keep b o e zb (by intro z; exact absurd (show b ∈ ([] : List Addr) from z) List.not_mem_nil) List.not_mem_nil
    · rcases only b with z | ⟨ob, xs, z⟩
      · exact absurd z zb
      · have h1 := (hok b _ z).1
        have h2 := (hok' b _ (un.frzs b ob _ z)).1
        cases e.symm.trans h1
        exact h2
  | next => exact False.elim z
  | brk => exact False.elim z
  | cont => exact False.elim z
theorem lawG (inK : K.In s₁.heap) (hm : s₁.heap.Ns mainGlobals mg) (hb : s₁.heap.Ns builtinsNs mb) (hbb : ∀ x : Str, x ≠ "__name__" → mb x = bootBuiltins x) (lim : s₁.heap.NoLimit) (ng : s₁.gens = #[])
    (ha : s₁.heap.get? a = some { cls := .type "list", data := .seq vs.toArray }) (hi : IntsAre vs ns) (hl : ns.length ≤ sizeLine) (hr : Room k callerA) (F : ∀ base : Heap, K.In base → base.Ns mainGlobals mg → FnG P w K mg base CX0 k fa fd [x] sp)
    (bd : ∀ (s : Shared) (u : Value), BindsTo s fd ⟨[u], []⟩ [(x, u)]) (hs : ∀ H : Hp, Only H → SqL K H a (ns.map V.int) → sp [.ref a] H (fun v _ => v = .bl true) fun _ _ _ => False) :
    codeAny (model P w) callerA (.call (.ref fa) ⟨[.ref a], []⟩) (LawEnd s₁) s₁ := by
  have rv := vals_ints hi
  have hl2 : (ns.map V.int).length ≤ sizeLine := by rw [List.length_map]; exact hl
  cases hk : K.lookup a with
  | some o =>
    have e := inK a o hk
    cases ha.symm.trans e
    have nothing : Only fun _ => none := fun _ => Or.inl rfl
    refine lawG_at inK hm hb hbb lim ng ha hr F bd nothing (hs _ nothing (Or.inr ⟨_, vs.toArray, _, hk, rfl, rfl, rfl, ?_, by simpa using rv⟩)) (fun b u z => nomatch z) (fun b z => absurd rfl z) (fun z => absurd rfl z)
    rw [List.size_toArray, hi.length]
    exact hl
  | none =>
    let o : Obj := { cls := .type "list", data := .seq vs.toArray }
    have here : upd (fun _ => none) a (HO.frz o (.lst (ns.map V.int))) a = some (.frz o (.lst (ns.map V.int))) := upd_same
    have only : Only (upd (fun _ => none) a (HO.frz o (.lst (ns.map V.int)))) := fun b => by
      by_cases hb' : b = a
      · subst hb'
        exact Or.inr ⟨_, _, here⟩
      · exact Or.inl (upd_ne hb')
    have just : ∀ b, upd (fun _ => none) a (HO.frz o (.lst (ns.map V.int))) b ≠ none → b = a := fun b z => by
      by_cases hb' : b = a
      · exact hb'
      · exact absurd (upd_ne hb') z
    refine lawG_at inK hm hb hbb lim ng ha hr F bd only (hs _ only (Or.inl (Or.inr ⟨_, here⟩))) (fun b u z => ?_) just (fun _ => hk)
    have eb := just b (by rw [z]; exact fun q => nomatch q)
    subst eb
    cases here.symm.trans z
    exact ⟨ha, hl2, vs, _, rv, ha⟩
end
theorem walkG {l : PySem.W.OpenLaw} {n k : Nat} {q : Program} {loose : List Str} {XP : (Str → Option Value) → Heap → Prop} {YP : World → Heap → Prop} {d : DefRec} {K : Params → PySem.W.Frag} {sp : PySem.W.Frag → Sp} {x : Str}
    (hn : l.most = some n) (hn2 : n ≤ sizeLine) (hdf : d.params.defaults = []) (hr : Room k callerA) (hY : ∀ (w : World) (h : Heap), YP w h → (K w.params).In h)
    (F : ∀ (w : World) (mg : Str → Option Value) (fa : Addr) (h : Heap), (K w.params).In h → h.Ns mainGlobals mg → mg d.name = some (.ref fa) →
      ∃ fd : FuncData, (∀ (s : Shared) (u : Value), BindsTo s fd ⟨[u], []⟩ [(x, u)]) ∧ ∀ base : Heap, (K w.params).In base → base.Ns mainGlobals mg → FnG l.prog w (K w.params) mg base CX0 k fa fd [x] (sp (K w.params)))
    (hsp : ∀ (K : PySem.W.Frag) (H : Hp) (a : Addr) (ns : List Int), ns.length ≤ n → SqL K H a (ns.map V.int) → sp K [.ref a] H (fun v _ => v = .bl true) fun _ _ _ => False) :
    PySem.W.WalkO q loose XP YP l.row.toRowW d [] (fun f vs => PySem.call f vs) := by
  apply Att.attach_call hn hdf
  intro w s₀ s₁ mg mb fa o pm cd doc a vs ns G Y ho hd hcd hmg hobj hints hlen hg
  have inK := hY w _ Y
  obtain ⟨fd, hb, hF⟩ := F w mg fa _ inK G.T.g hmg
  exact lawG inK G.T.g G.T.b G.T.builtins G.T.nolimit hg hobj hints (Nat.le_trans hlen hn2) hr hF hb (fun H _ hS => hsp _ H a ns hlen hS)
/-- a call that writes every keyword-only parameter -/
theorem kb_of {K : PySem.W.Frag} {x qual : Str} {params : Arguments} {body : List Stmt} {scope : Scope} {kws : List (Str × V)} {f : Addr} {fd : FuncData} {ps ks : List Str} {n : Nat} (F : FunD K x qual params body scope [] kws f fd)
    (h : ∀ (kV doc pm : Value) (an : Option Addr) (cdv ct : Value) (us ws : List Value), us.length = n → ws.length = ks.length → bindArgs (PySem.W.fnOf x qual params body scope .none kV doc pm an cdv ct) ⟨us, ks.zip ws⟩ = pure (ps.zip (us ++ ws))) :
    KBn K fd ps n ks (fun us ws => us ++ ws) (fun vs zs => vs ++ zs) := by
  obtain ⟨oc, od, dV, kV, doc, pm, an, cdv, ct, osl, rfl, lk, hcd, hD, hK⟩ := F.ex
  rcases hD with ⟨_, rfl⟩ | ⟨e, _⟩
  · exact ⟨fun s us ws _ h1 h2 => .of_eq (h kV doc pm an cdv ct us ws h1 h2), fun r1 r2 => r1.append r2⟩
  · exact absurd rfl e
end Fo

namespace Fo
open PySem PySem.Spec PyProof.Rows L2 TL
/-- the texts of a sorted set of signs -/
theorem signs_of {x : Cs} {S : Str → Bool} {ys : List Str} (hS : S = fun y => decide (∃ c ∈ x, y = one c)) (hs : sortedS ys = true) (hn : ys.Nodup) (hm : ∀ k, k ∈ ys ↔ S k = true) :
    ∃ u : Cs, ys = u.map one ∧ u.Pairwise (· < ·) ∧ ∀ c, c ∈ u ↔ c ∈ x := by
  subst hS
  have hm' : ∀ k, k ∈ ys ↔ ∃ c ∈ x, k = one c := fun k => (hm k).trans decide_eq_true_iff
  have inj : ∀ {a b : Nat}, one a = one b → a = b := fun {a b} e => (List.cons.inj (congrArg (fun y : Str => y.cps.toList) e)).1
  have ey : ys = (ys.map fun y => (TL.tl y).headD 0).map one := by
    rw [List.map_map]
    refine (List.map_id ys).symm.trans (List.map_congr_left fun y hy => ?_)
    obtain ⟨c, _, rfl⟩ := (hm' y).mp hy
    rfl
  generalize (ys.map fun y => (TL.tl y).headD 0) = u at ey
  subst ey
  have nu : u.Nodup := by
    refine List.Pairwise.imp (fun {a b} h e => h (congrArg one e)) (List.pairwise_map.mp hn)
  refine ⟨u, rfl, strict_of (sorted_of hs) nu, fun c => ?_⟩
  have z := hm' (one c)
  constructor
  · intro h
    obtain ⟨d, hd, e⟩ := z.mp (List.mem_map.mpr ⟨c, h, rfl⟩)
    rw [inj e]
    exact hd
  · intro h
    obtain ⟨d, hd, e⟩ := List.mem_map.mp (z.mpr ⟨c, h, rfl⟩)
    rw [← inj e]
    exact hd
end Fo

namespace Fo
open PySem PySem.Spec PyProof.Rows L2 TL PySem.Froz
/-! ### a set of texts whose walk is known -/
/-- the payload D is laid: the texts l, rising places, an order that is followed or led -/
structure Laid (P : Program) (w : World) (D : Froz.SD) (l : List Str) : Prop where
  texts : TxOk P w D l
  rising : Ris D.2.2.place.toList
  known : w.params.followText "set-order" = true ∨ D.2.2.led = true
/-- its texts are the signs of c, each once -/
structure Signs (l : List Str) (c : Cs) : Prop where
  once : l.Nodup
  are : ∀ y, y ∈ l ↔ ∃ z ∈ c, y = one z
  few : l.length ≤ c.length
theorem off_same (t : SetTable) : (if t.plain = true then { t with plain := false } else t).place = t.place ∧ (if t.plain = true then { t with plain := false } else t).led = t.led := by
  cases t.plain <;> exact ⟨rfl, rfl⟩
theorem tail_same (ep : Nat) (es : Array (Int × Value)) (t : SetTable) (d : Bool) (r : Ris t.place.toList) :
    Ris (tailTx ep es t d).2.2.place.toList ∧ (tailTx ep es t d).2.2.led = t.led := by
  rw [tailTx]
  split
  · exact ⟨relayAll_ris .., relayAll_led ..⟩
  · exact ⟨r, rfl⟩
section
variable {P : Program} {w : World} {A : Around} {E : Value → Shared → Prop} {s : Shared}
theorem Laid.more {D : Froz.SD} {l : List Str} {k : Str} (u : Tok) (L : Laid P w D l) : Laid P w (addTx (hashStr w k) (.str k u) D) (k :: l) := by
  have o := off_same (layNew D.2.2 D.1 (hashStr w k) (.str k u)).2.1
  have r := layNew_ris D.2.2 D.1 (hashStr w k) (.str k u) L.rising
  rw [← o.1] at r
  have z := tail_same D.2.1 (layNew D.2.2 D.1 (hashStr w k) (.str k u)).1 _ (layNew D.2.2 D.1 (hashStr w k) (.str k u)).2.2.1 r
  exact ⟨add_ok u L.texts, z.1, L.known.imp_right fun e => z.2.trans (o.2.trans ((layNew_led ..).trans e))⟩
theorem Laid.none_ : Laid P w (#[], 0, .fresh 0 0 (!w.params.followText "set-order")) [] where
  texts := .nil rfl
  rising := List.Pairwise.nil
  known := match e : w.params.followText "set-order" with
    | true => .inl rfl
    | false => .inr rfl
/-- a text that is there already changes nothing -/
theorem put_there {a : Addr} {D : Froz.SD} {l : List Str} {k : Str} {u : Tok} {Q : Bool → Shared → Prop} (there : s.heap.get? a = some (sObj "set" D)) (F : TxOk P w D l) (hk : k ∈ l) (small : l.length < scanBound)
    (goal : Q false s) : wpAny (model P w) A (setAddHashed a (.str k u) (hashStr w k)) Q E s := by
  have size : D.1.size < scanBound := by rw [F.sz]; exact small
  have key := is_str (P := P) (w := w) k u
  unfold setAddHashed setAddHashedIn setAddByScan
  refine wpAny_holding (wpAny_bind (wpAny_setState_of there rfl F.fit ?_))
  simp only [byScan_of (x := Value.str k u) rfl size F.el, ↓reduceIte]
  refine wpAny_bind (wpAny_bind (wpAny_rule (wpAny_bind (wpAny_setScan_of key there rfl F.fit F.el ?_))))
  cases found : List.findIdx? (fun e => (strKind P w).is k e.2) D.1.toList with
  | some j => exact wpAny_pure (wpAny_pure goal)
  | none =>
    obtain ⟨e, he, q⟩ := (F.mem k).mp hk
    exact absurd q (by simpa using List.findIdx?_eq_none_iff.mp found e he)
/-- one sign more -/
theorem put {a : Addr} {D : Froz.SD} {l : List Str} {c : Cs} {z : Nat} {u : Tok} {Q : Bool → Shared → Prop} (there : s.heap.get? a = some (sObj "set" D)) (L : Laid P w D l) (S : Signs l c) (small : c.length + 1 < scanBound)
    (goal : ∀ b D' l' h', h'.get? a = some (sObj "set" D') → (∀ q o, q ≠ a → s.heap.get? q = some o → h'.get? q = some o) → Laid P w D' l' → Signs l' (c ++ [z]) → Q b { s with heap := h' }) :
    wpAny (model P w) A (setAddHashed a (.str (one z) u) (hashStr w (one z))) Q E s := by
  have few := S.few
  by_cases old : one z ∈ l
  · refine put_there there L.texts old (by omega) (goal false D l s.heap there (fun _ _ _ e => e) L ⟨S.once, fun y => ?_, by simp; omega⟩)
    rw [S.are y]
    constructor
    · exact fun ⟨v, old, same⟩ => ⟨v, List.mem_append_left _ old, same⟩
    · rintro ⟨v, hv, e⟩
      rcases List.mem_append.mp hv with hv | hv
      · exact ⟨v, hv, e⟩
      · rw [List.mem_singleton] at hv
        rw [hv] at e
        exact (S.are y).mp (e ▸ old)
  · refine add_x there L.texts old (by omega) (goal true _ (one z :: l) _ (get_upd _ there rfl) (fun q o ne e => Heap.get?_update_of_ne _ (Ne.symm ne) e) (L.more u) ⟨List.nodup_cons.mpr ⟨old, S.once⟩, fun y => ?_, by simp; omega⟩)
    constructor
    · intro hy
      rcases List.mem_cons.mp hy with now | before
      · exact ⟨z, by simp, now⟩
      · obtain ⟨v, hv, e⟩ := (S.are y).mp before
        exact ⟨v, List.mem_append_left _ hv, e⟩
    · rintro ⟨v, hv, e⟩
      rcases List.mem_append.mp hv with hv | hv
      · exact List.mem_cons_of_mem _ ((S.are y).mpr ⟨v, hv, e⟩)
      · rw [List.mem_singleton] at hv
        rw [e, hv]
        exact List.mem_cons_self ..
/-- the loop: all signs that are left -/
theorem fill {a it : Addr} {x : Str} {St : Nat → Heap → Prop} {R : Result → Shared → Prop} (apart : a ≠ it) (W : Walks P w A.in1 it [it] [it] x.cps.size (SignAt x) St) (small : x.cps.size + 1 < scanBound) :
    ∀ (left done : Cs) (D : Froz.SD) (l : List Str) (s : Shared), x.cps.toList = done ++ left → St done.length s.heap → s.heap.get? a = some (sObj "set" D) → Laid P w D l → Signs l done →
      (∀ D' l' h' tk, h'.get? a = some (sObj "set" D') → Laid P w D' l' → Signs l' x.cps.toList → (∀ b o, b ≠ a → b ≠ it → s.heap.get? b = some o → h'.get? b = some o) → R (.ok (.ret .none)) { s with heap := h', toks := tk }) →
      codeAny (model P w) A (.builtin "set.update.loop" ⟨[.ref a, .ref it], []⟩) R s := by
  have notIt : a ∉ [it] := by simpa using apart
  have all : x.cps.toList.length = x.cps.size := Array.length_toList
  intro left
  induction left with
  | nil =>
    intro done D l s e st there L S goal
    rw [List.append_nil] at e
    refine codeAny_builtin PyProof.Rows.F.entry_set_update_loop (Eq.mpr (congrArg (fun B => wpAny _ B _ _ _ _) (Around.under_plainId PyProof.Rows.F.plain_set_update_loop _)) ?_)
    show wpAny _ A.in1 (pyNext (.ref it) >>= fun m => _) _ _ s
    refine wpAny_bind (W.done s _ _ (by rw [← all, e]; exact st) fun h' tk keep => wpAny_pure (goal D l h' tk (keep a _ notIt there) L (e ▸ S) fun b o _ ne he => keep b o (by simpa using ne) he))
  | cons z left ih =>
    intro done D l s e st there L S goal
    have len : done.length + (left.length + 1) = x.cps.size := by rw [← all, e]; simp
    have here : x.cps[done.length]? = some z := by rw [← Array.getElem?_toList, e]; simp
    refine codeAny_builtin PyProof.Rows.F.entry_set_update_loop (Eq.mpr (congrArg (fun B => wpAny _ B _ _ _ _) (Around.under_plainId PyProof.Rows.F.plain_set_update_loop _)) ?_)
    show wpAny _ A.in1 (pyNext (.ref it) >>= fun m => _) _ _ s
    refine wpAny_bind (W.item done.length s _ _ (by omega) st ?_)
    rintro _ h1 tk1 ⟨z', u, hz, rfl⟩ st1 keep1
    obtain rfl : z = z' := Option.some.inj (here.symm.trans hz)
    have there1 := keep1 a _ notIt there
    show wpAny _ A.in1 (holding [Value.str (one z) u] (setAdd a (.str (one z) u)) >>= fun _ => _) _ _ _
    refine wpAny_bind (wpAny_holding (wpAny_holding (wpAny_bind ((strKind P w).pyHash (is_str (one z) u) ?_))))
    refine put (s := { s with heap := h1, toks := tk1 + 1 }) there1 L S (by omega) fun _ D2 l2 h2 there2 keep2 L2' S2 => ?_
    have st2 := W.frame _ h1 h2 st1 fun b hb o he => keep2 b o (fun eq => notIt (eq ▸ hb)) he
    refine wpAny_pure ⟨plainId_quiet PyProof.Rows.F.plain_set_update_loop _, ih (done ++ [z]) D2 l2 _ (by rw [e]; simp) (by simpa using st2) there2 L2' S2 fun D3 l3 h3 tk3 there3 L3 S3 keep3 => ?_⟩
    exact goal D3 l3 h3 tk3 there3 L3 S3 fun b o na ni he => keep3 b o na ni (keep2 b o na (keep1 b o (by simpa using ni) he))
/-- `set.__new__` with one argument: what its table is told of the order -/
theorem made_empty (arg : Value) {Q : Value → Shared → Prop} (goal : Q (.ref s.heap.objs.size) { s with heap := s.heap.push (sObj "set" (#[], 0, .fresh 0 0 (!w.params.followText "set-order"))) }) :
    codeAny (model P w) A (.call (.builtin "set.__new__") ⟨[.type "set", arg], []⟩) (wants Q E) s := by
  have sub := sub_set_self
  rcases s with ⟨heap, gens, drawn, toks, os⟩
  refine codeAny_of_tree (show wpAny _ A.in1 (checkBuiltinCall "set.__new__" ⟨[.type "set", arg], []⟩ >>= fun _ => again _) _ _ _ from ?_)
  refine wpAny_bind (wpAny_of_eq (PySem.F.newCall_set_1 arg) (wpAny_pure ⟨plainId_quiet PySem.F.plain_set_new _, codeAny_builtin PySem.F.entry_set_new ?_⟩))
  rw [Around.under_plainId PySem.F.plain_set_new _, Builtin.«set.__new__», Builtin.Frozenset.newClass]
  wp_walk
  refine wpAny_askSetting (wpAny_pure (?_ : wpAny _ _ (_ >>= _) _ _ _))
  simp only [newObj]
  exact wpAny_bind (wpAny_alloc (wpAny_pure (wpAny_pure goal)))
/-- set(x) of a text -/
theorem set_text {x : Str} {t : Tok} {Q : Value → Shared → Prop} (calm : A.handled = none) (small : x.cps.size + 1 < scanBound)
    (goal : ∀ D l h' tk, h'.get? s.heap.objs.size = some (sObj "set" D) → Laid P w D l → Signs l x.cps.toList → (∀ b o, s.heap.get? b = some o → h'.get? b = some o) → Q (.ref s.heap.objs.size) { s with heap := h', toks := tk }) :
    wpAny (model P w) A (call (.type "set") [.str x t]) Q E s := by
  have T := PySem.F.called_set
  obtain ⟨_, _, order⟩ := T.mro
  have made := T.made
  have below := T.sub
  have other := T.notType
  have free := T.canCreate
  have fine := PySem.F.typeCall_set_1 (.str x t)
  refine wpAny_call (codeAny_of_tree (show wpAny _ _ (callAny (.type "set") _) _ _ _ from wpAny_pure ⟨Code.quiet_builtin _ (by decide +kernel), codeAny_builtin PySem.F.entry_type_call ?_⟩))
  rw [Around.under_plain (weight_type_call_type "set" [.str x t] []) rfl]
  repeat any_goals first | assumption | wp_step
  refine codeAny_mono (made_empty (E := E) (.str x t) (Q := fun v s' => v = .ref s.heap.objs.size ∧ s' = { s with heap := s.heap.push (sObj "set" (#[], 0, .fresh 0 0 (!w.params.followText "set-order"))) }) ⟨rfl, rfl⟩) ?_
  rintro (_ | fl) s' told
  · exact told
  cases fl with
  | ret v =>
    obtain ⟨rfl, rfl⟩ := told
    have there : (s.heap.push (sObj "set" (#[], 0, .fresh 0 0 (!w.params.followText "set-order")))).get? s.heap.objs.size = some (sObj "set" (#[], 0, .fresh 0 0 (!w.params.followText "set-order"))) := Heap.get?_push_size _ rfl
    have isSet : Shared.TypeIs { s with heap := s.heap.push (sObj "set" (#[], 0, .fresh 0 0 (!w.params.followText "set-order"))) } (.ref s.heap.objs.size) "set" := ⟨_, there, rfl⟩
    have looked := T.init.lookup
    have bound := T.init.bind (.ref s.heap.objs.size)
    repeat any_goals first | assumption | wp_step
    refine codeAny_mono (codeAny_call_builtin (R := wants (fun r s' => r = .none ∧ Q (.ref s.heap.objs.size) s') E) T.init.plain PySem.F.entry_set_init (check_set_init_1 isSet ?_)) ?_
    · have noSet : isSubtype (.type "str") (.type "set") = pure false := by rw [isSubtype_type]; kernel_rfl
      have noFrozen : isSubtype (.type "str") (.type "frozenset") = pure false := by rw [isSubtype_type]; kernel_rfl
      have noDict : (Value.type "str" == Value.type "dict") = false := by decide
      rw [Builtin.«set.__init__», noKeywords]
      unfold Builtin.Frozenset.updateFrom
      generalize walked : pyIter = I
      wp_walk
      subst walked
      refine wpAny_pyIter_str fun o St walks begun => wpAny_bind (wpAny_runValue ?_)
      have next : (s.heap.push (sObj "set" (#[], 0, .fresh 0 0 (!w.params.followText "set-order")))).objs.size = s.heap.objs.size + 1 := Heap.size_push ..
      have apart : s.heap.objs.size ≠ (s.heap.push (sObj "set" (#[], 0, .fresh 0 0 (!w.params.followText "set-order")))).objs.size := by
        rw [next]
        exact Nat.ne_of_lt (Nat.lt_succ_self _)
      refine fill apart (walks _ (by simpa using calm)) small x.cps.toList [] _ [] _ rfl begun (Heap.get?_push_of_some _ there) Laid.none_ ⟨List.nodup_nil, fun y => by simp, Nat.le_refl _⟩ fun D l h' tk there' L S keep => ?_
      refine wpAny_pure (wpAny_pure ⟨rfl, goal D l h' tk there' L S fun b u e => keep b u ?_ ?_ (Heap.get?_push_of_some _ (Heap.get?_push_of_some _ e))⟩)
      · exact Nat.ne_of_lt (Heap.lt_size e)
      · rw [next]
        exact Nat.ne_of_lt (Nat.lt_succ_of_lt (Heap.lt_size e))
    · rintro (_ | fl) s' told
      · exact told
      cases fl with
      | ret v =>
        obtain ⟨rfl, q⟩ := told
        repeat any_goals first | assumption | wp_step
      | _ => exact told.elim
  | _ => exact told.elim
theorem perm_of : ∀ (l m : List Str), l.Nodup → (∀ x ∈ l, x ∈ m) → m.length ≤ l.length → m.Perm l
  | [], m, _, _, len => by
    cases m with
    | nil => exact .refl _
    | cons a r => exact absurd len (by simp)
  | x :: l, m, once, sub, len => by
    obtain ⟨new, once⟩ := List.nodup_cons.mp once
    have hx := sub x (List.mem_cons_self ..)
    have len2 := List.length_erase_of_mem hx
    have some_ := List.length_pos_of_mem hx
    refine (List.perm_cons_erase hx).trans (.cons x (perm_of l (m.erase x) once (fun y hy => ?_) (by rw [len2]; simp at len; omega)))
    exact (List.mem_erase_of_ne (show y ≠ x from fun e => new (e ▸ hy))).mpr (sub y (List.mem_cons_of_mem _ hy))
/-- sorted(..) of a set of texts -/
theorem sort_text {a : Addr} {D : Froz.SD} {l : List Str} {Q : Value → Shared → Prop} (calm : A.handled = none) (there : s.heap.get? a = some (sObj "set" D)) (L : Laid P w D l) (once : l.Nodup) (few : l.length < 64)
    (goal : ∀ s' p out e ys, s'.heap.get? p = some (seqObj "list" out e) → StrsAre out.toList ys → ys.Perm l → sortedS ys = true → s.heap.objs.size ≤ p →
      (∀ b o, s.heap.get? b = some o → s'.heap.get? b = some o) → s'.gens = s.gens → s'.os = s.os → Q (.ref p) s') :
    wpAny (model P w) A (call (.builtin "sorted") [.ref a]) Q E s := by
  have size := L.texts.sz
  have room : D.1.size < scanBound := by rw [size]; exact Nat.lt_of_lt_of_le few (by decide)
  refine Calls.call_function_entry kind_sorted plain_sorted entry_sorted (args_sorted1 _) (wpAny_bind (m := checkCount "sorted" 1 1 _) (wpAny_pure (wpAny_bind ?_)))
  refine collect_set (A := A.in1) calm ⟨_, there, rfl, rfl⟩ L.texts.fit room L.rising L.known fun s1 vs kept grown gens os perm => ?_
  have each : ∀ v ∈ vs, ∃ x t, v = Value.str x t := fun v hv => by
    obtain ⟨e, he, rfl⟩ := List.mem_map.mp (perm.mem_iff.mp hv)
    obtain ⟨⟨k, hk, _⟩, _⟩ := L.texts.el e he
    exact ⟨k, Value.isStrOf_shape hk⟩
  have long : vs.length = l.length := by rw [perm.length_eq, List.length_map, Array.length_toList, size]
  have same : (vs.map strOf).Perm l := perm_of l (vs.map strOf) once (fun k hk => by
    obtain ⟨e, he, q⟩ := (L.texts.mem k).mp hk
    obtain ⟨t, ex⟩ := Value.isStrOf_shape q
    exact List.mem_map.mpr ⟨e.2, perm.mem_iff.mpr (List.mem_map.mpr ⟨e, he, rfl⟩), by rw [ex]; rfl⟩) (by rw [List.length_map, long]; exact Nat.le_refl _)
  have S := strsAre_map vs each
  refine wpAny_bind (wpAny_newList ?_ (by rw [long, sizeLine_eq]; omega))
  have list : (s1.heap.push (seqObj "list" vs.toArray 0)).get? s1.heap.objs.size = some (seqObj "list" vs.toArray 0) := Heap.get?_push_size _ rfl
  refine wpAny_bind (wpAny_holding (wpAny_call_entry slot_list_sort ⟨_, list, rfl⟩ entry_list_sort (list_sort_treeK strKind_oneLt list S.keysOf (fun v u rest e => keyKind_strs (e ▸ S)) (by omega) fun st pm hs => ⟨_, rfl, ?_⟩) (args_list_sort _)))
  obtain ⟨ys, are, py, sorted⟩ := sorted_out_str S pm hs
  obtain ⟨e, stands⟩ := sortedHeap_at (vs := vs) (out := (arrOf st).map (·.2)) list
  refine wpAny_pure ⟨_, rfl, goal _ _ _ e ys stands are (py.trans same) sorted grown (fun b o h => ?_) gens os⟩
  have h1 := kept b o h
  have lt := Heap.lt_size h1
  refine (sortedHeap_old (Nat.ne_of_lt lt) ?_).trans (Heap.get?_push_of_some _ h1)
  rw [size_push']
  exact Nat.lt_succ_of_lt lt
end
/-! ### what a set is to the hand layer -/
/-- the set of the n texts S at a -/
def SetT (Pw : Program × World) (a : Addr) (S : Str → Bool) (n : Nat) : HO := .ext fun h => ∃ D l, h.get? a = some (sObj "set" D) ∧ Laid Pw.1 Pw.2 D l ∧ l.Nodup ∧ (∀ y, y ∈ l ↔ S y = true) ∧ l.length = n
def rSetTx (Pw : Program × World) : List V → Hp → VK → Prop := fun vs H Q => ∃ x : Cs, vs = [.str (tx x)] ∧ x.length < 90 ∧
  ∀ p H' n, H p = none → Same H H' → H' p = some (SetT Pw p (fun y => decide (∃ c ∈ x, y = one c)) n) → n ≤ x.length → Q (.ref p) H'
def rSortT (Pw : Program × World) : List V → Hp → VK → Prop := fun vs H Q => ∃ (a : Addr) (S : Str → Bool) (n : Nat), vs = [.ref a] ∧ H a = some (SetT Pw a S n) ∧ n < 64 ∧
  ∀ ys : List Str, sortedS ys = true → ys.Nodup → (∀ y, y ∈ ys ↔ S y = true) → ys.length = n → New (.lst (ys.map V.str)) H Q
section
variable {X : Cx} {Pw : Program × World}
theorem setT_ok {P : Program} {w : World} {H : Hp} {h : Heap} {a : Addr} {S : Str → Bool} {n : Nat} {D : Froz.SD} {l : List Str} (there : h.get? a = some (sObj "set" D)) (L : Laid Pw.1 Pw.2 D l) (once : l.Nodup) (are : ∀ y, y ∈ l ↔ S y = true) (len : l.length = n) :
    ObjOk P w H h a (SetT Pw a S n) :=
  ⟨⟨D, l, there, L, once, are, len⟩, ⟨_, there⟩, fun _ _ ⟨D, l, e, r⟩ k => ⟨D, l, k _ e, r⟩⟩
theorem kSetTx (e : (X.prog, X.w) = Pw) (calm : X.calm = true) : CallR X (.type "set") (rSetTx Pw) := by
  subst e
  rintro pins s σ H _ us Q I r ⟨x, rfl, short, goal⟩
  obtain ⟨v, rfl, t, rfl⟩ := vals1 r
  have size : (tx x).cps.size = x.length := tx_size x
  refine set_text (I.ok.hd calm) (by rw [size]; exact Nat.lt_of_lt_of_le (Nat.succ_lt_succ short) (by decide)) fun D l h' tk there L S keep => ?_
  have new := I.hok.fresh (a := s.heap.objs.size) (Nat.le_refl _)
  have few : l.length ≤ x.length := S.few
  refine ⟨.ref s.heap.objs.size, _, I.laid (t' := tk) keep (Nat.le_refl _) (setT_ok (Pw := (X.prog, X.w)) there L S.once (fun y => (S.are y).trans decide_eq_true_iff.symm) rfl), rfl, goal _ _ _ new (same_new new) upd_same few⟩
theorem kSortT (e : (X.prog, X.w) = Pw) (calm : X.calm = true) : CallR X (.builtin "sorted") (rSortT Pw) := by
  subst e
  rintro pins s σ H _ us Q I r ⟨a, S, n, rfl, ha, few, goal⟩
  obtain ⟨D, l, there, L, once, are, rfl⟩ := (I.hok a _ ha).1
  rw [Vals.ref1 r]
  refine sort_text (I.ok.hd calm) there L once few fun s' p out c ys stands texts perm sorted high keep gens os => ?_
  have new : H p = none := I.hok.fresh high
  have J : Inv X pins σ (upd H p (.lst (ys.map V.str))) s' := I.call' (ch := []) os (Un.laid keep high new) (I.hok.laid keep high ⟨by rw [List.length_map, perm.length_eq, sizeLine_eq]; omega, out.toList, c, vals_of_strs texts, stands⟩) (by rw [gens]; exact I.bare) (fun _ z => nomatch z)
  exact ⟨.ref p, _, J, rfl, (goal ys sorted (perm.nodup_iff.mpr once) (fun y => perm.mem_iff.trans (are y)) perm.length_eq).at p new⟩
end
end Fo

namespace Fo
open PySem PySem.Spec PyProof.Rows L2
/-! ### zip of any two of lists, tuples, texts -/
/-- what is gone over -/
inductive K3
  | l (a : Addr)
  | t (a : Addr)
  | s (z : Str)
def K3.v : K3 → V
  | .l a => .ref a
  | .t a => .ref a
  | .s z => .str z
def K3.over (K : PySem.W.Frag) (H : Hp) : K3 → List V → Prop
  | .l a, xs => SqL K H a xs
  | .t a, xs => SqT K H a xs
  | .s z, xs => xs = sgs z.cps.toList
/-- its iterator at it, i items taken -/
def K3.at_ (h : Heap) (it : Addr) (i : Nat) : K3 → Prop
  | .l a => h.IsListIter it a i
  | .t a => h.IsTupleIter it a i
  | .s z => ∃ t, h.IsStrIter it (strIterType z) z t i
def K3.low (b : Addr) : K3 → Prop
  | .l a => a < b
  | .t a => a < b
  | .s _ => True
theorem K3.at_obj {k : K3} {h : Heap} {it : Addr} {i : Nat} (x : k.at_ h it i) : ∃ o, h.get? it = some o ∧ ∀ v, o.data ≠ .cell v := by
  cases k with
  | l a =>
    obtain ⟨o, e, _, d⟩ := x
    exact ⟨o, e, fun v q => by rw [d] at q; cases q⟩
  | t a =>
    obtain ⟨o, e, _, d⟩ := x
    exact ⟨o, e, fun v q => by rw [d] at q; cases q⟩
  | s z =>
    obtain ⟨t, o, e, _, d⟩ := x
    exact ⟨o, e, fun v q => by rw [d] at q; cases q⟩
theorem K3.at_keep {k : K3} {h h' : Heap} {it : Addr} {i : Nat} (x : k.at_ h it i) (e : ∀ o, h.get? it = some o → h'.get? it = some o) : k.at_ h' it i := by
  cases k with
  | l a => exact Heap.IsListIter.at x e
  | t a => exact Heap.IsTupleIter.at x e
  | s z =>
    obtain ⟨t, o, eo, r⟩ := x
    exact ⟨t, o, e o eo, r⟩
theorem vals_at : ∀ {xs : List V} {us : List Value} {i : Nat} {u : Value}, Vals xs us → us[i]? = some u → ∃ x, xs[i]? = some x ∧ RelV x u
  | _, _, i, u, .nil, e => by simp at e
  | _, _, 0, u, .cons h _, e => by
    simp at e
    subst e
    exact ⟨_, rfl, h⟩
  | _, _, i + 1, u, .cons _ r, e => by
    obtain ⟨x, ex, rx⟩ := vals_at r (i := i) (by simpa using e)
    exact ⟨x, by simpa using ex, rx⟩
/-- what is drawn of it -/
structure Drawn (P : Program) (w : World) (A : Around) (k : K3) (h : Heap) (it : Addr) (i b : Nat) (xs : List V) (fp : List Addr) (Pv : Nat → Value → Prop) (St : Nat → Heap → Prop) : Prop where
  draws : Draws P w A it fp xs.length Pv St
  now : St i h
  items : ∀ j v, Pv j v → ∃ x, xs[j]? = some x ∧ RelV x v
  later : ∀ j h', St j h' → k.at_ h' it j
  mine : it ∈ fp
  low : ∀ c ∈ fp, c = it ∨ c < b
theorem K3.drawn {X : Cx} {pins : List (Addr × Obj)} {σ : L2.St} {H : Hp} {s : Shared} {k : K3} {it b : Addr} {i : Nat} {xs : List V} (A : Around) (calm : A.handled = none) (I : Inv X pins σ H s) (o : k.over X.K H xs) (x : k.at_ s.heap it i) (lo : k.low b) (hi : b ≤ it) :
    ∃ fp Pv St, Drawn X.prog X.w A k s.heap it i b xs fp Pv St := by
  cases k with
  | l a =>
    obtain ⟨us, r, here, _⟩ := I.list o
    have lo : a < b := lo
    have len : us.toArray.size = xs.length := by rw [List.size_toArray, r.length]
    refine ⟨[it, a], fun j v => us.toArray[j]? = some v, fun j h => h.IsListIter it a j ∧ h.IsList a us.toArray, ⟨by rw [← len]; exact Draws.list calm it a (Nat.ne_of_lt (Nat.lt_of_lt_of_le lo hi)) us.toArray, ⟨x, here.isList⟩, fun j v h => ?_, fun j h' st => st.1, by simp, fun c hc => ?_⟩⟩
    · exact vals_at r (by simpa using h)
    · rcases List.mem_cons.mp hc with h | h
      · exact .inl h
      · rw [List.mem_singleton.mp h]
        exact .inr lo
  | t a =>
    obtain ⟨us, r, here, _⟩ := I.tuple o
    have lo : a < b := lo
    have len : us.toArray.size = xs.length := by rw [List.size_toArray, r.length]
    refine ⟨[it, a], fun j v => us.toArray[j]? = some v, fun j h => h.IsTupleIter it a j ∧ h.IsTuple a us.toArray, ⟨by rw [← len]; exact Draws.tuple calm it a (Nat.ne_of_lt (Nat.lt_of_lt_of_le lo hi)) us.toArray, ⟨x, here⟩, fun j v h => ?_, fun j h' st => st.1, by simp, fun c hc => ?_⟩⟩
    · exact vals_at r (by simpa using h)
    · rcases List.mem_cons.mp hc with h | h
      · exact .inl h
      · rw [List.mem_singleton.mp h]
        exact .inr lo
  | s z =>
    obtain ⟨t, x⟩ := x
    have o : xs = sgs z.cps.toList := o
    subst o
    have len : z.cps.size = (sgs z.cps.toList).length := by unfold sgs; simp
    refine ⟨_, _, _, ⟨by rw [← len]; exact Draws.text calm it z t, x, fun j v h => ?_, fun j h' st => ⟨t, st⟩, by simp, fun c hc => .inl (by simpa using hc)⟩⟩
    obtain ⟨c, u, hc, rfl⟩ := h
    refine ⟨.str ⟨#[c]⟩, ?_, ⟨u, rfl⟩⟩
    unfold sgs
    rw [List.getElem?_map, Array.getElem?_toList, hc]
    rfl
/-- the five cells of a zip, from b on -/
structure Zs (h : Heap) (b : Addr) (k m : K3) (i : Nat) : Prop where
  zip : IsZip h (b + 4) (b + 2) (b + 3) .none
  its : IsTupOf2 h (b + 2) (.ref b) (.ref (b + 1))
  out : ∃ x y, IsTupOf2 h (b + 3) x y
  one : k.at_ h b i
  two : m.at_ h (b + 1) i
def cells (b : Addr) : List Addr := [b + 4, b + 2, b + 3, b, b + 1]
theorem in_cells {b c : Nat} : c ∈ cells b ↔ b ≤ c ∧ c ≤ b + 4 := by
  unfold cells
  simp only [List.mem_cons, List.not_mem_nil, or_false]
  omega
theorem sep_of {P : Program} {w : World} {A : Around} {k m : K3} {h : Heap} {b i : Nat} {xs ys : List V} {fp1 fp2 : List Addr} {P1 P2 : Nat → Value → Prop} {St1 St2 : Nat → Heap → Prop}
    (d1 : Drawn P w A k h b i b xs fp1 P1 St1) (d2 : Drawn P w A m h (b + 1) i b ys fp2 P2 St2) : ZipSep2 (b + 4) (b + 2) (b + 3) b (b + 1) fp1 fp2 := by
  have no1 : ∀ c : Nat, b < c → c ∉ fp1 := fun c hc hm => by
    rcases d1.low c hm with e | e
    · exact absurd e (Nat.ne_of_gt hc)
    · exact absurd (Nat.lt_trans hc e) (Nat.lt_irrefl _)
  have no2 : ∀ c : Nat, b ≤ c → c ≠ b + 1 → c ∉ fp2 := fun c hc hn hm => by
    rcases d2.low c hm with e | e
    · exact hn e
    · exact absurd (Nat.lt_of_le_of_lt hc e) (Nat.lt_irrefl _)
  have n : ∀ x y : Nat, x ≠ y → b + x ≠ b + y := fun x y h e => h (Nat.add_left_cancel e)
  exact ⟨n 2 4 (by decide), n 3 4 (by decide), n 2 3 (by decide), n 2 0 (by decide), d1.mine, no1 _ (Nat.lt_add_of_pos_right (by decide)), no1 _ (Nat.lt_add_of_pos_right (by decide)),
    n 2 1 (by decide), d2.mine, no2 _ (Nat.le_add_right _ _) (n 4 1 (by decide)), no2 _ (Nat.le_add_right _ _) (n 3 1 (by decide)), no2 _ (Nat.le_refl _) (n 0 1 (by decide)), no1 _ (Nat.lt_succ_self _)⟩
/-- both as they stand at each turn, the items in new pairs -/
def ItzA (K : PySem.W.Frag) (k m : K3) : It :=
  ⟨fun i H => ∃ (xs ys : List V) (x y : V), k.over K H xs ∧ m.over K H ys ∧ xs[i]? = some x ∧ ys[i]? = some y,
    fun i H v H' => ∃ (T : Addr) (x y : V), v = .ref T ∧ H T = none ∧ H' = upd H T (.tup [x, y]) ∧ (∀ xs, k.over K H xs → xs[i]? = some x) ∧ ∀ ys, m.over K H ys → ys[i]? = some y,
    fun i H => ∃ xs ys : List V, k.over K H xs ∧ m.over K H ys ∧ ((xs.length = i ∧ i ≤ ys.length) ∨ (ys.length = i ∧ i ≤ xs.length))⟩
theorem K3.same {X : Cx} {pins : List (Addr × Obj)} {σ : L2.St} {H : Hp} {s : Shared} {k : K3} {xs ys : List V} (I : Inv X pins σ H s) (a : k.over X.K H xs) (b : k.over X.K H ys) : xs = ys := by
  cases k with
  | l _ => exact I.list_inj a b
  | t _ => exact I.tuple_inj a b
  | s _ => exact Eq.trans a (Eq.symm b)
theorem turn_any {P : Program} {w : World} {K : PySem.W.Frag} {elts : List Expr} {kk : Nat} {tpos : Pos} {b : Addr} {k m : K3} (lk : k.low b) (lm : m.low b) :
    Turn P w K (.Tuple elts kk tpos) (ItzA K k m) (cells b) (b + 4) (fun i h => Zs h b k m i) where
  mem := by simp [cells]
  obj := fun i h z c hc => by
    unfold cells at hc
    rcases List.mem_cons.mp hc with rfl | hc
    · exact ⟨_, z.zip, fun v q => nomatch q⟩
    rcases List.mem_cons.mp hc with rfl | hc
    · exact ⟨_, z.its, fun v q => nomatch q⟩
    rcases List.mem_cons.mp hc with rfl | hc
    · obtain ⟨x, y, e⟩ := z.out
      exact ⟨_, e, fun v q => nomatch q⟩
    rcases List.mem_cons.mp hc with rfl | hc
    · exact K3.at_obj z.one
    · rw [List.mem_singleton.mp hc]
      exact K3.at_obj z.two
  keep := fun i h h' z keep => by
    obtain ⟨x, y, out⟩ := z.out
    have c := fun a (ha : a ∈ cells b) o => keep a ha o
    exact ⟨c _ (by simp [cells]) _ z.zip, c _ (by simp [cells]) _ z.its, ⟨x, y, c _ (by simp [cells]) _ out⟩, K3.at_keep z.one (c _ (by simp [cells])), K3.at_keep z.two (c _ (by simp [cells]))⟩
  item := by
    intro X eP ew eK calm i pins s σ H E I free z go
    subst eP ew eK
    obtain ⟨xs, ys, x, y, ox, oy, hx, hy⟩ := go
    obtain ⟨x0, y0, out⟩ := z.out
    have hh : X.A.in1.handled = none := by simpa using I.ok.hd calm
    obtain ⟨f1, P1, S1, d1⟩ := K3.drawn X.A.in1 hh I ox z.one lk (Nat.le_refl _)
    obtain ⟨f2, P2, S2, d2⟩ := K3.drawn X.A.in1 hh I oy z.two lm (Nat.le_succ _)
    have zl := Heap.lt_size z.zip
    refine wpAny_pyNext_zipD2_item (sep_of d1 d2) d1.draws d2.draws z.zip z.its out d1.now d2.now (List.getElem?_eq_some_iff.mp hx).1 (List.getElem?_eq_some_iff.mp hy).1 fun u v h' tk pu pv zip' out' s1 s2 new size keep => ?_
    refine ⟨_, rfl, wpAny_letOwnedTupleGo_zip (s := { s with heap := h', toks := tk }) zip' fun h'' zip'' same => ?_⟩
    obtain ⟨x', hx', rx⟩ := d1.items i u pu
    obtain ⟨y', hy', ry⟩ := d2.items i v pv
    rw [hx] at hx'
    rw [hy] at hy'
    cases hx'
    cases hy'
    have nz : ∀ c : Nat, c ≠ b + 4 → ∀ o, h'.get? c = some o → h''.get? c = some o := fun c hc o e => (same.2 c hc).trans e
    have n : ∀ x y : Nat, x ≠ y → b + x ≠ b + y := fun x y h e => h (Nat.add_left_cancel e)
    have made : ObjOk X.prog X.w (upd H s.heap.objs.size (.tup [x, y])) h'' s.heap.objs.size (.tup [x, y]) :=
      ⟨szS, [u, v], .cons rx (.cons ry .nil), ⟨_, nz _ (Nat.ne_of_gt zl) _ new, rfl, _, rfl⟩⟩
    have fresh := I.hok.fresh (a := s.heap.objs.size) (Nat.le_refl _)
    have J : Inv X pins σ (upd H s.heap.objs.size (.tup [x, y])) { s with heap := h'', toks := tk } :=
      I.turnedNew (ch := cells b) (fun c o hc e => nz c (fun q => hc (by rw [q]; simp [cells])) o (keep c o (fun q => hc (by rw [q]; simp [cells])) (fun q => hc (by rw [q]; simp [cells])) (fun q => hc (by rw [q]; simp [cells])) (fun q => hc (by rw [q]; simp [cells])) e)) free (Nat.le_refl _) made
    refine ⟨.ref s.heap.objs.size, _, J, rfl, ⟨_, x, y, rfl, fresh, rfl, fun l hl => by rw [K3.same I hl ox]; exact hx, fun l hl => by rw [K3.same I hl oy]; exact hy⟩,
      ⟨zip'', nz _ (n 2 4 (by decide)) _ (keep _ _ (n 2 4 (by decide)) (n 2 3 (by decide)) (n 2 0 (by decide)) (n 2 1 (by decide)) z.its), ⟨u, v, nz _ (n 3 4 (by decide)) _ out'⟩, K3.at_keep (d1.later _ _ s1) (nz _ (n 0 4 (by decide))), K3.at_keep (d2.later _ _ s2) (nz _ (n 1 4 (by decide)))⟩, fun c hc => ?_⟩
    have lt : c < s.heap.objs.size := by
      have := (in_cells.mp hc).2
      exact Nat.lt_of_le_of_lt this zl
    rw [upd_ne (Nat.ne_of_lt lt)]
    exact (free c hc).1
  done := by
    intro X eP ew eK calm i pins s σ H E I free z stop
    subst eP ew eK
    obtain ⟨xs, ys, ox, oy, ends⟩ := stop
    obtain ⟨x0, y0, out⟩ := z.out
    have hh : X.A.in1.handled = none := by simpa using I.ok.hd calm
    obtain ⟨f1, P1, S1, d1⟩ := K3.drawn X.A.in1 hh I ox z.one lk (Nat.le_refl _)
    obtain ⟨f2, P2, S2, d2⟩ := K3.drawn X.A.in1 hh I oy z.two lm (Nat.le_succ _)
    have e1 : i ≤ xs.length ∧ i ≤ ys.length ∧ (i = xs.length ∨ i = ys.length) := by omega
    refine wpAny_pyNext_zipD2_end (sep_of d1 d2) d1.draws d2.draws z.zip z.its out d1.now d2.now e1.1 e1.2.1 e1.2.2 fun h' tk keep => ⟨rfl, ?_⟩
    exact I.turnedL (ch := cells b) (fun c o hc e => keep c o (fun q => hc (by rw [q]; simp [cells])) (fun q => hc (by rw [q]; simp [cells])) (fun q => hc (by rw [q]; simp [cells])) (fun q => hc (by rw [q]; simp [cells])) e) free
  self := fun A i s Q E z h => wpAny_pyIter_zip z.zip h
/-- how going over it begins -/
theorem K3.begins {X : Cx} {pins : List (Addr × Obj)} {σ : L2.St} {H : Hp} {s : Shared} {k : K3} {xs : List V} {u : Value} (I : Inv X pins σ H s) (o : k.over X.K H xs) (r : RelV k.v u) :
    ∃ (ob : Obj) (Hq : Heap → Prop), Begins u ob Hq ∧ Hq s.heap ∧ k.low s.heap.objs.size ∧ ∀ (h : Heap) (it : Addr), h.get? it = some ob → k.at_ h it 0 := by
  cases k with
  | l a =>
    cases r
    obtain ⟨us, _, here, _⟩ := I.list o
    exact ⟨_, _, begins_list a us.toArray, here.isList, here.lt, fun h it e => ⟨_, e, rfl, rfl⟩⟩
  | t a =>
    cases r
    obtain ⟨us, _, here, _⟩ := I.tuple o
    obtain ⟨ob, e, _⟩ := id here
    exact ⟨_, _, begins_tuple a us.toArray, here, Heap.lt_size e, fun h it e => ⟨_, e, rfl, rfl⟩⟩
  | s z =>
    obtain ⟨t, rfl⟩ := r
    exact ⟨_, _, begins_text z t, trivial, trivial, fun h it e => ⟨t, _, e, rfl, rfl⟩⟩
def iZip2 (K : PySem.W.Frag) (ta : TA) : TI := fun σ H R => ta σ H fun vs H1 => ∃ (k m : K3) (xs ys : List V), vs = [k.v, m.v] ∧ k.over K H1 xs ∧ m.over K H1 ys ∧ R (ItzA K k m) H1
theorem pi_zip2 {X : Cx} (K : PySem.W.Frag) (eK : X.K = K) {e e2 : Expr} {ta : TA} {p pos tpos : Pos} {elts : List Expr} {kk : Nat} (hg : Gl X "zip") (hm : X.mg "zip" = none) (ha : PA X [e, e2] ta)
    (hs : starEach [e, e2] X.env = (false, eval e X.env) :: starEach [e2] X.env := by rfl) (hpl : (backTo pos (starEach [e2] X.env)).any (·.1) = false := by rfl) :
    PI X (.Tuple elts kk tpos) (.Call (.Name "zip" p) [e, e2] [] pos) (iZip2 K ta) := by
  subst eK
  refine ⟨fun pins s σ H R I asked => Call_ (ld_blt I hg hm boot_zip (callWith_type1 (thn (ha.run pos pins s σ H _ I asked) fun us s1 told => ?_) hs hpl))⟩
  obtain ⟨vs, H1, J, rs, k, m, xs, ys, rfl, ok, om, goal⟩ := told
  obtain ⟨u, v, rfl, ru, rv⟩ := Vals.two rs
  obtain ⟨ob1, q1, b1, here1, low1, at1⟩ := K3.begins J ok ru
  obtain ⟨ob2, q2, b2, here2, low2, at2⟩ := K3.begins J om rv
  refine zip_begins2 b1 b2 here1 here2 fun h' z its out o1 o2 size keep => wpAny_pyIter_zip z ?_
  refine ⟨s1.heap.objs.size + 4, cells s1.heap.objs.size, _, _, H1, rfl, J.kept (t' := s1.toks) keep, turn_any low1 low2, ⟨z, its, ⟨_, _, out⟩, at1 _ _ o1, at2 _ _ o2⟩, fun c hc => ?_, goal⟩
  have le := (in_cells.mp hc).1
  exact J.fpOk le (J.hok.fresh le)
theorem walk_zip2 {K : PySem.W.Frag} {k m : K3} {xs ys : List V} {n : Nat} (hn : n = min xs.length ys.length) :
    Walk (ItzA K k m) n (fun H => k.over K H xs ∧ m.over K H ys) (YPairN (fun i => xs[i]?) (fun i => ys[i]?)) := by
  refine walkPair ⟨fun i _ hi st => ?_, fun _ st => ⟨xs, ys, st.1, st.2, by omega⟩, fun i H v H' _ st y => ?_⟩
  · exact ⟨xs, ys, _, _, st.1, st.2, List.getElem?_eq_getElem (show i < xs.length by omega), List.getElem?_eq_getElem (show i < ys.length by omega)⟩
  · obtain ⟨T, x, y, e1, e2, e3, q1, q2⟩ := y
    exact ⟨T, x, y, e1, e2, e3, q1 xs st.1, q2 ys st.2⟩
end Fo

namespace Fo
open PySem PySem.Spec PyProof.Rows L2
/-! ### enumerate of a list, a tuple, a text -/
abbrev enumObj (it : Addr) : Obj := { cls := .type "enumerate", data := .fields #[.none, .bool false, .ref it, rawInt 0, .none, .none] }
theorem enum_made {v : Value} {ob : Obj} {Hq : Heap → Prop} (B : Begins v ob Hq) :
    Meets (Builtin.«enumerate.__new__» ⟨[.type "enumerate", v], []⟩) (fun _ R s => Hq s.heap ∧ R (.ok (.ret (.ref (s.heap.push ob).objs.size))) { s with heap := (s.heap.push ob).push (enumObj s.heap.objs.size) }) := by
  refine Meets.of_wp fun prog w A R s told => ?_
  rcases s with ⟨heap, gens, drawn, toks, os⟩
  rcases told with ⟨here, goal⟩
  have below := sub_enumerate
  have first : ∀ {A' : Around} {E Q : Value → Shared → Prop}, Q (.ref heap.objs.size) ⟨heap.push ob, gens, drawn, toks, os⟩ → wpAny (model prog w) A' (pyIter v) Q E ⟨heap, gens, drawn, toks, os⟩ := fun q => B.iter prog w _ _ ⟨heap, gens, drawn, toks, os⟩ _ here q
  wp_walk
  refine wpAny_stack_any fun st => wpAny_pure ?_
  split
  · rename_i c _ _ _ _ _
    cases (c == Value.type "enumerate") <;> (wp_walk using first; exact ⟨_, rfl, goal⟩)
  · wp_walk using first
    exact ⟨_, rfl, goal⟩
section
variable {P : Program} {w : World} {A : Around} {E : Value → Shared → Prop} {s : Shared}
theorem enum_call {v : Value} {ob : Obj} {Hq : Heap → Prop} {Q : Value → Shared → Prop} (B : Begins v ob Hq) (here : Hq s.heap)
    (goal : ∀ h', IsEnum h' (s.heap.objs.size + 1) s.heap.objs.size 0 .none → h'.get? s.heap.objs.size = some ob → (∀ b o, s.heap.get? b = some o → h'.get? b = some o) → Q (.ref (s.heap.objs.size + 1)) { s with heap := h' }) :
    wpAny (model P w) A (call (.type "enumerate") [v]) Q E s := by
  have next : (s.heap.push ob).objs.size = s.heap.objs.size + 1 := Heap.size_push ..
  refine callType_new F.called_enumerate (by decide) (F.typeCall_enumerate_1 _) (F.newCall_enumerate_1 _) (fun obj => F.args_object_init_2 obj _) F.entry_enumerate_new (enum_made B) ⟨here, ?_⟩
  have there : ((s.heap.push ob).push (enumObj s.heap.objs.size)).get? (s.heap.push ob).objs.size = some (enumObj s.heap.objs.size) := Heap.get?_push_size _ rfl
  rw [next] at there
  show _ ∧ _
  rw [next]
  exact ⟨⟨_, there, rfl⟩, goal _ there (Heap.get?_push_of_some _ (Heap.get?_push_size _ B.free)) fun b o e => Heap.get?_push_of_some _ (Heap.get?_push_of_some _ e)⟩
end
/-- as it stands at each turn, the place and the item in a new pair -/
def IteA (K : PySem.W.Frag) (k : K3) : It :=
  ⟨fun i H => ∃ (xs : List V) (x : V), k.over K H xs ∧ xs[i]? = some x,
    fun i H v H' => ∃ (T : Addr) (x : V), v = .ref T ∧ H T = none ∧ H' = upd H T (.tup [.int (i : Nat), x]) ∧ ∀ xs, k.over K H xs → xs[i]? = some x,
    fun i H => ∃ xs : List V, k.over K H xs ∧ xs.length = i⟩
theorem turn_each {P : Program} {w : World} {K : PySem.W.Frag} {elts : List Expr} {kk : Nat} {tpos : Pos} {b : Nat} {k : K3} (lk : k.low b) :
    Turn P w K (.Tuple elts kk tpos) (IteA K k) [b + 1, b] (b + 1) (fun i h => (∃ old, IsEnum h (b + 1) b ((i : Nat) : Int) old) ∧ k.at_ h b i) where
  mem := by simp
  obj := fun i h z c hc => by
    obtain ⟨⟨old, e⟩, x⟩ := z
    rcases List.mem_cons.mp hc with rfl | hc
    · exact ⟨_, e, fun v q => nomatch q⟩
    · rw [List.mem_singleton.mp hc]
      exact K3.at_obj x
  keep := fun i h h' z keep => by
    obtain ⟨⟨old, e⟩, x⟩ := z
    exact ⟨⟨old, keep _ (by simp) _ e⟩, K3.at_keep x (keep _ (by simp))⟩
  item := by
    intro X eP ew eK calm i pins s σ H E I free z go
    subst eP ew eK
    obtain ⟨⟨old, en⟩, at1⟩ := z
    obtain ⟨xs, x, ox, hx⟩ := go
    have hh : X.A.in1.handled = none := by simpa using I.ok.hd calm
    obtain ⟨f1, P1, S1, d1⟩ := K3.drawn X.A.in1 hh I ox at1 lk (Nat.le_refl _)
    have lt1 := Heap.lt_size en
    have notIn : b + 1 ∉ f1 := fun hm => by
      rcases d1.low _ hm with e | e
      · exact absurd e (Nat.succ_ne_self b)
      · exact absurd (Nat.lt_trans (Nat.lt_succ_self b) e) (Nat.lt_irrefl _)
    refine wpAny_pyNext_enum_itemD d1.draws en d1.now (List.getElem?_eq_some_iff.mp hx).1 (Nat.succ_ne_self b) notIn fun u h' tk pu out s1 new size keep => ?_
    refine ⟨_, rfl, wpAny_letOwnedTupleGo_enum (s := { s with heap := h', toks := tk + 1 }) out fun h'' en' same => ?_⟩
    obtain ⟨x', hx', rx⟩ := d1.items i u pu
    rw [hx] at hx'
    cases hx'
    have nz : ∀ c : Nat, c ≠ b + 1 → ∀ o, h'.get? c = some o → h''.get? c = some o := fun c hc o e => (same.2 c hc).trans e
    have made : ObjOk X.prog X.w (upd H s.heap.objs.size (.tup [.int (i : Nat), x])) h'' s.heap.objs.size (.tup [.int (i : Nat), x]) :=
      ⟨szS, [.int i tk, u], .cons ⟨_, rfl⟩ (.cons rx .nil), ⟨_, nz _ (Nat.ne_of_gt lt1) _ new, rfl, _, rfl⟩⟩
    have fresh := I.hok.fresh (a := s.heap.objs.size) (Nat.le_refl _)
    have J : Inv X pins σ (upd H s.heap.objs.size (.tup [.int (i : Nat), x])) { s with heap := h'', toks := tk + 1 } :=
      I.turnedNew (ch := [b + 1, b]) (fun c o hc e => nz c (fun q => hc (by rw [q]; simp)) o (keep c o (fun q => hc (by rw [q]; simp)) (fun q => hc (by rw [q]; simp)) e)) free (Nat.le_refl _) made
    have place : (((i + 1 : Nat) : Nat) : Int) = (i : Int) + 1 := by omega
    refine ⟨.ref s.heap.objs.size, _, J, rfl, ⟨_, x, rfl, fresh, rfl, fun l hl => by rw [K3.same I hl ox]; exact hx⟩, ⟨⟨_, by rw [place]; exact en'⟩, K3.at_keep (d1.later _ _ s1) (nz _ (Nat.ne_of_lt (Nat.lt_succ_self b)))⟩, fun c hc => ?_⟩
    have lt : c < s.heap.objs.size := by
      rcases List.mem_cons.mp hc with rfl | hc
      · exact lt1
      · rw [List.mem_singleton.mp hc]
        exact Nat.lt_trans (Nat.lt_succ_self b) lt1
    rw [upd_ne (Nat.ne_of_lt lt)]
    exact (free c hc).1
  done := by
    intro X eP ew eK calm i pins s σ H E I free z stop
    subst eP ew eK
    obtain ⟨⟨old, en⟩, at1⟩ := z
    obtain ⟨xs, ox, rfl⟩ := stop
    have hh : X.A.in1.handled = none := by simpa using I.ok.hd calm
    obtain ⟨f1, P1, S1, d1⟩ := K3.drawn X.A.in1 hh I ox at1 lk (Nat.le_refl _)
    refine wpAny_pyNext_enum_endD d1.draws en d1.now fun h' keep => ⟨rfl, ?_⟩
    exact I.turnedL (t' := s.toks) (ch := [b + 1, b]) (fun c o hc e => keep c o (fun q => hc (by rw [q]; simp)) e) free
  self := fun A i s Q E z h => wpAny_pyIter_enum z.1.choose_spec h
def iEnumA (K : PySem.W.Frag) (ta : TA) : TI := fun σ H R => ta σ H fun vs H1 => ∃ (k : K3) (xs : List V), vs = [k.v] ∧ k.over K H1 xs ∧ R (IteA K k) H1
theorem pi_enumA {X : Cx} (K : PySem.W.Frag) (eK : X.K = K) {e : Expr} {ta : TA} {p pos tpos : Pos} {elts : List Expr} {kk : Nat} (hg : Gl X "enumerate") (hm : X.mg "enumerate" = none) (ha : PA X [e] ta) (hs : starEach [e] X.env = [(false, eval e X.env)] := by rfl) :
    PI X (.Tuple elts kk tpos) (.Call (.Name "enumerate" p) [e] [] pos) (iEnumA K ta) := by
  subst eK
  refine ⟨fun pins s σ H R I asked => Call_ (ld_blt I hg hm boot_enumerate (callWith_type1 (thn (ha.run pos pins s σ H _ I asked) fun us s1 told => ?_) hs rfl))⟩
  obtain ⟨vs, H1, J, rs, k, xs, rfl, ok, goal⟩ := told
  obtain ⟨u, rfl, ru⟩ := Vals.one rs
  obtain ⟨ob, q1, b1, here, low, at1⟩ := K3.begins J ok ru
  refine enum_call b1 here fun h' en o1 keep => wpAny_pyIter_enum en ?_
  refine ⟨s1.heap.objs.size + 1, [s1.heap.objs.size + 1, s1.heap.objs.size], _, _, H1, rfl, J.kept (t' := s1.toks) keep, turn_each low, ⟨⟨_, en⟩, at1 _ _ o1⟩, fun c hc => ?_, goal⟩
  have le : s1.heap.objs.size ≤ c := by
    rcases List.mem_cons.mp hc with rfl | hc
    · exact Nat.le_succ _
    · rw [List.mem_singleton.mp hc]
      exact Nat.le_refl _
  exact J.fpOk le (J.hok.fresh le)
theorem walk_each {K : PySem.W.Frag} {k : K3} {xs : List V} :
    Walk (IteA K k) xs.length (fun H => k.over K H xs) (YPairN (fun i => some (.int (i : Nat))) (fun i => xs[i]?)) := by
  refine walkPair ⟨fun i _ hi st => ⟨xs, _, st, List.getElem?_eq_getElem hi⟩, fun _ st => ⟨xs, st, rfl⟩, fun i H v H' _ st y => ?_⟩
  obtain ⟨T, x, e1, e2, e3, q⟩ := y
  exact ⟨T, .int (i : Nat), x, e1, e2, e3, rfl, q xs st⟩
end Fo

namespace Fo
open PySem PySem.Spec PyProof.Rows L2
/-! ### lots -/
structure LSt where
  ways : List (Option Nat)
  good : Bool
structure Lot where
  signs : Cs
  states : List LSt
instance : Inhabited LSt := ⟨⟨[], false⟩⟩
def dN : Option Nat → PyData
  | none => .none
  | some n => .int (n : Int)
def dLs (s : LSt) : PyData := .tuple [.tuple (s.ways.map dN), .bool s.good]
def dLot (l : Lot) : PyData := .tuple [.str (tx l.signs), .tuple (l.states.map dLs)]
structure Lot.Ok (l : Lot) : Prop where
  ne : 0 < l.states.length
  ways : ∀ s ∈ l.states, s.ways.length = l.signs.length
  there : ∀ s ∈ l.states, ∀ n, some n ∈ s.ways → n < l.states.length
  once : l.signs.Nodup
def Lot.sta (l : Lot) (s : Nat) : LSt := l.states.getD s default
def Lot.step (l : Lot) : Option Nat → Nat → Option Nat
  | none, _ => none
  | some s, c => if c ∈ l.signs then (l.sta s).ways.getD (l.signs.idxOf c) none else none
def Lot.on (l : Lot) (s : Option Nat) (t : Cs) : Option Nat := t.foldl l.step s
def Lot.word (l : Lot) (t : Cs) : Bool := match l.on (some 0) t with
  | none => false
  | some s => (l.sta s).good
theorem Lot.on_none (l : Lot) : ∀ t : Cs, l.on none t = none
  | [] => rfl
  | c :: t => Lot.on_none l t
theorem Lot.on_snoc (l : Lot) (s : Option Nat) (t : Cs) (c : Nat) : l.on s (t ++ [c]) = l.step (l.on s t) c := by
  unfold Lot.on
  rw [List.foldl_append]
  rfl
theorem Lot.on_split (l : Lot) (s : Option Nat) (t : Cs) (i : Nat) : l.on s t = l.on (l.on s (t.take i)) (t.drop i) := by
  unfold Lot.on
  rw [← List.foldl_append, List.take_append_drop]
theorem Lot.on_stop {l : Lot} {s : Option Nat} {t : Cs} {i : Nat} (h : l.on s (t.take i) = none) : l.on s t = none := by
  rw [Lot.on_split l s t i, h, Lot.on_none]
theorem Lot.sta_at {l : Lot} {s : Nat} (h : s < l.states.length) : l.states[s]? = some (l.sta s) := by
  unfold Lot.sta
  rw [List.getD_eq_getElem?_getD, List.getElem?_eq_getElem h]
  rfl
theorem Lot.sta_mem {l : Lot} {s : Nat} (h : s < l.states.length) : l.sta s ∈ l.states := List.mem_of_getElem? (Lot.sta_at h)
theorem Lot.way_at {l : Lot} (o : l.Ok) {s c : Nat} (hs : s < l.states.length) (hc : c ∈ l.signs) : (l.sta s).ways[l.signs.idxOf c]? = some (l.step (some s) c) := by
  have hi := List.idxOf_lt_length_iff.mpr hc
  have hl := o.ways _ (Lot.sta_mem hs)
  show _ = some (if c ∈ l.signs then (l.sta s).ways.getD (l.signs.idxOf c) none else none)
  rw [if_pos hc, List.getD_eq_getElem?_getD, List.getElem?_eq_getElem (by omega)]
  rfl
theorem Lot.step_lt {l : Lot} (o : l.Ok) {s c n : Nat} (hs : s < l.states.length) (h : l.step (some s) c = some n) : n < l.states.length := by
  have hc : c ∈ l.signs := by
    rcases Classical.em (c ∈ l.signs) with q | q
    · exact q
    · have e : l.step (some s) c = none := if_neg q
      rw [e] at h
      cases h
  have w := Lot.way_at o hs hc
  rw [h] at w
  exact o.there _ (Lot.sta_mem hs) n (List.mem_of_getElem? w)
theorem Lot.on_lt {l : Lot} (o : l.Ok) : ∀ (t : Cs) (s n : Nat), s < l.states.length → l.on (some s) t = some n → n < l.states.length
  | [], s, n, hs, h => by
    cases h
    exact hs
  | c :: t, s, n, hs, h => by
    have h : l.on (l.step (some s) c) t = some n := h
    cases e : l.step (some s) c with
    | none =>
      rw [e, Lot.on_none] at h
      cases h
    | some m =>
      rw [e] at h
      exact Lot.on_lt o t m n (Lot.step_lt o hs e) h
/-! ### how many words -/
def bump (xs : List Int) (k : Nat) (v : Int) : List Int := xs.set k (xs.getD k 0 + v)
def bumps (v : Int) : List (Option Nat) → List Int → List Int
  | [], a => a
  | none :: ws, a => bumps v ws a
  | some k :: ws, a => bumps v ws (bump a k v)
def sweep : List Int → List LSt → List Int → List Int
  | c :: cs, s :: ss, a => sweep cs ss (bumps c s.ways a)
  | _, _, a => a
def Lot.more (l : Lot) (cs : List Int) : List Int := sweep cs l.states (List.replicate l.states.length 0)
def Lot.cnt (l : Lot) : Nat → List Int
  | 0 => 1 :: List.replicate (l.states.length - 1) 0
  | n + 1 => l.more (l.cnt n)
def total : List Int → List LSt → List Int
  | c :: cs, s :: ss => if s.good then c :: total cs ss else total cs ss
  | _, _ => []
def Lot.many (l : Lot) (n : Nat) : Int := (total (l.cnt n) l.states).sum
theorem bump_len (xs : List Int) (k : Nat) (v : Int) : (bump xs k v).length = xs.length := List.length_set
theorem bumps_len (v : Int) : ∀ (ws : List (Option Nat)) (a : List Int), (bumps v ws a).length = a.length
  | [], _ => rfl
  | none :: ws, a => bumps_len v ws a
  | some k :: ws, a => (bumps_len v ws _).trans (bump_len a k v)
theorem sweep_len : ∀ (cs : List Int) (ss : List LSt) (a : List Int), (sweep cs ss a).length = a.length
  | [], _, _ => rfl
  | _ :: _, [], _ => rfl
  | c :: cs, s :: ss, a => (sweep_len cs ss _).trans (bumps_len c s.ways a)
theorem Lot.cnt_len {l : Lot} (o : l.Ok) : ∀ n, (l.cnt n).length = l.states.length
  | 0 => by
    show (1 :: List.replicate (l.states.length - 1) 0 : List Int).length = _
    have := o.ne
    rw [List.length_cons, List.length_replicate]
    omega
  | n + 1 => (sweep_len _ _ _).trans List.length_replicate
theorem bump_get {xs : List Int} {k : Nat} (v : Int) (j : Nat) (h : k < xs.length) : (bump xs k v).getD j 0 = xs.getD j 0 + if k = j then v else 0 := by
  unfold bump
  rw [List.getD_eq_getElem?_getD, List.getElem?_set]
  by_cases e : k = j
  · subst e
    rw [if_pos rfl, if_pos h, if_pos rfl]
    rfl
  · rw [if_neg e, if_neg e, List.getD_eq_getElem?_getD, Int.add_zero]
theorem bumps_get (v : Int) (j : Nat) : ∀ (ws : List (Option Nat)) (a : List Int), (∀ k, some k ∈ ws → k < a.length) → (bumps v ws a).getD j 0 = a.getD j 0 + v * (ws.count (some j) : Nat)
  | [], a, _ => by
    show a.getD j 0 = a.getD j 0 + v * ((0 : Nat) : Int)
    simp
  | none :: ws, a, h => by
    have e : (none :: ws).count (some j) = ws.count (some j) := by rw [List.count_cons]; simp
    rw [e]
    exact bumps_get v j ws a fun k hk => h k (List.mem_cons_of_mem _ hk)
  | some k :: ws, a, h => by
    have hk := h k (List.mem_cons_self ..)
    have ih := bumps_get v j ws (bump a k v) fun m hm => by rw [bump_len]; exact h m (List.mem_cons_of_mem _ hm)
    show (bumps v ws (bump a k v)).getD j 0 = _
    rw [ih, bump_get v j hk, List.count_cons]
    by_cases e : k = j
    · subst e
      simp [Int.mul_add]
      omega
    · have ne : (some k == some j) = false := by simpa using e
      rw [if_neg e, ne]
      simp
/-- what comes to j, by the counts c from the states from k on -/
def flow (c : Nat → Int) (j : Nat) : List LSt → Nat → Int
  | [], _ => 0
  | s :: ss, k => c k * (s.ways.count (some j) : Nat) + flow c j ss (k + 1)
theorem sweep_get (j : Nat) (c : Nat → Int) : ∀ (cs : List Int) (ss : List LSt) (a : List Int) (k : Nat), cs.length = ss.length → (∀ i, cs.getD i 0 = c (k + i)) → (∀ s ∈ ss, ∀ n, some n ∈ s.ways → n < a.length) →
    (sweep cs ss a).getD j 0 = a.getD j 0 + flow c j ss k
  | [], [], a, k, _, _, _ => (Int.add_zero _).symm
  | [], _ :: _, _, _, h, _, _ => by simp at h
  | _ :: _, [], _, _, h, _, _ => by simp at h
  | x :: cs, s :: ss, a, k, h, hc, ht => by
    have ih := sweep_get j c cs ss (bumps x s.ways a) (k + 1) (by simpa using h) (fun i => by have := hc (i + 1); rw [show k + 1 + i = k + (i + 1) by omega, ← this]; rfl) fun s' hs n hn => by rw [bumps_len]; exact ht s' (List.mem_cons_of_mem _ hs) n hn
    have e0 : x = c k := hc 0
    show (sweep cs ss (bumps x s.ways a)).getD j 0 = _
    rw [ih, bumps_get x j s.ways a (ht s (List.mem_cons_self ..)), e0]
    show _ = a.getD j 0 + (c k * _ + flow c j ss (k + 1))
    omega
theorem flow_zero (j : Nat) : ∀ (ss : List LSt) (k : Nat), flow (fun _ => 0) j ss k = 0
  | [], _ => rfl
  | s :: ss, k => by
    show 0 * _ + flow (fun _ => 0) j ss (k + 1) = 0
    rw [flow_zero j ss (k + 1), Int.zero_mul, Int.add_zero]
theorem flow_one (c : Nat → Int) (j m : Nat) : ∀ (ss : List LSt) (k : Nat), flow (fun i => c i + if m = i then 1 else 0) j ss k = flow c j ss k + if k ≤ m then (((ss[m - k]?).map fun s => s.ways.count (some j)).getD 0 : Nat) else 0
  | [], k => by
    show (0 : Int) = 0 + _
    split <;> simp
  | s :: ss, k => by
    have ih := flow_one c j m ss (k + 1)
    show (c k + if m = k then 1 else 0) * ((s.ways.count (some j) : Nat) : Int) + flow _ j ss (k + 1) = c k * ((s.ways.count (some j) : Nat) : Int) + flow c j ss (k + 1) + _
    rw [ih, Int.add_mul]
    rcases Nat.lt_trichotomy m k with h | h | h
    · rw [if_neg (show ¬ m = k by omega), if_neg (show ¬ k + 1 ≤ m by omega), if_neg (show ¬ k ≤ m by omega)]
      omega
    · subst h
      rw [if_pos rfl, if_neg (show ¬ m + 1 ≤ m by omega), if_pos (Nat.le_refl m), Nat.sub_self]
      show c m * _ + 1 * _ + (_ + 0) = c m * _ + _ + ((s.ways.count (some j) : Nat) : Int)
      omega
    · rw [if_neg (show ¬ m = k by omega), if_pos (show k + 1 ≤ m by omega), if_pos (show k ≤ m by omega), show m - k = (m - (k + 1)) + 1 by omega, List.getElem?_cons_succ]
      omega
/-- the ways of a state -/
def Lot.roads (l : Lot) (j : Nat) : Option Nat → Nat
  | none => 0
  | some s => (l.sta s).ways.count (some j)
theorem flow_list {l : Lot} (j : Nat) : ∀ F : List (Option Nat), (∀ s, some s ∈ F → s < l.states.length) → flow (fun i => ((F.count (some i) : Nat) : Int)) j l.states 0 = ((F.map (l.roads j)).sum : Nat)
  | [], _ => flow_zero j l.states 0
  | none :: F, h => by
    have ih := flow_list j F fun s hs => h s (List.mem_cons_of_mem _ hs)
    have e : (fun i => (((none :: F).count (some i) : Nat) : Int)) = fun i => ((F.count (some i) : Nat) : Int) := funext fun i => by rw [List.count_cons]; simp
    rw [e, ih, List.map_cons, List.sum_cons]
    show _ = (((0 : Nat) + _ : Nat) : Int)
    rw [Nat.zero_add]
  | some m :: F, h => by
    have ih := flow_list j F fun s hs => h s (List.mem_cons_of_mem _ hs)
    have hm := h m (List.mem_cons_self ..)
    have e : (fun i => (((some m :: F).count (some i) : Nat) : Int)) = fun i => ((F.count (some i) : Nat) : Int) + if m = i then 1 else 0 := funext fun i => by
      rw [List.count_cons]
      by_cases q : m = i
      · subst q
        simp
      · have ne : (some m == some i) = false := by simpa using q
        rw [ne, if_neg q]
        simp
    rw [e, flow_one, ih, List.map_cons, List.sum_cons, if_pos (Nat.zero_le m), Nat.sub_zero, Lot.sta_at hm]
    show _ + (((l.sta m).ways.count (some j) : Nat) : Int) = (((l.sta m).ways.count (some j) + _ : Nat) : Int)
    omega
/-- all texts of a length, as they are made -/
def longer (g : Cs) (ts : List Cs) : List Cs := ts.flatMap fun t => g.map fun c => t ++ [c]
def texts (g : Cs) : Nat → List Cs
  | 0 => [[]]
  | n + 1 => longer g (texts g n)
theorem map_ways : ∀ (g : Cs) (ws : List (Option Nat)), g.Nodup → ws.length = g.length → (g.map fun c => ws.getD (g.idxOf c) none) = ws
  | [], [], _, _ => rfl
  | [], _ :: _, _, h => by simp at h
  | _ :: _, [], _, h => by simp at h
  | a :: g, w :: ws, d, h => by
    obtain ⟨d1, d2⟩ := List.nodup_cons.mp d
    have ih := map_ways g ws d2 (by simpa using h)
    rw [List.map_cons, List.idxOf_cons_self]
    show w :: _ = w :: ws
    congr 1
    refine Eq.trans (List.map_congr_left fun c hc => ?_) ih
    have ne : (a == c) = false := beq_eq_false_iff_ne.mpr fun e => d1 (e ▸ hc)
    rw [List.idxOf_cons, ne, cond_false]
    rfl
theorem step_all {l : Lot} (o : l.Ok) {s : Nat} (hs : s < l.states.length) : l.signs.map (l.step (some s)) = (l.sta s).ways := by
  refine Eq.trans (List.map_congr_left fun c hc => ?_) (map_ways l.signs (l.sta s).ways o.once (o.ways _ (Lot.sta_mem hs)))
  exact if_pos hc
theorem on_longer {l : Lot} (ts : List Cs) : (longer l.signs ts).map (l.on (some 0)) = (ts.map (l.on (some 0))).flatMap fun o => l.signs.map (l.step o) := by
  unfold longer
  rw [List.map_flatMap, List.flatMap_map]
  congr 1
  funext t
  rw [List.map_map]
  exact List.map_congr_left fun c _ => Lot.on_snoc l (some 0) t c
theorem count_flat {l : Lot} (o : l.Ok) (j : Nat) : ∀ F : List (Option Nat), (∀ s, some s ∈ F → s < l.states.length) → (F.flatMap fun q => l.signs.map (l.step q)).count (some j) = (F.map (l.roads j)).sum
  | [], _ => rfl
  | q :: F, h => by
    have ih := count_flat o j F fun s hs => h s (List.mem_cons_of_mem _ hs)
    rw [List.flatMap_cons, List.count_append, ih, List.map_cons, List.sum_cons]
    congr 1
    cases q with
    | none =>
      show (l.signs.map fun _ => (none : Option Nat)).count (some j) = 0
      exact List.count_eq_zero.mpr fun hm => by
        obtain ⟨c, _, e⟩ := List.mem_map.mp hm
        cases e
    | some s => rw [step_all o (h s (List.mem_cons_self ..))]; rfl
theorem on_some_lt {l : Lot} (o : l.Ok) {ts : List Cs} : ∀ s, some s ∈ ts.map (l.on (some 0)) → s < l.states.length := fun s hs => by
  obtain ⟨t, _, e⟩ := List.mem_map.mp hs
  exact Lot.on_lt o t 0 s o.ne e
theorem cnt_get {l : Lot} (o : l.Ok) : ∀ (n j : Nat), (l.cnt n).getD j 0 = ((((texts l.signs n).map (l.on (some 0))).count (some j) : Nat) : Int)
  | 0, j => by
    show (1 :: List.replicate (l.states.length - 1) 0 : List Int).getD j 0 = (([some 0].count (some j) : Nat) : Int)
    cases j with
    | zero => rfl
    | succ j =>
      rw [List.getD_eq_getElem?_getD, List.getElem?_cons_succ, List.getElem?_replicate]
      have e : [some 0].count (some (j + 1)) = 0 := by simp [List.count_cons]
      rw [e]
      split <;> rfl
  | n + 1, j => by
    have ih := cnt_get o n
    have z := sweep_get j (fun i => (l.cnt n).getD i 0) (l.cnt n) l.states (List.replicate l.states.length 0) 0 (Lot.cnt_len o n) (fun i => by rw [Nat.zero_add]) (fun s hs k hk => by rw [List.length_replicate]; exact o.there s hs k hk)
    show (sweep (l.cnt n) l.states (List.replicate l.states.length 0)).getD j 0 = _
    have e0 : (List.replicate l.states.length (0 : Int)).getD j 0 = 0 := by
      rw [List.getD_eq_getElem?_getD, List.getElem?_replicate]
      split <;> rfl
    rw [z, e0, Int.zero_add, show (fun i => (l.cnt n).getD i 0) = fun i => ((((texts l.signs n).map (l.on (some 0))).count (some i) : Nat) : Int) from funext ih, flow_list j _ (on_some_lt o)]
    show _ = ((((longer l.signs (texts l.signs n)).map (l.on (some 0))).count (some j) : Nat) : Int)
    rw [on_longer, count_flat o j _ (on_some_lt o)]
/-- the good ones -/
def goods (c : Nat → Int) : List LSt → Nat → Int
  | [], _ => 0
  | s :: ss, k => (if s.good then c k else 0) + goods c ss (k + 1)
theorem total_sum (c : Nat → Int) : ∀ (cs : List Int) (ss : List LSt) (k : Nat), cs.length = ss.length → (∀ i, cs.getD i 0 = c (k + i)) → (total cs ss).sum = goods c ss k
  | [], [], _, _, _ => rfl
  | [], _ :: _, _, h, _ => by simp at h
  | _ :: _, [], _, h, _ => by simp at h
  | x :: cs, s :: ss, k, h, hc => by
    have ih := total_sum c cs ss (k + 1) (by simpa using h) (fun i => by have := hc (i + 1); rw [show k + 1 + i = k + (i + 1) by omega, ← this]; rfl)
    have e0 : x = c k := hc 0
    show (if s.good then x :: total cs ss else total cs ss).sum = (if s.good then c k else 0) + goods c ss (k + 1)
    cases s.good
    · rw [if_neg Bool.false_ne_true, if_neg Bool.false_ne_true, ih, Int.zero_add]
    · rw [if_pos rfl, if_pos rfl, List.sum_cons, ih, e0]
theorem goods_zero : ∀ (ss : List LSt) (k : Nat), goods (fun _ => 0) ss k = 0
  | [], _ => rfl
  | s :: ss, k => by
    show (if s.good then (0 : Int) else 0) + goods (fun _ => 0) ss (k + 1) = 0
    rw [goods_zero ss (k + 1)]
    cases s.good <;> rfl
theorem goods_one (c : Nat → Int) (m : Nat) : ∀ (ss : List LSt) (k : Nat), goods (fun i => c i + if m = i then 1 else 0) ss k = goods c ss k + if k ≤ m ∧ ((ss[m - k]?).map LSt.good).getD false = true then 1 else 0
  | [], k => by
    show (0 : Int) = 0 + _
    rw [if_neg (by simp)]
    rfl
  | s :: ss, k => by
    have ih := goods_one c m ss (k + 1)
    show (if s.good then c k + (if m = k then 1 else 0) else 0) + goods _ ss (k + 1) = (if s.good then c k else 0) + goods c ss (k + 1) + _
    rw [ih]
    rcases Nat.lt_trichotomy m k with h | h | h
    · rw [if_neg (show ¬ m = k by omega), if_neg (show ¬ (k + 1 ≤ m ∧ _) from fun z => by omega), if_neg (show ¬ (k ≤ m ∧ _) from fun z => by omega), Int.add_zero, Int.add_zero, Int.add_zero]
    · subst h
      rw [if_pos rfl, if_neg (show ¬ (m + 1 ≤ m ∧ _) from fun z => by omega), Nat.sub_self]
      show _ = _ + if m ≤ m ∧ s.good = true then (1 : Int) else 0
      cases s.good
      · simp
      · simp
        omega
    · rw [if_neg (show ¬ m = k by omega), show m - k = (m - (k + 1)) + 1 by omega, List.getElem?_cons_succ, Int.add_zero]
      have p1 : k + 1 ≤ m := by omega
      have p2 : k ≤ m := by omega
      simp only [p1, p2, true_and]
      omega
def Lot.fine (l : Lot) : Option Nat → Bool
  | none => false
  | some s => (l.sta s).good
theorem goods_list {l : Lot} : ∀ F : List (Option Nat), (∀ s, some s ∈ F → s < l.states.length) → goods (fun i => ((F.count (some i) : Nat) : Int)) l.states 0 = ((F.countP l.fine : Nat) : Int)
  | [], _ => goods_zero l.states 0
  | none :: F, h => by
    have ih := goods_list F fun s hs => h s (List.mem_cons_of_mem _ hs)
    have e : (fun i => (((none :: F).count (some i) : Nat) : Int)) = fun i => ((F.count (some i) : Nat) : Int) := funext fun i => by rw [List.count_cons]; simp
    rw [e, ih, List.countP_cons]
    rfl
  | some m :: F, h => by
    have ih := goods_list F fun s hs => h s (List.mem_cons_of_mem _ hs)
    have hm := h m (List.mem_cons_self ..)
    have e : (fun i => (((some m :: F).count (some i) : Nat) : Int)) = fun i => ((F.count (some i) : Nat) : Int) + if m = i then 1 else 0 := funext fun i => by
      rw [List.count_cons]
      by_cases q : m = i
      · subst q
        simp
      · have ne : (some m == some i) = false := by simpa using q
        rw [ne, if_neg q]
        simp
    rw [e, goods_one, ih, List.countP_cons, Nat.sub_zero, Lot.sta_at hm]
    show _ + (if 0 ≤ m ∧ (l.sta m).good = true then (1 : Int) else 0) = ((F.countP l.fine + if (l.sta m).good = true then 1 else 0 : Nat) : Int)
    cases (l.sta m).good
    · rw [if_neg (fun z => Bool.false_ne_true z.2), if_neg Bool.false_ne_true]
      rfl
    · rw [if_pos ⟨Nat.zero_le m, rfl⟩, if_pos rfl]
      rfl
/-- as many as all texts that are words -/
theorem many_words {l : Lot} (o : l.Ok) (n : Nat) : l.many n = (((texts l.signs n).filter l.word).length : Nat) := by
  unfold Lot.many
  rw [total_sum (fun i => (l.cnt n).getD i 0) (l.cnt n) l.states 0 (Lot.cnt_len o n) (fun i => by rw [Nat.zero_add]), show (fun i => (l.cnt n).getD i 0) = fun i => ((((texts l.signs n).map (l.on (some 0))).count (some i) : Nat) : Int) from funext (cnt_get o n), goods_list _ (on_some_lt o), List.countP_map, ← List.countP_eq_length_filter]
  congr 2
section
variable {X : Cx}
def rRepN : R2 := fun x y H Q => ∃ (l : Addr) (k : Nat) (xs : List V), x = .ref l ∧ y = .int (k : Int) ∧ H l = some (.lst xs) ∧ k ≤ 50000 ∧ xs.length * k ≤ 50000 ∧ New (.lst (List.replicate k xs).flatten) H Q
def rMulN : R2 := fun x y H Q => rI CMul (fun i j => .int (i * j)) x y H Q ∨ rRepN x y H Q
theorem op_mulN : OpR X (binaryOp .Mult) rMulN := op_mul.or (OpR_imp op_rep fun x y H Q h => by
  obtain ⟨l, k, xs, rfl, rfl, e, small, fits, q⟩ := h
  refine ⟨l, (k : Int), xs, rfl, rfl, e, by omega, by omega, ?_, ?_⟩
  · rw [Int.toNat_natCast, sizeLine_eq]
    omega
  · rw [Int.toNat_natCast]
    exact q.at)
theorem ints_rep (x : Int) : ∀ m : Nat, (List.replicate m [V.int x]).flatten = (List.replicate m x).map V.int
  | 0 => rfl
  | m + 1 => by
    rw [List.replicate_succ, List.flatten_cons, ints_rep x m]
    rfl
def rGetN : V → V → Hp → VK → Prop := fun o i H Q => ∃ (p : Addr) (xs : List V) (j : Nat) (x : V), o = .ref p ∧ i = .int (j : Int) ∧ H p = some (.lst xs) ∧ xs[j]? = some x ∧ Q x H
theorem get_listN : PGet X rGetN := by
  rintro pins s σ H _ _ ov iv Q I ro ri ⟨p, xs, j, x, rfl, rfl, hp, hx, q⟩
  cases ro
  obtain ⟨t, rfl⟩ := ri
  obtain ⟨us, r, here, small⟩ := I.list (SqL.of (K := X.K) hp)
  obtain ⟨u, hu, ru⟩ := r.get hx
  have lt := (List.getElem?_eq_some_iff.mp hx).1
  rw [sizeLine_eq] at small
  refine wpAny_getItem_list here.isList (Int.natCast_nonneg j) ?_ (x := u) (by simpa using hu) ⟨x, H, I, ru, q⟩
  omega
theorem kSum (K : PySem.W.Frag) (e : X.K = K) (calm : X.calm = true) : CallR X (.builtin "sum") (rSum K) := e ▸ cr_sum calm
end
end Fo

namespace Kx
open PySem PySem.Spec PyProof.Rows L2 Fo
def topS (i : Nat) : Stmt := PySem.Challenge.pw_foeholes_k05_what_are_rows_and_webs.main.body.getD i (.Pass ⟨0, 0, 0, 0⟩)
abbrev s_is_number_below : Stmt := topS 4
theorem sc_is_number_below : FnScope ["thing", "bound"] ["thing", "bound"] (defScope s_is_number_below) :=
  ⟨rfl, rfl, rfl, by decide +kernel, rfl, by decide +kernel, by decide +kernel⟩
abbrev s_is_tuple : Stmt := topS 5
theorem sc_is_tuple : FnScope ["thing", "least", "most"] ["thing", "least", "most"] (defScope s_is_tuple) :=
  ⟨rfl, rfl, rfl, by decide +kernel, rfl, by decide +kernel, by decide +kernel⟩
abbrev s_is_text : Stmt := topS 6
theorem sc_is_text : FnScope ["thing", "signs", "most", "sign"] ["thing", "signs", "most"] (defScope s_is_text) :=
  ⟨rfl, rfl, rfl, by decide +kernel, rfl, by decide +kernel, by decide +kernel⟩
abbrev s_is_signs : Stmt := topS 7
theorem sc_is_signs : FnScope ["thing", "ahead", "behind", "sign"] ["thing"] (defScope s_is_signs) :=
  ⟨rfl, rfl, rfl, by decide +kernel, rfl, by decide +kernel, by decide +kernel⟩
abbrev s_is_reader : Stmt := topS 11
theorem sc_is_reader : FnScope ["thing", "reads", "tells", "states", "state"] ["thing"] (defScope s_is_reader) :=
  ⟨rfl, rfl, rfl, by decide +kernel, rfl, by decide +kernel, by decide +kernel⟩
abbrev s_is_state : Stmt := topS 12
theorem sc_is_state : FnScope ["thing", "many_ways", "tells", "many_states", "ways", "end", "way"] ["thing", "many_ways", "tells", "many_states"] (defScope s_is_state) :=
  ⟨rfl, rfl, rfl, by decide +kernel, rfl, by decide +kernel, by decide +kernel⟩
abbrev s_is_way : Stmt := topS 13
theorem sc_is_way : FnScope ["thing", "tells", "many_states", "after", "told"] ["thing", "tells", "many_states"] (defScope s_is_way) :=
  ⟨rfl, rfl, rfl, by decide +kernel, rfl, by decide +kernel, by decide +kernel⟩
abbrev s_is_row : Stmt := topS 17
theorem sc_is_row : FnScope ["thing", "ahead", "behind", "part"] ["thing"] (defScope s_is_row) :=
  ⟨rfl, rfl, rfl, by decide +kernel, rfl, by decide +kernel, by decide +kernel⟩
abbrev s_fits : Stmt := topS 18
theorem sc_fits : FnScope ["ahead", "behind", "tells"] ["ahead", "behind"] (defScope s_fits) :=
  ⟨rfl, rfl, rfl, by decide +kernel, rfl, by decide +kernel, by decide +kernel⟩
abbrev s_is_web : Stmt := topS 19
theorem sc_is_web : FnScope ["thing", "signs", "row", "part"] ["thing"] (defScope s_is_web) :=
  ⟨rfl, rfl, rfl, by decide +kernel, rfl, by decide +kernel, by decide +kernel⟩
abbrev s__law_open : Stmt := topS 21
theorem sc__law_open : FnScope ["script", "cells", "k", "cell"] ["script"] (defScope s__law_open) :=
  ⟨rfl, rfl, rfl, by decide +kernel, rfl, by decide +kernel, by decide +kernel⟩
abbrev s__law_spread : Stmt := topS 22
theorem sc__law_spread : FnScope ["cell", "at", "primes", "one", "two", "three"] ["cell", "at"] (defScope s__law_spread) :=
  ⟨rfl, rfl, rfl, by decide +kernel, rfl, by decide +kernel, by decide +kernel⟩
abbrev s__law_take : Stmt := topS 23
theorem sc__law_take : FnScope ["pen", "amount", "at", "cell", "found"] ["pen", "amount"] (defScope s__law_take) :=
  ⟨rfl, rfl, rfl, by decide +kernel, rfl, by decide +kernel, by decide +kernel⟩
abbrev s__law_some_signs : Stmt := topS 24
theorem sc__law_some_signs : FnScope ["pen", "amount", "pool", "left", "k"] ["pen", "amount"] (defScope s__law_some_signs) :=
  ⟨rfl, rfl, rfl, by decide +kernel, rfl, by decide +kernel, by decide +kernel⟩
abbrev s__law_some_text : Stmt := topS 25
theorem sc__law_some_text : FnScope ["pen", "signs", "most", "k"] ["pen", "signs", "most"] (defScope s__law_some_text) :=
  ⟨rfl, rfl, rfl, by decide +kernel, rfl, by decide +kernel, by decide +kernel⟩
abbrev s__law_same : Stmt := topS 26
theorem sc__law_same : FnScope ["found", "due", "one", "other"] ["found", "due"] (defScope s__law_same) :=
  ⟨rfl, rfl, rfl, by decide +kernel, rfl, by decide +kernel, by decide +kernel⟩
abbrev s__law_any_reader : Stmt := topS 27
theorem sc__law_any_reader : FnScope ["pen", "reads", "tells", "size", "most", "amount", "copies", "states", "k", "ways", "sign", "told", "end"] ["pen", "reads", "tells", "size", "most"] (defScope s__law_any_reader) :=
  ⟨rfl, rfl, rfl, by decide +kernel, rfl, by decide +kernel, by decide +kernel⟩
abbrev s__law_more_signs : Stmt := topS 28
theorem sc__law_more_signs : FnScope ["pen", "reads"] ["pen", "reads"] (defScope s__law_more_signs) :=
  ⟨rfl, rfl, rfl, by decide +kernel, rfl, by decide +kernel, by decide +kernel⟩
abbrev s__law_wider : Stmt := topS 29
theorem sc__law_wider : FnScope ["pen", "signs"] ["pen", "signs"] (defScope s__law_wider) :=
  ⟨rfl, rfl, rfl, by decide +kernel, rfl, by decide +kernel, by decide +kernel⟩
abbrev s__law_wide_row : Stmt := topS 30
theorem sc__law_wide_row : FnScope ["pen", "reads", "often", "size", "most", "row", "k", "more"] ["pen", "reads", "often", "size", "most"] (defScope s__law_wide_row) :=
  ⟨rfl, rfl, rfl, by decide +kernel, rfl, by decide +kernel, by decide +kernel⟩
abbrev s__law_odd : Stmt := topS 31
theorem sc__law_odd : FnScope ["pen", "thing", "at", "k", "some", "sign"] ["pen", "thing"] (defScope s__law_odd) :=
  ⟨rfl, rfl, rfl, by decide +kernel, rfl, by decide +kernel, by decide +kernel⟩
abbrev s__law_bent : Stmt := topS 32
theorem sc__law_bent : FnScope ["pen", "thing", "at"] ["pen", "thing"] (defScope s__law_bent) :=
  ⟨rfl, rfl, rfl, by decide +kernel, rfl, by decide +kernel, by decide +kernel⟩
abbrev s__law_is_number : Stmt := topS 33
theorem sc__law_is_number : FnScope ["thing", "bound"] ["thing", "bound"] (defScope s__law_is_number) :=
  ⟨rfl, rfl, rfl, by decide +kernel, rfl, by decide +kernel, by decide +kernel⟩
abbrev s__law_are_signs : Stmt := topS 34
theorem sc__law_are_signs : FnScope ["thing", "sign"] ["thing"] (defScope s__law_are_signs) :=
  ⟨rfl, rfl, rfl, by decide +kernel, rfl, by decide +kernel, by decide +kernel⟩
abbrev s__law_is_text : Stmt := topS 35
theorem sc__law_is_text : FnScope ["thing", "signs", "most", "sign"] ["thing", "signs", "most"] (defScope s__law_is_text) :=
  ⟨rfl, rfl, rfl, by decide +kernel, rfl, by decide +kernel, by decide +kernel⟩
abbrev s__law_is_reader : Stmt := topS 36
theorem sc__law_is_reader : FnScope ["thing", "reads", "tells", "states", "state", "way"] ["thing"] (defScope s__law_is_reader) :=
  ⟨rfl, rfl, rfl, by decide +kernel, rfl, by decide +kernel, by decide +kernel⟩
abbrev s__law_is_row : Stmt := topS 37
theorem sc__law_is_row : FnScope ["thing", "ahead", "after", "one", "sign"] ["thing"] (defScope s__law_is_row) :=
  ⟨rfl, rfl, rfl, by decide +kernel, rfl, by decide +kernel, by decide +kernel⟩
abbrev s__law_is_web : Stmt := topS 38
theorem sc__law_is_web : FnScope ["thing", "row"] ["thing"] (defScope s__law_is_web) :=
  ⟨rfl, rfl, rfl, by decide +kernel, rfl, by decide +kernel, by decide +kernel⟩
abbrev s__law_right : Stmt := topS 39
theorem sc__law_right : FnScope ["thing", "kept", "found"] ["thing"] (defScope s__law_right) :=
  ⟨rfl, rfl, rfl, by decide +kernel, rfl, by decide +kernel, by decide +kernel⟩
abbrev s__law_shuffled : Stmt := topS 40
theorem sc__law_shuffled : FnScope ["pen", "web", "reads", "at", "road", "row", "spot", "other", "some"] ["pen", "web", "reads"] (defScope s__law_shuffled) :=
  ⟨rfl, rfl, rfl, by decide +kernel, rfl, by decide +kernel, by decide +kernel⟩
abbrev s_law : Stmt := topS 41
theorem sc_law : FnScope ["script", "pen", "turn", "reads", "web", "look", "thing", "some", "copy", "many", "kept", "k", "row", "one"] ["script"] (defScope s_law) :=
  ⟨rfl, rfl, rfl, by decide +kernel, rfl, by decide +kernel, by decide +kernel⟩
structure Top (K : PySem.W.Frag) (mg : Str → Option Value) where
  f_is_number_below : Addr
  fd_is_number_below : FuncData
  F_is_number_below : Fun K "is_number_below" "is_number_below" s_is_number_below f_is_number_below fd_is_number_below
  b_is_number_below : Binds K fd_is_number_below ["thing", "bound"] []
  g_is_number_below : mg "is_number_below" = some (.ref f_is_number_below)
  f_is_tuple : Addr
  fd_is_tuple : FuncData
  F_is_tuple : Fun K "is_tuple" "is_tuple" s_is_tuple f_is_tuple fd_is_tuple
  b_is_tuple : Binds K fd_is_tuple ["thing", "least", "most"] []
  g_is_tuple : mg "is_tuple" = some (.ref f_is_tuple)
  f_is_text : Addr
  fd_is_text : FuncData
  F_is_text : Fun K "is_text" "is_text" s_is_text f_is_text fd_is_text
  b_is_text : Binds K fd_is_text ["thing", "signs", "most"] []
  g_is_text : mg "is_text" = some (.ref f_is_text)
  f_is_signs : Addr
  fd_is_signs : FuncData
  F_is_signs : Fun K "is_signs" "is_signs" s_is_signs f_is_signs fd_is_signs
  b_is_signs : Binds K fd_is_signs ["thing"] []
  g_is_signs : mg "is_signs" = some (.ref f_is_signs)
  f_is_reader : Addr
  fd_is_reader : FuncData
  F_is_reader : Fun K "is_reader" "is_reader" s_is_reader f_is_reader fd_is_reader
  b_is_reader : Binds K fd_is_reader ["thing"] []
  g_is_reader : mg "is_reader" = some (.ref f_is_reader)
  f_is_state : Addr
  fd_is_state : FuncData
  F_is_state : Fun K "is_state" "is_state" s_is_state f_is_state fd_is_state
  b_is_state : Binds K fd_is_state ["thing", "many_ways", "tells", "many_states"] []
  g_is_state : mg "is_state" = some (.ref f_is_state)
  f_is_way : Addr
  fd_is_way : FuncData
  F_is_way : Fun K "is_way" "is_way" s_is_way f_is_way fd_is_way
  b_is_way : Binds K fd_is_way ["thing", "tells", "many_states"] []
  g_is_way : mg "is_way" = some (.ref f_is_way)
  f_is_row : Addr
  fd_is_row : FuncData
  F_is_row : Fun K "is_row" "is_row" s_is_row f_is_row fd_is_row
  b_is_row : Binds K fd_is_row ["thing"] []
  g_is_row : mg "is_row" = some (.ref f_is_row)
  f_fits : Addr
  fd_fits : FuncData
  F_fits : Fun K "fits" "fits" s_fits f_fits fd_fits
  b_fits : Binds K fd_fits ["ahead", "behind"] []
  g_fits : mg "fits" = some (.ref f_fits)
  f_is_web : Addr
  fd_is_web : FuncData
  F_is_web : Fun K "is_web" "is_web" s_is_web f_is_web fd_is_web
  b_is_web : Binds K fd_is_web ["thing"] []
  g_is_web : mg "is_web" = some (.ref f_is_web)
  f__law_open : Addr
  fd__law_open : FuncData
  F__law_open : Fun K "_law_open" "_law_open" s__law_open f__law_open fd__law_open
  b__law_open : Binds K fd__law_open ["script"] []
  g__law_open : mg "_law_open" = some (.ref f__law_open)
  f__law_spread : Addr
  fd__law_spread : FuncData
  F__law_spread : Fun K "_law_spread" "_law_spread" s__law_spread f__law_spread fd__law_spread
  b__law_spread : Binds K fd__law_spread ["cell", "at"] []
  g__law_spread : mg "_law_spread" = some (.ref f__law_spread)
  f__law_take : Addr
  fd__law_take : FuncData
  F__law_take : Fun K "_law_take" "_law_take" s__law_take f__law_take fd__law_take
  b__law_take : Binds K fd__law_take ["pen", "amount"] []
  g__law_take : mg "_law_take" = some (.ref f__law_take)
  f__law_some_signs : Addr
  fd__law_some_signs : FuncData
  F__law_some_signs : Fun K "_law_some_signs" "_law_some_signs" s__law_some_signs f__law_some_signs fd__law_some_signs
  b__law_some_signs : Binds K fd__law_some_signs ["pen", "amount"] []
  g__law_some_signs : mg "_law_some_signs" = some (.ref f__law_some_signs)
  f__law_some_text : Addr
  fd__law_some_text : FuncData
  F__law_some_text : Fun K "_law_some_text" "_law_some_text" s__law_some_text f__law_some_text fd__law_some_text
  b__law_some_text : Binds K fd__law_some_text ["pen", "signs", "most"] []
  g__law_some_text : mg "_law_some_text" = some (.ref f__law_some_text)
  f__law_same : Addr
  fd__law_same : FuncData
  F__law_same : Fun K "_law_same" "_law_same" s__law_same f__law_same fd__law_same
  b__law_same : Binds K fd__law_same ["found", "due"] []
  g__law_same : mg "_law_same" = some (.ref f__law_same)
  f__law_any_reader : Addr
  fd__law_any_reader : FuncData
  F__law_any_reader : Fun K "_law_any_reader" "_law_any_reader" s__law_any_reader f__law_any_reader fd__law_any_reader
  b__law_any_reader : Binds K fd__law_any_reader ["pen", "reads", "tells", "size", "most"] []
  g__law_any_reader : mg "_law_any_reader" = some (.ref f__law_any_reader)
  f__law_more_signs : Addr
  fd__law_more_signs : FuncData
  F__law_more_signs : Fun K "_law_more_signs" "_law_more_signs" s__law_more_signs f__law_more_signs fd__law_more_signs
  b__law_more_signs : Binds K fd__law_more_signs ["pen", "reads"] []
  g__law_more_signs : mg "_law_more_signs" = some (.ref f__law_more_signs)
  f__law_wider : Addr
  fd__law_wider : FuncData
  F__law_wider : Fun K "_law_wider" "_law_wider" s__law_wider f__law_wider fd__law_wider
  b__law_wider : Binds K fd__law_wider ["pen", "signs"] []
  g__law_wider : mg "_law_wider" = some (.ref f__law_wider)
  f__law_wide_row : Addr
  fd__law_wide_row : FuncData
  F__law_wide_row : Fun K "_law_wide_row" "_law_wide_row" s__law_wide_row f__law_wide_row fd__law_wide_row
  b__law_wide_row : Binds K fd__law_wide_row ["pen", "reads", "often", "size", "most"] []
  g__law_wide_row : mg "_law_wide_row" = some (.ref f__law_wide_row)
  f__law_odd : Addr
  fd__law_odd : FuncData
  F__law_odd : Fun K "_law_odd" "_law_odd" s__law_odd f__law_odd fd__law_odd
  b__law_odd : Binds K fd__law_odd ["pen", "thing"] []
  g__law_odd : mg "_law_odd" = some (.ref f__law_odd)
  f__law_bent : Addr
  fd__law_bent : FuncData
  F__law_bent : Fun K "_law_bent" "_law_bent" s__law_bent f__law_bent fd__law_bent
  b__law_bent : Binds K fd__law_bent ["pen", "thing"] []
  g__law_bent : mg "_law_bent" = some (.ref f__law_bent)
  f__law_is_number : Addr
  fd__law_is_number : FuncData
  F__law_is_number : Fun K "_law_is_number" "_law_is_number" s__law_is_number f__law_is_number fd__law_is_number
  b__law_is_number : Binds K fd__law_is_number ["thing", "bound"] []
  g__law_is_number : mg "_law_is_number" = some (.ref f__law_is_number)
  f__law_are_signs : Addr
  fd__law_are_signs : FuncData
  F__law_are_signs : Fun K "_law_are_signs" "_law_are_signs" s__law_are_signs f__law_are_signs fd__law_are_signs
  b__law_are_signs : Binds K fd__law_are_signs ["thing"] []
  g__law_are_signs : mg "_law_are_signs" = some (.ref f__law_are_signs)
  f__law_is_text : Addr
  fd__law_is_text : FuncData
  F__law_is_text : Fun K "_law_is_text" "_law_is_text" s__law_is_text f__law_is_text fd__law_is_text
  b__law_is_text : Binds K fd__law_is_text ["thing", "signs", "most"] []
  g__law_is_text : mg "_law_is_text" = some (.ref f__law_is_text)
  f__law_is_reader : Addr
  fd__law_is_reader : FuncData
  F__law_is_reader : Fun K "_law_is_reader" "_law_is_reader" s__law_is_reader f__law_is_reader fd__law_is_reader
  b__law_is_reader : Binds K fd__law_is_reader ["thing"] []
  g__law_is_reader : mg "_law_is_reader" = some (.ref f__law_is_reader)
  f__law_is_row : Addr
  fd__law_is_row : FuncData
  F__law_is_row : Fun K "_law_is_row" "_law_is_row" s__law_is_row f__law_is_row fd__law_is_row
  b__law_is_row : Binds K fd__law_is_row ["thing"] []
  g__law_is_row : mg "_law_is_row" = some (.ref f__law_is_row)
  f__law_is_web : Addr
  fd__law_is_web : FuncData
  F__law_is_web : Fun K "_law_is_web" "_law_is_web" s__law_is_web f__law_is_web fd__law_is_web
  b__law_is_web : Binds K fd__law_is_web ["thing"] []
  g__law_is_web : mg "_law_is_web" = some (.ref f__law_is_web)
  f__law_right : Addr
  fd__law_right : FuncData
  F__law_right : Fun K "_law_right" "_law_right" s__law_right f__law_right fd__law_right
  b__law_right : Binds K fd__law_right ["thing"] []
  g__law_right : mg "_law_right" = some (.ref f__law_right)
  f__law_shuffled : Addr
  fd__law_shuffled : FuncData
  F__law_shuffled : Fun K "_law_shuffled" "_law_shuffled" s__law_shuffled f__law_shuffled fd__law_shuffled
  b__law_shuffled : Binds K fd__law_shuffled ["pen", "web", "reads"] []
  g__law_shuffled : mg "_law_shuffled" = some (.ref f__law_shuffled)
  f_law : Addr
  fd_law : FuncData
  F_law : Fun K "law" "law" s_law f_law fd_law
  b_law : Binds K fd_law ["script"] []
  g_law : mg "law" = some (.ref f_law)
  m_FIRST_SIGN : ∃ t, mg "FIRST_SIGN" = some (.str (PySem.Str.ofString "!") t)
  m_LAST_SIGN : ∃ t, mg "LAST_SIGN" = some (.str (PySem.Str.ofString "~") t)
  m_MOST_SIGNS : ∃ t, mg "MOST_SIGNS" = some (.int 8 t)
  m_MOST_STATES : ∃ t, mg "MOST_STATES" = some (.int 6 t)
  m_MOST_TOLD : ∃ t, mg "MOST_TOLD" = some (.int 3 t)
  m_MOST_READERS : ∃ t, mg "MOST_READERS" = some (.int 3 t)
  m_MOST_ROWS : ∃ t, mg "MOST_ROWS" = some (.int 3 t)
  m_all : mg "all" = none
  m_bool : mg "bool" = none
  m_enumerate : mg "enumerate" = none
  m_int : mg "int" = none
  m_isinstance : mg "isinstance" = none
  m_len : mg "len" = none
  m_list : mg "list" = none
  m_min : mg "min" = none
  m_range : mg "range" = none
  m_repr : mg "repr" = none
  m_set : mg "set" = none
  m_sorted : mg "sorted" = none
  m_str : mg "str" = none
  m_tuple : mg "tuple" = none
  m_zip : mg "zip" = none
end Kx

namespace Kx
open PySem PySem.Spec PyProof.Rows L2 Fo
section
variable {P : Program} {w : World} {K : PySem.W.Frag} {mg : Str → Option Value} {base : Heap}
def primes : List Int := [2147483629, 2147483587, 2147483579, 2147483563, 2147483549, 2147483543, 2147483497, 2147483489, 2147483477, 2147483423, 2147483399, 2147483353, 2147483323]
theorem primes_in : ∀ p ∈ primes, 0 < p ∧ p < 2147483648 := by decide
theorem prime_at {i : Int} : ∃ v : Int, atI (primes.map V.int) (i.fmod 13) = some (.int v) ∧ 0 < v ∧ v < 2147483648 := by
  have f := fmod_in (a := i) (b := 13) (by decide)
  obtain ⟨v, e, m⟩ := at_int (xs := primes) f.1 f.2
  exact ⟨v, e, primes_in v m⟩
theorem pow17 (k : Nat) : (10 : Int) ^ Int.toNat 17 + (k : Int) ≠ 0 := by
  have : (0 : Int) < 10 ^ Int.toNat 17 := by decide
  omega
def sp_spread (K : PySem.W.Frag) : Sp := fun vs H Q _ => ∃ (cell : Int) (k : Nat), vs = [.int cell, .int k] ∧ k ≤ 1048576 ∧ ∀ H' r, Same H H' → Q (.int r) H'
theorem ok_spread (T : Top K mg) : FnOk P w K mg base CX0 1 T.f__law_spread T.fd__law_spread ["cell", "at"] (sp_spread K) := by
  refine T.F__law_spread.ok sc__law_spread (fun vs H Q E h => ?_) (fun cdv A outer s H vs Q E hr h => ?_)
  · obtain ⟨a, ns, rfl, _⟩ := h
    rfl
  obtain ⟨cell, k, rfl, hk, q⟩ := h
  refine ⟨_, (pss_cons (ps_if (pt_cmpR op_geG (pv 0) (pe_op op_pow pe_int pe_int) (nomark _)) (pss_one (ps_ret (pv 0))) pss_nil)
    (pss_cons (ps_set (i := 2) sc__law_spread.nd rfl (Or.inl rfl) (pe_lstN (pa_cons pe_int (pa_cons pe_int (pa_cons pe_int (pa_cons pe_int (pa_cons pe_int (pa_cons pe_int (pa_cons pe_int (pa_cons pe_int pa_nil))))))))))
    (pss_cons (ps_set (i := 2) sc__law_spread.nd rfl (Or.inl rfl) (pe_op op_addG (pv 2) (pe_lstN (pa_cons pe_int (pa_cons pe_int (pa_cons pe_int (pa_cons pe_int (pa_cons pe_int pa_nil))))))))
    (pss_cons (ps_set (i := 3) sc__law_spread.nd rfl (Or.inl rfl) (pe_op op_modN (pe_op op_pow (pe_op op_addG (pe_op op_addG (pe_op op_mulG (pe_op op_modN (pv 0) pe_int) (pe_op op_addG (pe_op op_mulG pe_int (pv 1)) pe_int)) (pe_op op_mulG (pv 1) pe_int)) pe_int) pe_int) (pe_ix (kIx K rfl) (pv 2) (pe_op op_modN (pv 1) pe_int) (fun _ _ => rfl))))
    (pss_cons (ps_set (i := 4) sc__law_spread.nd rfl (Or.inl rfl) (pe_op op_modN (pe_op op_pow (pe_op op_addG (pe_op op_addG (pe_op op_mulG (pv 3) (pe_op op_addG (pv 1) pe_int)) (pe_op op_modN (pv 0) pe_int)) pe_int) pe_int) (pe_ix (kIx K rfl) (pv 2) (pe_op op_modN (pe_op op_addG (pv 1) pe_int) pe_int) (fun _ _ => rfl))))
    (pss_cons (ps_set (i := 5) sc__law_spread.nd rfl (Or.inl rfl) (pe_op op_modN (pe_op op_pow (pe_op op_addG (pe_op op_addG (pv 4) (pe_op op_modN (pv 3) pe_int)) (pv 1)) pe_int) (pe_ix (kIx K rfl) (pv 2) (pe_op op_modN (pe_op op_addG (pv 1) pe_int) pe_int) (fun _ _ => rfl))))
    (pss_one (ps_ret (pe_op op_addG (pe_op op_mulG (pe_op op_addG (pe_op op_mulG (pv 3) pe_int) (pv 4)) pe_int) (pv 5)))))))))), ?_⟩
  refine ⟨_, rfl, _, _, rfl, rfl, ⟨by decide, by decide, by decide⟩, _, _, rfl, rfl, _, rfl, ite2 (fun _ => ?_) (fun _ => ?_)⟩
  · exact ⟨_, rfl, q _ _ (Same.refl _)⟩
  refine ⟨by decide, fun l H1 nl s1 e1 => ?_⟩
  refine ⟨_, rfl, by decide, fun l2 H2 nl2 s2 e2 => ?_⟩
  refine Or.inr (Or.inr (Or.inl ⟨_, _, _, _, rfl, rfl, s2 _ _ e1, e2, by decide, fun l3 H3 nl3 s3 e3 => ?_⟩))
  have hl : H3 l3 = some (.lst (primes.map V.int)) := e3
  have c1 := fmod_in (a := cell) (b := 1000000007) (by decide)
  have c2 := fmod_in (a := cell) (b := 65537) (by decide)
  obtain ⟨p1, i1, a1, b1⟩ := prime_at (i := k)
  obtain ⟨p2, i2, a2, b2⟩ := prime_at (i := (k : Int) + 5)
  obtain ⟨p3, i3, a3, b3⟩ := prime_at (i := (k : Int) + 7)
  -- one
  refine ⟨_, rfl, ?_⟩; (first | refine ⟨_, _, rfl, rfl, (by omega), ?_⟩ | refine Or.inl ⟨_, _, rfl, rfl, (by omega), ?_⟩); refine ⟨_, rfl, ?_⟩; (first | refine ⟨_, _, rfl, rfl, (mulR (by omega)), ?_⟩ | refine Or.inl ⟨_, _, rfl, rfl, (mulR (by omega)), ?_⟩); (first | refine Or.inl ⟨_, _, rfl, rfl, ?_⟩ | refine ⟨_, _, rfl, rfl, ?_⟩)
  (first | refine ⟨_, _, rfl, rfl, (mulL (by omega)), ?_⟩ | refine Or.inl ⟨_, _, rfl, rfl, (mulL (by omega)), ?_⟩); refine ⟨_, rfl, ?_⟩; (first | refine ⟨_, _, rfl, rfl, (mulR (by decide)), ?_⟩ | refine Or.inl ⟨_, _, rfl, rfl, (mulR (by decide)), ?_⟩); (first | refine Or.inl ⟨_, _, rfl, rfl, ?_⟩ | refine ⟨_, _, rfl, rfl, ?_⟩); (first | refine Or.inl ⟨_, _, rfl, rfl, ?_⟩ | refine ⟨_, _, rfl, rfl, ?_⟩)
  have m1 := mul_in (a := cell.fmod 1000000007) (b := 2 * (k : Int) + 69069) (A := 1000000007) (B := 2200000) c1.1 c1.2 (by omega) (by omega)
  refine ⟨_, _, rfl, rfl, ⟨by decide, by decide, (by show Int.natAbs _ < _; omega)⟩, ?_⟩
  refine ⟨_, rfl, ?_⟩; refine ⟨_, rfl, ?_⟩; (first | refine ⟨_, _, rfl, rfl, (by omega), ?_⟩ | refine Or.inl ⟨_, _, rfl, rfl, (by omega), ?_⟩); refine Or.inl ⟨_, _, _, _, rfl, rfl, SqL.of hl, i1, ?_⟩
  refine modL rfl rfl a1 (fun one o0 o1 => ?_)
  -- two
  refine ⟨_, rfl, ?_⟩; refine ⟨_, rfl, ?_⟩; (first | refine Or.inl ⟨_, _, rfl, rfl, ?_⟩ | refine ⟨_, _, rfl, rfl, ?_⟩); (first | refine ⟨_, _, rfl, rfl, (mulL (by omega)), ?_⟩ | refine Or.inl ⟨_, _, rfl, rfl, (mulL (by omega)), ?_⟩); refine ⟨_, rfl, ?_⟩; (first | refine ⟨_, _, rfl, rfl, (by omega), ?_⟩ | refine Or.inl ⟨_, _, rfl, rfl, (by omega), ?_⟩); (first | refine Or.inl ⟨_, _, rfl, rfl, ?_⟩ | refine ⟨_, _, rfl, rfl, ?_⟩); (first | refine Or.inl ⟨_, _, rfl, rfl, ?_⟩ | refine ⟨_, _, rfl, rfl, ?_⟩)
  have m2 := mul_in (a := one) (b := (k : Int) + 3) (A := 2147483648) (B := 1048580) o0 (by omega) (by omega) (by omega)
  refine ⟨_, _, rfl, rfl, ⟨by decide, by decide, (by show Int.natAbs _ < _; omega)⟩, ?_⟩
  refine ⟨_, rfl, ?_⟩; refine ⟨_, rfl, ?_⟩; (first | refine Or.inl ⟨_, _, rfl, rfl, ?_⟩ | refine ⟨_, _, rfl, rfl, ?_⟩); (first | refine ⟨_, _, rfl, rfl, (by omega), ?_⟩ | refine Or.inl ⟨_, _, rfl, rfl, (by omega), ?_⟩); refine Or.inl ⟨_, _, _, _, rfl, rfl, SqL.of hl, i2, ?_⟩
  refine modL rfl rfl a2 (fun two t0 t1 => ?_)
  -- three
  have c3 := fmod_in (a := one) (b := 1009) (by decide)
  refine ⟨_, rfl, ?_⟩; refine ⟨_, rfl, ?_⟩; (first | refine ⟨_, _, rfl, rfl, (by omega), ?_⟩ | refine Or.inl ⟨_, _, rfl, rfl, (by omega), ?_⟩); (first | refine Or.inl ⟨_, _, rfl, rfl, ?_⟩ | refine ⟨_, _, rfl, rfl, ?_⟩); refine ⟨_, rfl, ?_⟩; (first | refine Or.inl ⟨_, _, rfl, rfl, ?_⟩ | refine ⟨_, _, rfl, rfl, ?_⟩)
  refine ⟨_, _, rfl, rfl, ⟨by decide, by decide, (by show Int.natAbs _ < _; omega)⟩, ?_⟩
  refine ⟨_, rfl, ?_⟩; refine ⟨_, rfl, ?_⟩; (first | refine Or.inl ⟨_, _, rfl, rfl, ?_⟩ | refine ⟨_, _, rfl, rfl, ?_⟩); (first | refine ⟨_, _, rfl, rfl, (by omega), ?_⟩ | refine Or.inl ⟨_, _, rfl, rfl, (by omega), ?_⟩); refine Or.inl ⟨_, _, _, _, rfl, rfl, SqL.of hl, i3, ?_⟩; refine modL rfl rfl a3 (fun r r0 r1 => ?_)
  -- the end
  refine ⟨_, rfl, ?_⟩; (first | refine ⟨_, _, rfl, rfl, (mulR (by decide)), ?_⟩ | refine Or.inl ⟨_, _, rfl, rfl, (mulR (by decide)), ?_⟩); refine ⟨_, rfl, ?_⟩; (first | refine Or.inl ⟨_, _, rfl, rfl, ?_⟩ | refine ⟨_, _, rfl, rfl, ?_⟩); (first | refine ⟨_, _, rfl, rfl, (mulR (by decide)), ?_⟩ | refine Or.inl ⟨_, _, rfl, rfl, (mulR (by decide)), ?_⟩); refine ⟨_, rfl, ?_⟩; (first | refine Or.inl ⟨_, _, rfl, rfl, ?_⟩ | refine ⟨_, _, rfl, rfl, ?_⟩)
  exact q _ _ ((s1.trans s2).trans s3)
def sp_take (K : PySem.W.Frag) : Sp := fun vs H Q _ => ∃ (p c : Addr) (n : Nat) (m : Int), vs = [.ref p, .int m] ∧ Pen H p c (n + 1) ∧ 0 < m ∧ m < 1000000 ∧ ∀ H' r, But p H H' → Pen H' p c n → 0 ≤ r → r < m → Q (.int r) H'
theorem ok_take (T : Top K mg) : FnOk P w K mg base CX0 2 T.f__law_take T.fd__law_take ["pen", "amount"] (sp_take K) := by
  have G__law_spread := ok_spread (P := P) (w := w) (base := base) T
  refine T.F__law_take.ok sc__law_take (fun vs H Q E h => ?_) (fun cdv A outer s H vs Q E hr h => ?_)
  · obtain ⟨a, c, ns, m, rfl, _⟩ := h
    rfl
  obtain ⟨p, c, n, m, rfl, hp, hm, hm2, q⟩ := h
  obtain ⟨cs, k, left, h1, h2, h3, h4, h5⟩ := hp
  refine ⟨_, (pss_cons (ps_if (pt_cmpR op_ltG (pe_ix (kIx K rfl) (pv 0) pe_int (fun _ _ => rfl)) (pv 1) (nomark _)) (pss_cons (ps_set (i := 2) sc__law_take.nd rfl (Or.inl rfl) (pe_ix (kIx K rfl) (pv 0) pe_int (fun _ _ => rfl)))
    (pss_cons (ps_set (i := 3) sc__law_take.nd rfl (Or.inl rfl) pe_int)
    (pss_cons (ps_if (pt_cmpR op_ltG (pv 2) (pe_callB (kLen K rfl) (by rfl) T.m_len PySem.boot_len (pa_cons (pe_ix (kIx K rfl) (pv 0) pe_int (fun _ _ => rfl)) pa_nil)) (nomark _)) (pss_one (ps_set (i := 3) sc__law_take.nd rfl (Or.inl rfl) (pe_ix (kIx K rfl) (pe_ix (kIx K rfl) (pv 0) pe_int (fun _ _ => rfl)) (pv 2) (fun _ _ => rfl)))) (pss_one (ps_if (pt_cmpR op_gtG (pe_callB (kLen K rfl) (by rfl) T.m_len PySem.boot_len (pa_cons (pe_ix (kIx K rfl) (pv 0) pe_int (fun _ _ => rfl)) pa_nil)) pe_int (nomark _)) (pss_one (ps_set (i := 3) sc__law_take.nd rfl (Or.inl rfl) (pe_op op_modN (pe_ix (kIx K rfl) (pe_ix (kIx K rfl) (pv 0) pe_int (fun _ _ => rfl)) (pe_op op_modN (pe_op op_addG (pe_op op_mulG (pv 2) pe_int) pe_int) (pe_callB (kLen K rfl) (by rfl) T.m_len PySem.boot_len (pa_cons (pe_ix (kIx K rfl) (pv 0) pe_int (fun _ _ => rfl)) pa_nil))) (fun _ _ => rfl)) (pe_op op_addG (pe_op op_pow pe_int pe_int) (pv 2))))) pss_nil)))
    (pss_cons (ps_asg (pe_op op_addG (pv 2) pe_int) (pg_sub (pv 0) pe_int set_listN))
    (pss_one (ps_asg (pe_call G__law_spread (hr.mono (by first | decide | omega)) (by rfl) T.g__law_spread T.F__law_spread.kp T.b__law_spread .nil pass0 (pa_cons (pv 3) (pa_cons (pv 2) pa_nil))) (pg_sub (pv 0) pe_int set_listN))))))) pss_nil)
    (pss_cons (ps_set (i := 4) sc__law_take.nd rfl (Or.inl rfl) (pe_op op_modN (pe_ix (kIx K rfl) (pv 0) pe_int (fun _ _ => rfl)) (pv 1)))
    (pss_cons (ps_asg (pe_op op_fdivN (pe_ix (kIx K rfl) (pv 0) pe_int (fun _ _ => rfl)) (pv 1)) (pg_sub (pv 0) pe_int set_listN))
    (pss_one (ps_ret (pv 4)))))), ?_⟩
  -- the end, from any state with pen[2] = left2
  have fin : ∀ (H2 : Hp) (k2 : Nat) (left2 : Int) (σ2 σ3 : Option V), But p H H2 → H2 p = some (.lst [.ref c, .int k2, .int left2]) → H2 c = some (.lst (cs.map V.int)) → k2 + n ≤ 1048576 →
      (tSeq (tAsg (tOp (rI (fun _ j => j ≠ 0) fun i j => .int (i.fmod j)) (tOp (rIx K) (tVar 0) (tC (.int 2))) (tVar 1)) (gName 4))
        (tSeq (tAsg (tOp (rI CDivN fun i j => .int (i.fdiv j)) (tOp (rIx K) (tVar 0) (tC (.int 2))) (tVar 1)) (gSub (tVar 0) (tC (.int 2)) rSetN)) (tRet (tVar 4))))
        { nx := fun _ H' => Q .non H', rt := Q } [some (.ref p), some (.int m), σ2, σ3, none] H2 := by
    intro H2 k2 left2 σ2 σ3 b2 e1 e2 hk2
    refine ⟨_, rfl, ?_⟩; refine Or.inl ⟨_, _, _, _, rfl, rfl, SqL.of e1, rfl, ?_⟩; refine ⟨_, rfl, ?_⟩; (first | refine ⟨_, _, rfl, rfl, (by omega), ?_⟩ | refine Or.inl ⟨_, _, rfl, rfl, (by omega), ?_⟩)
    have f := fmod_in (a := left2) hm
    refine ⟨_, rfl, ?_⟩; refine Or.inl ⟨_, _, _, _, rfl, rfl, SqL.of e1, rfl, ?_⟩; refine ⟨_, rfl, ?_⟩; (first | refine ⟨_, _, rfl, rfl, ⟨by omega, by omega⟩, ?_⟩ | refine Or.inl ⟨_, _, rfl, rfl, ⟨by omega, by omega⟩, ?_⟩)
    refine ⟨_, rfl, _, _, _, _, rfl, rfl, e1, rfl, fun H3 b3 e3 => ?_⟩
    refine ⟨_, rfl, ?_⟩
    exact q _ _ (b2.trans b3) ⟨cs, k2, _, e3, b3 _ _ h5 e2, h3, hk2, h5⟩ f.1 f.2
  refine ⟨_, rfl, ?_⟩; refine Or.inl ⟨_, _, _, _, rfl, rfl, SqL.of h1, rfl, ?_⟩; refine ⟨_, rfl, ?_⟩; (first | refine Or.inl ⟨_, _, rfl, rfl, ?_⟩ | refine ⟨_, _, rfl, rfl, ?_⟩); refine ⟨_, rfl, ?_⟩
  refine ite2 (fun _ => ?_) (fun _ => ?_)
  · refine ⟨_, rfl, ?_⟩; refine Or.inl ⟨_, _, _, _, rfl, rfl, SqL.of h1, rfl, ?_⟩; refine ⟨_, rfl, ?_⟩
    -- the cell: any int
    have cell : ∀ (z : Int) (D : Ends), (∀ (H' : Hp) (left2 : Int), But p H H' → H' p = some (.lst [.ref c, .int ((k + 1 : Nat) : Int), .int left2]) → H' c = some (.lst (cs.map V.int)) → D.nx [some (.ref p), some (.int m), some (.int k), some (.int z), none] H') →
      (tSeq (tAsg (tOp rAddG (tVar 2) (tC (.int 1))) (gSub (tVar 0) (tC (.int 1)) rSetN)) (tAsg (tCall (sp_spread K) [] E0 (tCons (tVar 3) (tCons (tVar 2) tNil))) (gSub (tVar 0) (tC (.int 2)) rSetN)))
        D [some (.ref p), some (.int m), some (.int k), some (.int z), none] H := by
      intro z D hD
      refine ⟨_, rfl, ?_⟩; (first | refine Or.inl ⟨_, _, rfl, rfl, ?_⟩ | refine ⟨_, _, rfl, rfl, ?_⟩)
      refine ⟨_, rfl, _, _, _, _, rfl, rfl, h1, rfl, fun H3 b3 e3 => ?_⟩
      refine ⟨_, rfl, ?_⟩; refine ⟨_, rfl, ?_⟩
      refine ⟨_, _, rfl, by omega, fun H4 r s4 => ?_⟩
      refine ⟨_, rfl, _, _, _, _, rfl, rfl, s4 _ _ e3, rfl, fun H5 b5 e5 => ?_⟩
      exact hD _ r ((b3.trans (same_but p s4)).trans b5) (by rw [e5]; rfl) (b5 _ _ h5 (s4 _ _ (b3 _ _ h5 h2)))
    have goon : ∀ (z : Int) (H' : Hp) (left2 : Int), But p H H' → H' p = some (.lst [.ref c, .int ((k + 1 : Nat) : Int), .int left2]) → H' c = some (.lst (cs.map V.int)) → _ := fun z H' l2 b e1 e2 => fin H' (k + 1) l2 (some (.int k)) (some (.int z)) b e1 e2 (by omega)
    refine ⟨_, rfl, ?_⟩; refine Or.inl ⟨_, _, _, _, rfl, rfl, SqL.of h1, rfl, ?_⟩
    refine ⟨_, _, rfl, .inl ⟨_, SqL.of h2, rfl⟩, ?_⟩
    (first | refine Or.inl ⟨_, _, rfl, rfl, ?_⟩ | refine ⟨_, _, rfl, rfl, ?_⟩); refine ⟨_, rfl, ?_⟩
    refine ite2 (fun t1 => ?_) (fun t1 => ?_)
    · have hk : k < cs.length := by
        have := of_decide_eq_true t1
        rw [List.length_map] at this
        omega
      obtain ⟨v, hv, _⟩ := at_int (xs := cs) (i := (k : Int)) (by omega) (by omega)
      refine ⟨_, rfl, ?_⟩; refine Or.inl ⟨_, _, _, _, rfl, rfl, SqL.of h1, rfl, ?_⟩; refine ⟨_, rfl, ?_⟩; refine Or.inl ⟨_, _, _, _, rfl, rfl, SqL.of h2, hv, ?_⟩
      exact cell v _ (goon v)
    · refine ⟨_, rfl, ?_⟩; refine Or.inl ⟨_, _, _, _, rfl, rfl, SqL.of h1, rfl, ?_⟩
      refine ⟨_, _, rfl, .inl ⟨_, SqL.of h2, rfl⟩, ?_⟩
      (first | refine Or.inl ⟨_, _, rfl, rfl, ?_⟩ | refine ⟨_, _, rfl, rfl, ?_⟩); refine ⟨_, rfl, ?_⟩
      refine ite2 (fun t2 => ?_) (fun t2 => ?_)
      · have hn : 0 < ((cs.map V.int).length : Int) := of_decide_eq_true t2
        refine ⟨_, rfl, ?_⟩; refine Or.inl ⟨_, _, _, _, rfl, rfl, SqL.of h1, rfl, ?_⟩; refine ⟨_, rfl, ?_⟩; (first | refine ⟨_, _, rfl, rfl, (mulR (by decide)), ?_⟩ | refine Or.inl ⟨_, _, rfl, rfl, (mulR (by decide)), ?_⟩); (first | refine Or.inl ⟨_, _, rfl, rfl, ?_⟩ | refine ⟨_, _, rfl, rfl, ?_⟩); refine ⟨_, rfl, ?_⟩; refine Or.inl ⟨_, _, _, _, rfl, rfl, SqL.of h1, rfl, ?_⟩
        refine ⟨_, _, rfl, .inl ⟨_, SqL.of h2, rfl⟩, ?_⟩
        refine modL rfl rfl hn (fun r r0 r1 => ?_)
        rw [List.length_map] at r1
        obtain ⟨v, hv, _⟩ := at_int (xs := cs) (i := r) (by omega) (by omega)
        refine Or.inl ⟨_, _, _, _, rfl, rfl, SqL.of h2, hv, ?_⟩
        refine ⟨_, _, rfl, rfl, ⟨by decide, by decide, (by decide)⟩, ?_⟩
        refine ⟨_, rfl, ?_⟩; (first | refine Or.inl ⟨_, _, rfl, rfl, ?_⟩ | refine ⟨_, _, rfl, rfl, ?_⟩)
        (first | refine ⟨_, _, rfl, rfl, (pow17 k), ?_⟩ | refine Or.inl ⟨_, _, rfl, rfl, (pow17 k), ?_⟩)
        exact cell _ _ (goon _)
      · exact cell 0 _ (goon 0)
  · exact fin H k left _ _ (But.refl _ _) h1 h2 (by omega)
def sp_open (K : PySem.W.Frag) : Sp := fun vs H Q _ => ∃ (a : Addr) (ns : List Int), vs = [.ref a] ∧ SqL K H a (ns.map V.int) ∧ ns.length ≤ 63 ∧ ∀ p c H', H p = none → H c = none → Same H H' → Pen H' p c 1048576 → Q (.ref p) H'
theorem ok_open (T : Top K mg) : FnOk P w K mg base CX0 1 T.f__law_open T.fd__law_open ["script"] (sp_open K) := by
  refine T.F__law_open.ok sc__law_open (fun vs H Q E h => ?_) (fun cdv A outer s H vs Q E hr h => ?_)
  · obtain ⟨a, ns, rfl, _⟩ := h
    rfl
  obtain ⟨a, ns, rfl, hS, hlen, q⟩ := h
  refine ⟨_, (pss_cons (ps_set (i := 1) sc__law_open.nd rfl (Or.inl rfl) (pe_callTy (kList K rfl rfl) (by rfl) T.m_list (by decide +kernel) (pa_cons (pe_slice (kSl K rfl) (pv 0) po_none (po_some pe_int)) pa_nil)))
    (pss_cons (ps_for PassesOwn.never rfl (pi_enum (by rfl) T.m_enumerate (pa_cons (pe_slice (kSl K rfl) (pv 0) (po_some pe_int) (po_some pe_int)) pa_nil)) (kTg K rfl (n := 2) rfl (pgs_cons (pg_name (i := 2) sc__law_open.nd rfl (Or.inl rfl)) (pgs_cons (pg_name (i := 3) sc__law_open.nd rfl (Or.inl rfl)) pgs_nil))) (pss_one (ps_asg (pe_op op_addG (pe_ix (kIx K rfl) (pv 1) (pe_op op_modN (pv 2) pe_int) (fun _ _ => rfl)) (pv 3)) (pg_sub (pv 1) (pe_op op_modN (pv 2) pe_int) set_listN))))
    (pss_one (ps_ret (pe_lstN (pa_cons (pv 1) (pa_cons pe_int (pa_cons pe_int pa_nil)))))))), ?_⟩
  refine ⟨_, rfl, ?_⟩; refine ⟨_, rfl, ?_⟩
  refine Or.inl ⟨_, _, rfl, hS, fun l1 H1 n1 s1 e1 => ?_⟩
  refine Or.inl ⟨_, _, rfl, .inl (SqL.of e1), fun l2 H2 n2 s2 e2 => ?_⟩
  have s02 := s1.trans s2
  rw [show (12 : Int) = ((12 : Nat) : Int) from rfl, cut_hi, ← List.map_take] at e2
  refine ⟨_, rfl, ?_⟩; refine ⟨_, rfl, ?_⟩; refine ⟨_, rfl, ?_⟩
  refine Or.inl ⟨_, _, rfl, s02.seq hS, fun l3 H3 n3 s3 e3 => ?_⟩
  rw [show (12 : Int) = ((12 : Nat) : Int) from rfl, show (63 : Int) = ((63 : Nat) : Int) from rfl, cut_lohi, ← List.map_drop, ← List.map_take] at e3
  have n2' : H l2 = none := s1.free n2
  have n3' : H l3 = none := s02.free n3
  have l23 : l2 ≠ l3 := ne_of_none e2 n3
  generalize hrs : List.take (63 - 12) (List.drop 12 ns) = rs at e3
  have full : 0 < rs.length → (ns.take 12).length = 12 := fun h => by
    have z : rs.length ≤ (ns.drop 12).length := by
      rw [← hrs, List.length_take]
      omega
    rw [List.length_drop] at z
    rw [List.length_take]
    omega
  refine ⟨_, _, rfl, SqL.of e3, for_it (walkPair (walk_enum (xs := rs.map V.int))) (fun i σ H' => ∃ (cs : List Int) (kv cv : Option V), σ = [some (.ref a), some (.ref l2), kv, cv] ∧ Same H H' ∧ H' l3 = some (.lst (rs.map V.int)) ∧ H' l2 = some (.lst (cs.map V.int)) ∧ cs.length = (ns.take 12).length)
    ⟨_, none, none, rfl, s02.trans s3, e3, s3 _ _ e2, rfl⟩ (fun i σ H' _ p => ?_) (fun i x σ H4 H5 hi p y => ?_) (fun σ H' p => ?_)⟩
  · obtain ⟨cs, kv, cv, _, _, e, _, _⟩ := p
    exact SqL.of e
  · obtain ⟨cs, kv, cv, rfl, s4, e4, c4, hc⟩ := p
    obtain ⟨U, x1, x2, rfl, s5, eU, ex1, ex2⟩ := y
    cases ex1
    rw [List.length_map] at hi
    have h12 := full (by omega)
    obtain ⟨z, _, rfl⟩ := get_map (f := V.int) ex2
    have f := fmod_in (a := (i : Int)) (b := 12) (by decide)
    obtain ⟨v, hv, _⟩ := at_int (xs := cs) (i := (i : Int).fmod 12) f.1 (by omega)
    refine ⟨U, _, rfl, SqT.of eU, rfl, _, _, rfl, _, _, rfl, rfl, ?_⟩
    refine ⟨_, rfl, ?_⟩; refine ⟨_, rfl, ?_⟩; (first | refine ⟨_, _, rfl, rfl, (by omega), ?_⟩ | refine Or.inl ⟨_, _, rfl, rfl, (by omega), ?_⟩); refine Or.inl ⟨_, _, _, _, rfl, rfl, SqL.of (s5 _ _ c4), hv, ?_⟩; refine ⟨_, rfl, ?_⟩; (first | refine Or.inl ⟨_, _, rfl, rfl, ?_⟩ | refine ⟨_, _, rfl, rfl, ?_⟩)
    refine ⟨_, rfl, ?_⟩; refine ⟨_, rfl, ?_⟩; (first | refine ⟨_, _, rfl, rfl, (by omega), ?_⟩ | refine Or.inl ⟨_, _, rfl, rfl, (by omega), ?_⟩)
    refine ⟨_, _, _, _, rfl, rfl, s5 _ _ c4, ixN_of f.1 (by rw [List.length_map]; omega), fun H6 b6 e6 => ?_⟩
    refine ⟨_, _, _, rfl, fun b o e => ?_, b6 _ _ (Ne.symm l23) (s5 _ _ e4), by rw [e6, ← List.map_set], by rw [List.length_set]; exact hc⟩
    exact b6 _ _ (ne_of_none e n2') (s5 _ _ (s4 _ _ e))
  · obtain ⟨cs, kv, cv, rfl, s4, e4, c4, hc⟩ := p
    refine ⟨_, rfl, ?_⟩
    refine ⟨szS, fun p H5 n5 s5 e5 => ?_⟩
    refine q p l2 H5 (s4.free n5) n2' (s4.trans s5) ⟨cs, 0, 0, e5, s5 _ _ c4, by rw [hc, List.length_take]; omega, by omega, ne_of_none c4 n5⟩
end
end Kx

namespace Kx
open PySem PySem.Spec PyProof.Rows L2 Fo
section
variable {P : Program} {w : World} {K : PySem.W.Frag} {mg : Str → Option Value} {base : Heap}
def sp_signs (K : PySem.W.Frag) : Sp := fun vs H Q _ => ∃ (p c : Addr) (n m : Nat), vs = [.ref p, .int m] ∧ Pen H p c (n + m) ∧ m ≤ 60 ∧
  ∀ H' t, But p H H' → Pen H' p c n → Sgs t m → Q (.str (tx t)) H'
theorem ok_signs (T : Top K mg) : FnOk P w K mg base CX0 3 T.f__law_some_signs T.fd__law_some_signs ["pen", "amount"] (sp_signs K) := by
  have G__law_take := ok_take (P := P) (w := w) (base := base) T
  refine T.F__law_some_signs.ok sc__law_some_signs (fun vs H Q E h => ?_) (fun cdv A outer s H vs Q E hr h => ?_)
  · obtain ⟨p, c, n, m, rfl, _⟩ := h
    rfl
  obtain ⟨p, c, n, m, rfl, hp, hm, q⟩ := h
  refine ⟨_, (pss_cons (ps_set (i := 2) sc__law_some_signs.nd rfl (Or.inl rfl) pe_str)
    (pss_cons (ps_set (i := 3) sc__law_some_signs.nd rfl (Or.inr rfl) (pe_callTy (kList K rfl rfl) (by rfl) T.m_list (by decide +kernel) (pa_cons (pv 2) pa_nil)))
    (pss_one (ps_ret (kJoin K rfl pe_str (pe_callB (kSorted K rfl) (by rfl) T.m_sorted (by decide +kernel) (pa_cons (pe_lc (own := [("k", 4)]) (tt := tYes) rfl sc__law_some_signs.nd (pi_range1 rfl T.m_range (pa_cons (pv 1) pa_nil)) (blkOk_by (N := ["pen", "amount", "pool", "left", "k"]) (sc := defScope s__law_some_signs) (by decide +kernel)) (fun _ _ _ _ _ => (pg_name (i := 4) sc__law_some_signs.nd rfl (Or.inl rfl))) (fun _ _ _ _ _ => pts_nil) (fun _ _ _ _ _ => (kBm K rfl (pe_bm PySem.F.plainAttrs_list PySem.F.slot_list_pop PySem.F.type_list_pop mt_popN (pv 3) (pa_cons (pe_call G__law_take (hr.mono (by first | decide | omega)) (by rfl) T.g__law_take T.F__law_take.kp T.b__law_take .nil pass0 (pa_cons (pv 0) (pa_cons (pe_callB (kLen K rfl) (by rfl) T.m_len PySem.boot_len (pa_cons (pv 3) pa_nil)) pa_nil))) pa_nil))))) pa_nil))))))), ?_⟩
  refine ⟨_, rfl, ?_⟩
  refine Or.inr ⟨_, rfl, szS, fun l H1 n1 s1 e1 => ?_⟩
  have e1' : H1 l = some (.lst (sgs poolL)) := e1.trans (congrArg (fun l : Cs => some (HO.lst (sgs l))) (show _ = poolL by decide +kernel))
  have p1 := hp.same s1
  refine ⟨⟨_, rfl⟩, ?_⟩
  refine ⟨_, rfl, ?_⟩
  refine ⟨m, rfl, by omega, by omega, fun D hD => ?_⟩
  have dn := p1.ne hD
  have dl := hp.ne n1
  have lD : l ≠ D := ne_of_none e1 hD
  rw [show (m : Int).toNat = m by omega]
  refine lcN0 walk_range hD (fun i acc H' => But p H H' ∧ Pen H' p c (n + m - i) ∧ ∃ t rest : Cs, t.length = i ∧ (t ++ rest).Perm poolL ∧ acc = sgs t ∧ H' l = some (.lst (sgs rest)))
    (fun H2 s2 e2 => ⟨same_but p (s1.trans s2), p1.same s2, [], poolL, rfl, List.Perm.refl _, rfl, s2 _ _ e1'⟩) (fun _ _ _ _ _ => trivial) (fun i x acc H2 H3 hi hl pv eD y => ?_) (fun acc H2 hl pv eD => ?_)
  · obtain ⟨b2, p2, t, rest, tl, hperm, rfl, el⟩ := pv
    obtain ⟨rfl, rfl⟩ := y
    have hlen := hperm.length_eq
    rw [List.length_append, poolL_len] at hlen
    refine ⟨rfl, ?_⟩
    refine ⟨_, rfl, ?_⟩
    refine ⟨.inl ⟨rfl, _, SqL.of el⟩, ?_⟩
    refine ⟨_, rfl, ?_⟩; refine ⟨_, rfl, ?_⟩
    refine ⟨_, _, rfl, .inl ⟨_, SqL.of el, rfl⟩, ?_⟩
    have hsl : (sgs rest).length = rest.length := by unfold sgs; rw [List.length_map]
    refine ⟨p, c, n + m - i - 1, ((sgs rest).length : Int), rfl, by rw [show n + m - i - 1 + 1 = n + m - i by omega]; exact p2, by omega, by omega, fun H4 r b4 p4 r0 r1 => ?_⟩
    rw [hsl] at r1
    have e4l := b4 _ _ (Ne.symm dl.1) el
    have e4D := b4 _ _ (Ne.symm dn.1) eD
    have hk : r.toNat < rest.length := by omega
    have hg : rest[r.toNat]? = some (rest[r.toNat]'hk) := List.getElem?_eq_getElem hk
    generalize rest[r.toNat]'hk = k at hg
    refine ⟨l, _, r, r.toNat, .str ⟨#[k]⟩, rfl, rfl, e4l, by omega, by omega, (ixN_seq (ixN_of r0 (by omega))).1, by unfold sgs; rw [List.getElem?_map, hg]; rfl, fun H5 b5 e5 => ?_⟩
    refine lcNext (b5 _ _ (Ne.symm lD) e4D) hl (by omega) (fun H6 b6 e6 => ⟨?_, ?_, t ++ [k], rest.eraseIdx r.toNat, by rw [List.length_append, tl]; rfl, ?_, sgs_app t k, ?_⟩)
    · exact But.chg (But.chg (b2.trans b4) (But.refl p H) n1 b5) (same_but p s1) hD b6
    · exact ((p4.chg dl b5).chg dn b6).less (by omega)
    · rw [List.append_assoc]
      exact (List.Perm.append_left t (erase_perm hg)).trans hperm
    · rw [b6 _ _ lD e5]
      unfold sgs
      rw [erase_map]
  · obtain ⟨b2, p2, t, rest, tl, hperm, rfl, el⟩ := pv
    have hsg : sgs t = (t.map one).map V.str := by
      unfold sgs
      rw [List.map_map]
      rfl
    rw [hsg] at eD
    refine ⟨_, t.map one, rfl, SqL.of eD, by rw [List.length_map]; omega, fun ys hy hs q2 H3 n3 s3 e3 => ?_⟩
    obtain ⟨u, rfl, hu⟩ := one_of hy
    have S := sgs_of hperm tl hu hs
    have eu : u.map one = (u.map fun c => [c]).map tx := by
      rw [List.map_map]
      rfl
    rw [eu] at e3
    refine ⟨_, _, _, rfl, rfl, .inl (SqL.of e3), ?_, ?_⟩
    · rw [flat_len, flat_ones, S.len]
      show _ + _ * 0 ≤ _
      omega
    · rw [join_tx, flat_ones]
      exact q _ _ (b2.trans (same_but p s3)) ((p2.same s3).less (by omega)) S
end
end Kx

namespace Kx
open PySem PySem.Spec PyProof.Rows L2 Fo
section
variable {P : Program} {w : World} {K : PySem.W.Frag} {mg : Str → Option Value} {base : Heap}
def sp_text (K : PySem.W.Frag) : Sp := fun vs H Q _ => ∃ (p c : Addr) (n : Nat) (g : Cs) (most : Nat), vs = [.ref p, .str (tx g), .int most] ∧ Pen H p c (n + most + 1) ∧ g ≠ [] ∧ g.length ≤ 1000 ∧ most ≤ 1000 ∧
  ∀ H' t, But p H H' → Pen H' p c n → t.length ≤ most → (∀ c ∈ t, c ∈ g) → Q (.str (tx t)) H'
theorem ok_text (T : Top K mg) : FnOk P w K mg base CX0 3 T.f__law_some_text T.fd__law_some_text ["pen", "signs", "most"] (sp_text K) := by
  have G__law_take := ok_take (P := P) (w := w) (base := base) T
  refine T.F__law_some_text.ok sc__law_some_text (fun vs H Q E h => ?_) (fun cdv A outer s H vs Q E hr h => ?_)
  · obtain ⟨p, c, n, g, m, rfl, _⟩ := h
    rfl
  obtain ⟨p, c, n, g, most, rfl, hp, g0, gl, hm, q⟩ := h
  refine ⟨_, (pss_one (ps_ret (kJoin K rfl pe_str (pe_lc (own := [("k", 3)]) (tt := tYes) rfl sc__law_some_text.nd (pi_range1 rfl T.m_range (pa_cons (pe_call G__law_take (hr.mono (by first | decide | omega)) (by rfl) T.g__law_take T.F__law_take.kp T.b__law_take .nil pass0 (pa_cons (pv 0) (pa_cons (pe_op op_addG (pv 2) pe_int) pa_nil))) pa_nil)) (blkOk_by (N := ["pen", "signs", "most", "k"]) (sc := defScope s__law_some_text) (by decide +kernel)) (fun _ _ _ _ _ => (pg_name (i := 3) sc__law_some_text.nd rfl (Or.inl rfl))) (fun _ _ _ _ _ => pts_nil) (fun _ _ _ _ _ => (pe_ix (kIx K rfl) (pv 1) (pe_call G__law_take (hr.mono (by first | decide | omega)) (by rfl) T.g__law_take T.F__law_take.kp T.b__law_take .nil pass0 (pa_cons (pv 0) (pa_cons (pe_callB (kLen K rfl) (by rfl) T.m_len PySem.boot_len (pa_cons (pv 1) pa_nil)) pa_nil))) (fun _ _ => rfl))))))), ?_⟩
  refine ⟨⟨_, rfl⟩, ?_⟩
  refine ⟨_, rfl, ?_⟩; refine ⟨_, rfl, ?_⟩; (first | refine Or.inl ⟨_, _, rfl, rfl, ?_⟩ | refine ⟨_, _, rfl, rfl, ?_⟩)
  refine ⟨p, c, n + most, (most : Int) + 1, rfl, hp, by omega, by omega, fun H1 m b1 p1 m0 m1 => ?_⟩
  refine ⟨m, rfl, by omega, by omega, fun D hD => ?_⟩
  have dn := p1.ne hD
  refine lcN0 walk_range hD (fun i acc H' => But p H H' ∧ Pen H' p c (n + most - i) ∧ ∃ t : Cs, t.length = i ∧ (∀ c ∈ t, c ∈ g) ∧ acc = sgs t) (fun H2 s2 e2 => ⟨b1.trans (same_but p s2), p1.same s2, [], rfl, (fun _ h => nomatch h), rfl⟩) (fun _ _ _ _ _ => trivial) (fun i x acc H2 H3 hi hl pv eD y => ?_) (fun acc H2 hl pv eD => ?_)
  · obtain ⟨b2, p2, t, tl, ts, rfl⟩ := pv
    obtain ⟨rfl, rfl⟩ := y
    refine ⟨rfl, ?_⟩
    refine ⟨_, rfl, ?_⟩; refine ⟨_, rfl, ?_⟩; refine ⟨_, rfl, ?_⟩
    refine ⟨_, _, rfl, ⟨by rw [tx_len, sizeLine_eq]; omega, rfl⟩, ?_⟩
    refine ⟨p, c, n + most - i - 1, ((tx g).length : Int), rfl, by rw [show n + most - i - 1 + 1 = n + most - i by omega]; exact p2, ?_, ?_, fun H4 r b4 p4 r0 r1 => ?_⟩
    · rw [tx_len]
      have := List.length_pos_iff.mpr g0
      omega
    · rw [tx_len]
      omega
    rw [tx_len] at r1
    obtain ⟨k, hk, mk⟩ := at_of (xs := (tx g).cps.toList) (i := r) r0 (by show r < ((TL.tl (tx g)).length : Int); exact r1)
    refine Or.inr (Or.inr ⟨_, _, _, rfl, rfl, (by rw [tx_len, sizeLine_eq]; omega), hk, ?_⟩)
    refine lcNext (b4 _ _ (Ne.symm dn.1) eD) hl (by omega) (fun H5 b5 e5 => ⟨(b2.trans b4).chg b1 hD b5, p4.chg dn b5 |>.less (by omega), t ++ [k], by rw [List.length_append, tl]; rfl, fun x hx => ?_, sgs_app t k⟩)
    rcases List.mem_append.mp hx with h | h
    · exact ts x h
    · rw [List.mem_singleton.mp h]
      exact mk
  · obtain ⟨b2, p2, t, tl, ts, rfl⟩ := pv
    rw [sgs_ones] at eD
    have ef := flat_ones t
    refine ⟨_, _, _, rfl, rfl, .inl (SqL.of eD), ?_, ?_⟩
    · rw [flat_len, ef, tl]
      show _ + _ * 0 ≤ _
      omega
    · rw [join_tx, ef]
      exact q _ _ b2 (p2.less (by omega)) (by omega) ts
end
end Kx

namespace Kx
open PySem PySem.Spec PyProof.Rows L2 Fo
section
variable {P : Program} {w : World} {K : PySem.W.Frag} {mg : Str → Option Value} {base : Heap}
def costR (R size most : Nat) : Nat := 2 + size * (R * (most + 3) + 3)
def sp_any (K : PySem.W.Frag) : Sp := fun vs H Q _ => ∃ (p c : Addr) (n : Nat) (reads tells : Cs) (size most : Nat), vs = [.ref p, .str (tx reads), .str (tx tells), .int size, .int most] ∧ Pen H p c (n + costR reads.length size most) ∧ tells ≠ [] ∧ tells.length ≤ 1000 ∧ reads.length ≤ 1000 ∧ 1 ≤ size ∧ size ≤ 1000 ∧ 1 ≤ most ∧ most ≤ 1000 ∧
  ∀ x H' (r : Rdr), But p H H' → Pen H' p c n → Tv H' x (dR r) → r.reads = reads → r.tells = tells → r.states.length ≤ size → r.Val most 1 → Q x H'
theorem ok_any (T : Top K mg) : FnOk P w K mg base CX0 4 T.f__law_any_reader T.fd__law_any_reader ["pen", "reads", "tells", "size", "most"] (sp_any K) := by
  have G__law_take := ok_take (P := P) (w := w) (base := base) T
  have G__law_some_text := ok_text (P := P) (w := w) (base := base) T
  refine T.F__law_any_reader.ok sc__law_any_reader (fun vs H Q E h => ?_) (fun cdv A outer s H vs Q E hr h => ?_)
  · obtain ⟨p, c, n, reads, tells, size, most, rfl, _⟩ := h
    rfl
  obtain ⟨p, c, n, reads, tells, size, most, rfl, hp, t0, tl, rl, sz0, sz, mo0, mo, q⟩ := h
  unfold costR at hp
  generalize hC : reads.length * (most + 3) + 3 = C at hp
  refine ⟨_, (pss_cons (ps_par (i := 5) (j := 6) rfl sc__law_any_reader.nd rfl rfl (by decide) rfl rfl (pa_cons (pe_op op_addG pe_int (pe_call G__law_take (hr.mono (by first | decide | omega)) (by rfl) T.g__law_take T.F__law_take.kp T.b__law_take .nil pass0 (pa_cons (pv 0) (pa_cons (pv 3) pa_nil)))) (pa_cons (pe_cmpR (kEq K rfl hr.units) (pe_call G__law_take (hr.mono (by first | decide | omega)) (by rfl) T.g__law_take T.F__law_take.kp T.b__law_take .nil pass0 (pa_cons (pv 0) (pa_cons pe_int pa_nil))) pe_int (nomark _)) pa_nil)) rfl)
    (pss_cons (ps_set (i := 7) sc__law_any_reader.nd rfl (Or.inl rfl) (pe_lstN pa_nil))
    (pss_cons (ps_for PassesOwn.never rfl (pi_range1 rfl T.m_range (pa_cons (pv 5) pa_nil)) (pg_name (i := 8) sc__law_any_reader.nd rfl (Or.inl rfl)) (pss_cons (ps_set (i := 9) sc__law_any_reader.nd rfl (Or.inl rfl) (pe_lstN pa_nil))
    (pss_cons (ps_for PassesOwn.never rfl (kG K rfl (pv 1)) (pg_name (i := 10) sc__law_any_reader.nd rfl (Or.inl rfl)) (pss_cons (ps_set (i := 11) sc__law_any_reader.nd rfl (Or.inl rfl) (pe_call G__law_some_text (hr.mono (by first | decide | omega)) (by rfl) T.g__law_some_text T.F__law_some_text.kp T.b__law_some_text .nil pass0 (pa_cons (pv 0) (pa_cons (pv 2) (pa_cons (pv 4) pa_nil)))))
    (pss_cons (ps_if (PW.pt (pw_and (pt_val (pv 6)) (pw_and (pt_cmpR (kIn K rfl) (pv 10) (pv 2) rfl) (pw_and1 (pt_cmpR op_gtG (pe_call G__law_take (hr.mono (by first | decide | omega)) (by rfl) T.g__law_take T.F__law_take.kp T.b__law_take .nil pass0 (pa_cons (pv 0) (pa_cons pe_int pa_nil))) pe_int (nomark _)))))) (pss_one (ps_set (i := 11) sc__law_any_reader.nd rfl (Or.inl rfl) (pv 10))) pss_nil)
    (pss_one (ps_expr (kBm K rfl (pe_bm PySem.F.plainAttrs_list PySem.F.slot_list_append PySem.F.type_list_append mt_appN (pv 9) (pa_cons (pe_tupN (pa_cons (pe_call G__law_take (hr.mono (by first | decide | omega)) (by rfl) T.g__law_take T.F__law_take.kp T.b__law_take .nil pass0 (pa_cons (pv 0) (pa_cons (pv 5) pa_nil))) (pa_cons (pv 11) pa_nil))) pa_nil))))))))
    (pss_cons (ps_set (i := 12) sc__law_any_reader.nd rfl (Or.inl rfl) (pe_ix (kIx K rfl) (pe_lstN (pa_cons (pe_call G__law_some_text (hr.mono (by first | decide | omega)) (by rfl) T.g__law_some_text T.F__law_some_text.kp T.b__law_some_text .nil pass0 (pa_cons (pv 0) (pa_cons (pv 2) (pa_cons pe_int pa_nil)))) (pa_cons pe_str (pa_cons pe_str (pa_cons pe_non pa_nil))))) (pe_callB (call_min2 rfl) (by rfl) T.m_min (by decide +kernel) (pa_cons pe_int (pa_cons (pe_call G__law_take (hr.mono (by first | decide | omega)) (by rfl) T.g__law_take T.F__law_take.kp T.b__law_take .nil pass0 (pa_cons (pv 0) (pa_cons pe_int pa_nil))) pa_nil))) (fun _ _ => rfl)))
    (pss_one (ps_expr (kBm K rfl (pe_bm PySem.F.plainAttrs_list PySem.F.slot_list_append PySem.F.type_list_append mt_appN (pv 7) (pa_cons (pe_tupN (pa_cons (pe_callTy (kTuple K rfl) (by rfl) T.m_tuple (by decide +kernel) (pa_cons (pv 9) pa_nil)) (pa_cons (pv 12) pa_nil))) pa_nil)))))))))
    (pss_one (ps_ret (pe_tupN (pa_cons (pv 1) (pa_cons (pv 2) (pa_cons (pe_callTy (kTuple K rfl) (by rfl) T.m_tuple (by decide +kernel) (pa_cons (pv 7) pa_nil)) pa_nil))))))))), ?_⟩
  refine ⟨_, rfl, ?_⟩; refine ⟨_, rfl, ?_⟩
  refine ⟨p, c, n + 1 + size * C, size, rfl, by rw [show n + 1 + size * C + 1 = n + (2 + size * C) by omega]; exact hp, by omega, by omega, fun H1 m b1 p1 m0 m1 => ?_⟩
  (first | refine Or.inl ⟨_, _, rfl, rfl, ?_⟩ | refine ⟨_, _, rfl, rfl, ?_⟩)
  refine ⟨_, rfl, ?_⟩
  refine ⟨p, c, n + size * C, 2, rfl, by rw [show n + size * C + 1 = n + 1 + size * C by omega]; exact p1, by omega, by omega, fun H2 cp b2 p2 _ _ => ?_⟩
  refine Or.inl ⟨rfl, _, _, rfl, ?_⟩
  generalize decide (V.int cp = V.int 0) = copies
  have b02 := b1.trans b2
  obtain ⟨N, rfl⟩ : ∃ N : Nat, m = (N : Int) := ⟨m.toNat, by omega⟩
  have hNs : N + 1 ≤ size := by omega
  have p2' : Pen H2 p c (n + (N + 1) * C) := p2.less (Nat.add_le_add_left (Nat.mul_le_mul_right _ hNs) _)
  refine ⟨szS, fun l H3 n3 s3 e3 => ?_⟩
  have b03 := b02.trans (same_but p s3)
  have dl := p2.ne n3
  refine ⟨_, rfl, ?_⟩
  refine ⟨1 + (N : Int), rfl, by omega, by omega, ?_⟩
  rw [show (1 + (N : Int)).toNat = N + 1 by omega]
  refine for_it walk_range (fun k σ H' => ∃ (S : List Sta) (vs : List V) (y8 y9 y10 y11 y12 : Option V), σ = [some (.ref p), some (.str (tx reads)), some (.str (tx tells)), some (.int size), some (.int most), some (.int (1 + (N : Int))), some (.bl copies), some (.ref l), y8, y9, y10, y11, y12] ∧
    But p H H' ∧ Pen H' p c (n + (N + 1 - k) * C) ∧ H' l = some (.lst vs) ∧ TvA H' vs (S.map dS) ∧ S.length = k ∧ ∀ s ∈ S, StaVal reads.length (N + 1) most 1 tells s)
    ⟨[], [], none, none, none, none, none, rfl, b03, p2'.same s3, e3, .nil, rfl, (fun _ h => nomatch h)⟩ (fun _ _ _ _ _ => trivial) (fun k x σ H4 H5 hk pv y => ?_) (fun σ H4 pv => ?_)
  · obtain ⟨S, vs, y8, y9, y10, y11, y12, rfl, b4, p4, e4, t4, hS, vS⟩ := pv
    obtain ⟨rfl, rfl⟩ := y
    rw [succ_cost hk] at p4
    generalize hrest : n + (N + 1 - (k + 1)) * C = rest at p4
    rw [show n + ((N + 1 - (k + 1)) * C + C) = rest + C by omega] at p4
    refine ⟨szS, fun l2 H6 n6 s6 e6 => ?_⟩
    have dl2 := p4.ne n6
    have l12 : l ≠ l2 := ne_of_none e4 n6
    refine Or.inr (Or.inr ⟨_, rfl, _, rfl, ?_⟩)
    refine for_it (walk_str (z := tx reads)) (fun j σ H' => ∃ (W : List (Nat × Cs)) (ws : List V) (y10 y11 y12 : Option V), σ = [some (.ref p), some (.str (tx reads)), some (.str (tx tells)), some (.int size), some (.int most), some (.int (1 + (N : Int))), some (.bl copies), some (.ref l), some (.int (0 + (k : Int))), some (.ref l2), y10, y11, y12] ∧
      But p H H' ∧ Pen H' p c (rest + 3 + (reads.length - j) * (most + 3)) ∧ H' l = some (.lst vs) ∧ TvA H' vs (S.map dS) ∧ H' l2 = some (.lst ws) ∧ TvA H' ws (W.map dW) ∧ W.length = j ∧ ∀ w ∈ W, w.1 < N + 1 ∧ w.2.length ≤ most ∧ ∀ c ∈ w.2, c ∈ tells)
      ⟨[], [], y10, y11, y12, rfl, b4.trans (same_but p s6), by rw [show rest + 3 + (reads.length - 0) * (most + 3) = rest + C by rw [Nat.sub_zero]; omega]; exact p4.same s6, s6 _ _ e4, t4.mv (same_ts s6), e6, .nil, rfl, (fun _ h => nomatch h)⟩ (fun _ _ _ _ _ => trivial) (fun j x σ H7 H8 hj pv y => ?_) (fun σ H7 pv => ?_)
    · obtain ⟨W, ws, y10, y11, y12, rfl, b7, p7, e7, t7, f7, u7, hW, vW⟩ := pv
      obtain ⟨rfl, ch, hch, rfl⟩ := y
      rw [tx_size] at hj
      rw [succ_cost hj] at p7
      generalize hr2 : rest + 3 + (reads.length - (j + 1)) * (most + 3) = rest2 at p7
      rw [show rest + 3 + ((reads.length - (j + 1)) * (most + 3) + (most + 3)) = rest2 + 2 + most + 1 by omega] at p7
      refine ⟨_, rfl, ?_⟩; refine ⟨_, rfl, ?_⟩; refine ⟨_, rfl, ?_⟩
      refine ⟨p, c, rest2 + 2, tells, most, rfl, p7, t0, tl, mo, fun H9 t b9 p9 tlen tsub => ?_⟩
      have t9 := p7.ts b9
      -- the end of a turn
      have fin : ∀ (H' : Hp) (u : Cs) (D : Ends), But p H H' → Pen H' p c (rest2 + 1) → H' l = some (.lst vs) → TvA H' vs (S.map dS) → H' l2 = some (.lst ws) → TvA H' ws (W.map dW) → u.length ≤ most → (∀ c ∈ u, c ∈ tells) →
          (∀ σ' H'', (∃ (W : List (Nat × Cs)) (ws : List V) (y10 y11 y12 : Option V), σ' = [some (.ref p), some (.str (tx reads)), some (.str (tx tells)), some (.int size), some (.int most), some (.int (1 + (N : Int))), some (.bl copies), some (.ref l), some (.int (0 + (k : Int))), some (.ref l2), y10, y11, y12] ∧
            But p H H'' ∧ Pen H'' p c rest2 ∧ H'' l = some (.lst vs) ∧ TvA H'' vs (S.map dS) ∧ H'' l2 = some (.lst ws) ∧ TvA H'' ws (W.map dW) ∧ W.length = j + 1 ∧ ∀ w ∈ W, w.1 < N + 1 ∧ w.2.length ≤ most ∧ ∀ c ∈ w.2, c ∈ tells) → D.nx σ' H'') →
          tDrop (tBM K "list" rAppN (tVar 9) (tCons (tTupN (tCons (tCall (sp_take K) [] E0 (tCons (tVar 0) (tCons (tVar 5) tNil))) (tCons (tVar 11) tNil))) tNil)) D
            [some (.ref p), some (.str (tx reads)), some (.str (tx tells)), some (.int size), some (.int most), some (.int (1 + (N : Int))), some (.bl copies), some (.ref l), some (.int (0 + (k : Int))), some (.ref l2), some (.str ⟨#[ch]⟩), some (.str (tx u)), y12] H' := by
        intro Ha u D ba pa ea ta fa ua hu1 hu2 hD
        refine ⟨_, rfl, .inl ⟨rfl, _, SqL.of fa⟩, ?_⟩
        refine ⟨_, rfl, ?_⟩; refine ⟨_, rfl, ?_⟩
        refine ⟨p, c, rest2, 1 + (N : Int), rfl, pa, by omega, by omega, fun Hb r bb pb r0 r1 => ?_⟩
        refine ⟨_, rfl, ?_⟩
        refine ⟨szS, fun a Hc nc sc ec => ?_⟩
        have tb := (pa.ts bb).trans (same_ts sc)
        have eb := sc _ _ (bb _ _ (Ne.symm dl2.1) fa)
        have hwl := ua.len
        rw [List.length_map, hW] at hwl
        refine ⟨l2, _, _, rfl, rfl, eb, by rw [sizeLine_eq]; omega, fun Hd bd ed => ?_⟩
        have td : TS Hc Hd := bd.ts eb
        obtain ⟨rn, rfl⟩ : ∃ rn : Nat, r = (rn : Int) := ⟨r.toNat, by omega⟩
        refine hD _ _ ⟨W ++ [(rn, u)], _, _, _, _, rfl, ?_, ?_, bd _ _ l12 (sc _ _ (bb _ _ (Ne.symm dl.1) ea)), ta.mv (tb.trans td), ed, ?_, by rw [List.length_append, hW]; rfl, fun w hw => ?_⟩
        · exact ((ba.trans bb).trans (same_but p sc)).chg b4 n6 bd
        · exact (pb.same sc).chg dl2 bd
        · rw [List.map_append]
          exact (ua.mv (tb.trans td)).snoc (Tv.mkW (td _ _ ec))
        · rcases List.mem_append.mp hw with h | h
          · exact vW w h
          · rw [List.mem_singleton.mp h]
            exact ⟨by show rn < N + 1; omega, hu1, hu2⟩
      have b09 := b7.trans b9
      have el9 := b9 _ _ (Ne.symm dl.1) e7
      have fl9 := b9 _ _ (Ne.symm dl2.1) f7
      have ta9 := t7.mv t9
      have ua9 := u7.mv t9
      have plain := fun D => fin H9 t D b09 (p9.less (by omega)) el9 ta9 fl9 ua9 tlen tsub
      refine ⟨_, rfl, ?_⟩; refine ⟨_, rfl, ?_⟩
      refine ite2 (fun _ => ?_) (fun _ => ?_)
      · refine ⟨_, rfl, ?_⟩; refine ⟨_, rfl, ?_⟩
        refine Or.inl ⟨ch, _, rfl, rfl, ?_⟩
        refine ⟨_, rfl, ?_⟩
        refine ite2 (fun hin => ?_) (fun _ => ?_)
        · refine ⟨_, rfl, ?_⟩
          refine ⟨p, c, rest2 + 1, 3, rfl, p9, by omega, by omega, fun Ha r ba pa r0 r1 => ?_⟩
          have ta := p9.ts ba
          (first | refine Or.inl ⟨_, _, rfl, rfl, ?_⟩ | refine ⟨_, _, rfl, rfl, ?_⟩); refine ⟨_, rfl, ?_⟩
          refine ite2 (fun _ => ?_) (fun _ => ?_)
          · refine ⟨_, rfl, ?_⟩
            exact fin Ha [ch] _ (b09.trans ba) pa (ba _ _ (Ne.symm dl.1) el9) (ta9.mv ta) (ba _ _ (Ne.symm dl2.1) fl9) (ua9.mv ta) mo0 (fun x hx => by rw [List.mem_singleton.mp hx]; exact of_decide_eq_true hin) (fun _ _ h => h)
          · exact fin Ha t _ (b09.trans ba) pa (ba _ _ (Ne.symm dl.1) el9) (ta9.mv ta) (ba _ _ (Ne.symm dl2.1) fl9) (ua9.mv ta) tlen tsub (fun _ _ h => h)
        · exact iteF (plain _ (fun _ _ h => h))
      · exact iteF (plain _ (fun _ _ h => h))
    · obtain ⟨W, ws, y10, y11, y12, rfl, b7, p7, e7, t7, f7, u7, hW, vW⟩ := pv
      rw [tx_size] at p7 hW
      rw [Nat.sub_self, Nat.zero_mul, Nat.add_zero] at p7
      refine ⟨_, rfl, ?_⟩; refine ⟨_, rfl, ?_⟩
      refine ⟨p, c, rest + 1, tells, 1, rfl, p7, t0, tl, by omega, fun H9 t b9 p9 tlen tsub => ?_⟩
      have t9 := p7.ts b9
      refine ⟨szS, fun l3 Ha na sa ea => ?_⟩
      have dl3 := p9.ne na
      refine ⟨_, rfl, ?_⟩
      refine ⟨p, c, rest, 5, rfl, p9.same sa, by omega, by omega, fun Hb r bb pb r0 r1 => ?_⟩
      have tb := (t9.trans (same_ts sa)).trans ((p9.same sa).ts bb)
      have b0b := ((b7.trans b9).trans (same_but p sa)).trans bb
      refine ⟨_, _, rfl, ?_⟩
      obtain ⟨v, hv, mv⟩ := at_of (xs := [V.str (tx t), V.str (("" : String) : Str), V.str (("" : String) : Str), V.non]) (min_in r0).1 (min_in r0).2
      refine Or.inl ⟨_, _, _, _, rfl, rfl, SqL.of (bb _ _ (Ne.symm dl3.1) ea), hv, ?_⟩
      obtain ⟨f, hf, vf⟩ := end_of (H := Hb) mv tlen tsub
      refine ⟨_, rfl, .inl ⟨rfl, _, SqL.of (bb _ _ (Ne.symm dl.1) (sa _ _ (b9 _ _ (Ne.symm dl.1) e7)))⟩, ?_⟩
      refine ⟨_, rfl, ?_⟩
      refine ⟨_, _, rfl, .inl ⟨SqL.of (bb _ _ (Ne.symm dl2.1) (sa _ _ (b9 _ _ (Ne.symm dl2.1) f7))), fun a Hc nc sc ec => ?_⟩⟩
      refine ⟨_, rfl, ?_⟩
      refine ⟨szS, fun b Hd nd sd ed => ?_⟩
      have scd := sc.trans sd
      have hvl := t7.len
      rw [List.length_map, hS] at hvl
      have eld := scd _ _ (bb _ _ (Ne.symm dl.1) (sa _ _ (b9 _ _ (Ne.symm dl.1) e7)))
      refine ⟨l, _, _, rfl, rfl, eld, by rw [sizeLine_eq]; omega, fun He be ee => ?_⟩
      have te : TS Hd He := be.ts eld
      have tall := (tb.trans (same_ts scd)).trans te
      refine ⟨S ++ [⟨W, f⟩], _, _, _, _, _, _, rfl, (b0b.trans (same_but p scd)).chg (b02.trans (But.refl p _)) n3 be, (pb.same scd).chg dl be, ee, ?_, by rw [List.length_append, hS]; rfl, fun s hs => ?_⟩
      · rw [List.map_append]
        refine (t7.mv tall).snoc (.tup (te _ _ ed) (.cons (.tup (te _ _ (sd _ _ ec)) (u7.mv tall)) (.cons ((hf.mv (same_ts scd)).mv te) .nil)))
      · rcases List.mem_append.mp hs with h | h
        · exact vS s h
        · rw [List.mem_singleton.mp h]
          exact ⟨hW, vW, vf⟩
  · obtain ⟨S, vs, y8, y9, y10, y11, y12, rfl, b4, p4, e4, t4, hS, vS⟩ := pv
    refine ⟨_, rfl, ?_⟩; refine ⟨_, rfl, ?_⟩; refine ⟨_, rfl, ?_⟩
    refine ⟨_, _, rfl, .inl ⟨SqL.of e4, fun a H5 n5 s5 e5 => ?_⟩⟩
    refine ⟨szS, fun b H6 n6 s6 e6 => ?_⟩
    have s56 := s5.trans s6
    refine q _ _ ⟨reads, tells, S⟩ (b4.trans (same_but p s56)) ((p4.same s56).less (by omega)) ?_ rfl rfl (by show S.length ≤ size; omega) ⟨by show 0 < S.length; omega, fun s hs => ?_⟩
    · exact .tup e6 (.cons (.str _) (.cons (.str _) (.cons (.tup (s6 _ _ e5) (t4.mv (same_ts s56))) .nil)))
    · have := vS s hs
      rw [← hS] at this
      exact this
end
end Kx

namespace Fo
open PySem PySem.Spec PyProof.Rows L2 TL
/-! ### rows of readers -/
theorem StaVal.mono {R N B E B' E' : Nat} {T : Cs} {s : Sta} (v : StaVal R N B E T s) (hB : B ≤ B') (hE : E ≤ E') : StaVal R N B' E' T s :=
  ⟨v.len, fun w hw => let z := v.way w hw; ⟨z.1, Nat.le_trans z.2.1 hB, z.2.2⟩, fun t ht => let z := v.fin t ht; ⟨Nat.le_trans z.1 hE, z.2⟩⟩
theorem Rdr.Val.mono {r : Rdr} {B E B' E' : Nat} (v : r.Val B E) (hB : B ≤ B') (hE : E ≤ E') : r.Val B' E' :=
  ⟨v.ne, fun s hs => (v.sta s hs).mono hB hE⟩
/-- what a reader tells by its ways is of the signs told -/
theorem Rdr.Val.told {r : Rdr} {B E : Nat} (v : r.Val B E) : ∀ (l : Cs) (s : Nat), s < r.states.length → (∀ c ∈ l, c ∈ r.reads) → ∀ c ∈ (r.run s l).2, c ∈ r.tells
  | [], s, _, _, c, hc => nomatch hc
  | a :: l, s, h, hl, c, hc => by
    have o := v.ok (M := max B E) (Nat.le_max_left _ _) (Nat.le_max_right _ _)
    have g := Rdr.go_ok o h (hl a (List.mem_cons_self ..))
    rcases List.mem_append.mp (show c ∈ (r.go s a).2 ++ (r.run (r.go s a).1 l).2 from hc) with h1 | h1
    · exact ((v.sta _ (Rdr.sta_mem h)).way _ (List.mem_of_getElem? (Rdr.go_at o h (hl a (List.mem_cons_self ..))))).2.2 c h1
    · exact Rdr.Val.told v l _ g.1 (fun x hx => hl x (List.mem_cons_of_mem _ hx)) c h1
def dRow (rs : List Rdr) : PyData := .tuple (rs.map dR)
def dSeats (ss : List Nat) : PyData := .tuple (ss.map fun s : Nat => PyData.int (s : Int))
/-- a row as the document has it, three readers at most, texts told at most 3 -/
structure Row (rs : List Rdr) : Prop where
  ne : 0 < rs.length
  few : rs.length ≤ 3
  val : ∀ r ∈ rs, r.Val 3 3
  link : ∀ i a b, rs[i]? = some a → rs[i + 1]? = some b → ∀ c ∈ a.tells, c ∈ b.reads
def rowOn : List Rdr → List Nat → Cs → List Nat × Cs
  | r :: rs, s :: ss, l => ((r.run s l).1 :: (rowOn rs ss (r.run s l).2).1, (rowOn rs ss (r.run s l).2).2)
  | _, _, l => ([], l)
def rowEnd : List Rdr → List Nat → Cs → Option Cs
  | r :: rs, s :: ss, l => match (r.sta (r.run s l).1).fin with
    | none => none
    | some t => rowEnd rs ss ((r.run s l).2 ++ t)
  | _, _, l => some l
theorem rowOn_snoc : ∀ (rs : List Rdr) (ss : List Nat) (i : Nat) (l : Cs) (r : Rdr) (s : Nat), rs[i]? = some r → ss[i]? = some s →
    rowOn (rs.take (i + 1)) (ss.take (i + 1)) l = ((rowOn (rs.take i) (ss.take i) l).1 ++ [(r.run s (rowOn (rs.take i) (ss.take i) l).2).1], (r.run s (rowOn (rs.take i) (ss.take i) l).2).2)
  | [], ss, i, l, r, s, h, _ => by simp at h
  | a :: rs, [], i, l, r, s, _, h => by simp at h
  | a :: rs, b :: ss, 0, l, r, s, h1, h2 => by
    have e1 : a = r := by simpa using h1
    have e2 : b = s := by simpa using h2
    subst e1 e2
    rfl
  | a :: rs, b :: ss, i + 1, l, r, s, h1, h2 => by
    have ih := rowOn_snoc rs ss i (a.run b l).2 r s (by simpa using h1) (by simpa using h2)
    show ((a.run b l).1 :: (rowOn (rs.take (i + 1)) (ss.take (i + 1)) (a.run b l).2).1, (rowOn (rs.take (i + 1)) (ss.take (i + 1)) (a.run b l).2).2) = _
    rw [ih]
    rfl
theorem rowOn_len : ∀ (rs : List Rdr) (ss : List Nat) (l : Cs), rs.length = ss.length → (rowOn rs ss l).1.length = rs.length
  | [], ss, l, h => by cases ss <;> rfl
  | a :: rs, [], l, h => by simp at h
  | a :: rs, b :: ss, l, h => by
    show (_ :: (rowOn rs ss (a.run b l).2).1).length = _
    rw [List.length_cons, rowOn_len rs ss _ (by simpa using h), List.length_cons]
theorem rowEnd_step {rs : List Rdr} {ss : List Nat} {i : Nat} {r : Rdr} {s : Nat} (l : Cs) (h1 : rs[i]? = some r) (h2 : ss[i]? = some s) :
    rowEnd (rs.drop i) (ss.drop i) l = match (r.sta (r.run s l).1).fin with
      | none => none
      | some t => rowEnd (rs.drop (i + 1)) (ss.drop (i + 1)) ((r.run s l).2 ++ t) := by
  obtain ⟨l1, e1⟩ := List.getElem?_eq_some_iff.mp h1
  obtain ⟨l2, e2⟩ := List.getElem?_eq_some_iff.mp h2
  rw [List.drop_eq_getElem_cons l1, List.drop_eq_getElem_cons l2, e1, e2]
  rfl
/-- read in two, the ends behind -/
theorem rowEnd_app : ∀ (rs : List Rdr) (ss : List Nat) (l x : Cs), rs.length = ss.length → rowEnd rs ss (l ++ x) = (rowEnd rs (rowOn rs ss l).1 x).map ((rowOn rs ss l).2 ++ ·)
  | [], ss, l, x, h => by cases ss <;> rfl
  | a :: rs, [], l, x, h => by simp at h
  | a :: rs, b :: ss, l, x, h => by
    show (match (a.sta (a.run b (l ++ x)).1).fin with | none => none | some t => rowEnd rs ss ((a.run b (l ++ x)).2 ++ t)) =
      (match (a.sta (a.run (a.run b l).1 x).1).fin with | none => none | some t => rowEnd rs (rowOn rs ss (a.run b l).2).1 ((a.run (a.run b l).1 x).2 ++ t)).map ((rowOn rs ss (a.run b l).2).2 ++ ·)
    rw [Rdr.run_app]
    dsimp only
    cases (a.sta (a.run (a.run b l).1 x).1).fin with
    | none => rfl
    | some t =>
      dsimp only
      rw [List.append_assoc]
      exact rowEnd_app rs ss (a.run b l).2 ((a.run (a.run b l).1 x).2 ++ t) (by simpa using h)
/-- seats of a row -/
structure Seats (rs : List Rdr) (ss : List Nat) : Prop where
  len : ss.length = rs.length
  at_ : ∀ (i : Nat) (r : Rdr) (s : Nat), rs[i]? = some r → ss[i]? = some s → s < r.states.length
/-- the text ahead of the i-th reader -/
structure Tx (rs : List Rdr) (i L : Nat) (t : Cs) : Prop where
  sub : ∀ r, rs[i]? = some r → ∀ c ∈ t, c ∈ r.reads
  len : t.length + 2 ≤ 3 ^ i * (L + 2)
theorem pow3 {i : Nat} (h : i ≤ 3) : 3 ^ i ≤ 27 := by
  have : ∀ i < 4, 3 ^ i ≤ 27 := by decide
  exact this i (by omega)
theorem Tx.next {rs : List Rdr} {i L : Nat} {t u : Cs} {r : Rdr} (R : Row rs) (h : Tx rs i L t) (hr : rs[i]? = some r) (hu : u.length ≤ t.length * 3 + 3) (hs : ∀ c ∈ u, c ∈ r.tells) : Tx rs (i + 1) L u := by
  refine ⟨fun r' hr' c hc => R.link i r r' hr hr' c (hs c hc), ?_⟩
  have := h.len
  rw [Nat.pow_succ, Nat.mul_comm (3 ^ i) 3, Nat.mul_assoc]
  omega
theorem Tx.few {rs : List Rdr} {i L : Nat} {t : Cs} (h : Tx rs i L t) (hi : i ≤ 3) (hL : L ≤ 1000) : t.length ≤ 28000 := by
  have h1 := h.len
  have h2 : 3 ^ i * (L + 2) ≤ 27 * 1002 := Nat.mul_le_mul (pow3 hi) (by omega)
  omega
/-- the text behind the i-th reader, its end or none put behind -/
theorem Tx.on {rs : List Rdr} {i L : Nat} {t : Cs} {r : Rdr} {s : Nat} (R : Row rs) (h : Tx rs i L t) (hr : rs[i]? = some r) (hs : s < r.states.length) : Tx rs (i + 1) L (r.run s t).2 := by
  have v := R.val r (List.mem_of_getElem? hr)
  have z := Rdr.run_ok (v.ok (M := 3) (by decide) (by decide)) t s hs (h.sub r hr)
  exact h.next R hr (by omega) (v.told t s hs (h.sub r hr))
theorem Tx.fin {rs : List Rdr} {i L : Nat} {t u : Cs} {r : Rdr} {s : Nat} (R : Row rs) (h : Tx rs i L t) (hr : rs[i]? = some r) (hs : s < r.states.length) (hu : (r.sta (r.run s t).1).fin = some u) : Tx rs (i + 1) L ((r.run s t).2 ++ u) := by
  have v := R.val r (List.mem_of_getElem? hr)
  have z := Rdr.run_ok (v.ok (M := 3) (by decide) (by decide)) t s hs (h.sub r hr)
  have f := (v.sta _ (Rdr.sta_mem z.1)).fin u hu
  refine h.next R hr (by rw [List.length_append]; omega) (fun c hc => ?_)
  rcases List.mem_append.mp hc with h1 | h1
  · exact v.told t s hs (h.sub r hr) c h1
  · exact f.2 c h1
theorem Tx.nil {rs : List Rdr} {L : Nat} : Tx rs 0 L [] := ⟨(fun _ _ _ h => nomatch h), by show 0 + 2 ≤ 1 * (L + 2); omega⟩
/-- the seats behind a text -/
theorem rowOn_seats {rs : List Rdr} {ss : List Nat} {l : Cs} {L : Nat} (R : Row rs) (S : Seats rs ss) (T : Tx rs 0 L l) : ∀ i, i ≤ rs.length →
    (rowOn (rs.take i) (ss.take i) l).1.length = i ∧ (∀ (j : Nat) (r : Rdr) (s : Nat), j < i → rs[j]? = some r → (rowOn (rs.take i) (ss.take i) l).1[j]? = some s → s < r.states.length) ∧ Tx rs i L (rowOn (rs.take i) (ss.take i) l).2
  | 0, _ => ⟨rfl, (fun _ _ _ h => absurd h (Nat.not_lt_zero _)), T⟩
  | i + 1, hi => by
    obtain ⟨h1, h2, h3⟩ := rowOn_seats R S T i (by omega)
    have er : rs[i]? = some (rs[i]'(by omega)) := List.getElem?_eq_getElem (by omega)
    have es : ss[i]? = some (ss[i]'(by rw [S.len]; omega)) := List.getElem?_eq_getElem (by rw [S.len]; omega)
    have hs := S.at_ i _ _ er es
    rw [rowOn_snoc rs ss i l _ _ er es]
    have v := R.val _ (List.mem_of_getElem? er)
    have z := Rdr.run_ok (v.ok (M := 3) (by decide) (by decide)) _ _ hs (h3.sub _ er)
    refine ⟨by rw [List.length_append, h1]; rfl, fun j r s hj hr hs' => ?_, h3.on R er hs⟩
    by_cases hji : j < i
    · refine h2 j r s hji hr ?_
      rw [← hs']
      exact (List.getElem?_append_left (by omega)).symm
    · have ej : j = i := by omega
      subst ej
      rw [er] at hr
      cases hr
      rw [List.getElem?_append_right (by omega), h1, Nat.sub_self] at hs'
      cases hs'
      exact z.1
theorem Seats.on {rs : List Rdr} {ss : List Nat} {l : Cs} {L : Nat} (R : Row rs) (S : Seats rs ss) (T : Tx rs 0 L l) : Seats rs (rowOn rs ss l).1 ∧ Tx rs rs.length L (rowOn rs ss l).2 := by
  obtain ⟨h1, h2, h3⟩ := rowOn_seats R S T rs.length (Nat.le_refl _)
  have e1 : rs.take rs.length = rs := List.take_length
  have e2 : ss.take rs.length = ss := by rw [← S.len]; exact List.take_length
  rw [e1, e2] at h1 h2 h3
  exact ⟨⟨h1, fun i r s hr hs => h2 i r s (List.getElem?_eq_some_iff.mp hr).1 hr hs⟩, h3⟩
theorem Seats.zero {rs : List Rdr} (R : Row rs) : Seats rs (List.replicate rs.length 0) := by
  refine ⟨List.length_replicate, fun i r s hr hs => ?_⟩
  rw [List.getElem?_replicate] at hs
  split at hs
  · cases hs
    exact (R.val r (List.mem_of_getElem? hr)).ne
  · cases hs
/-- what is told at the end is short -/
theorem rowEnd_drop {rs : List Rdr} {ss : List Nat} (R : Row rs) (S : Seats rs ss) : ∀ (m i : Nat) (t u : Cs) (L : Nat), rs.length - i = m → i ≤ rs.length → Tx rs i L t → L ≤ 1000 → rowEnd (rs.drop i) (ss.drop i) t = some u → u.length ≤ 28000
  | 0, i, t, u, L, hm, hi, T, hL, h => by
    have e : i = rs.length := by omega
    subst e
    rw [List.drop_length, ← S.len, List.drop_length] at h
    cases h
    exact T.few R.few hL
  | m + 1, i, t, u, L, hm, hi, T, hL, h => by
    have hi' : i < rs.length := by omega
    have er : rs[i]? = some (rs[i]'hi') := List.getElem?_eq_getElem hi'
    have es : ss[i]? = some (ss[i]'(by rw [S.len]; exact hi')) := List.getElem?_eq_getElem (by rw [S.len]; exact hi')
    rw [rowEnd_step t er es] at h
    cases hf : ((rs[i]'hi').sta ((rs[i]'hi').run (ss[i]'(by rw [S.len]; exact hi')) t).1).fin with
    | none => rw [hf] at h; cases h
    | some v =>
      rw [hf] at h
      exact rowEnd_drop R S m (i + 1) _ u L (by omega) (by omega) (T.fin R er (S.at_ i _ _ er es) hf) hL h
theorem rowEnd_few {rs : List Rdr} {ss : List Nat} {u : Cs} (R : Row rs) (S : Seats rs ss) (h : rowEnd rs ss [] = some u) : u.length ≤ 28000 :=
  rowEnd_drop R S rs.length 0 [] u 0 (by omega) (Nat.zero_le _) Tx.nil (by decide) h
theorem Tv.dRow {H : Hp} {v : V} {rs : List Rdr} (h : Tv H v (dRow rs)) : ∃ a xs, v = .ref a ∧ H a = some (.tup xs) ∧ TvA H xs (rs.map Fo.dR) := h.tupI
theorem dR_at {H : Hp} {xs : List V} {rs : List Rdr} {i : Nat} {r : Rdr} (h : TvA H xs (rs.map Fo.dR)) (hr : rs[i]? = some r) : ∃ x, xs[i]? = some x ∧ Tv H x (Fo.dR r) :=
  h.get (by rw [List.getElem?_map, hr]; rfl)
theorem seats_ints {H : Hp} : ∀ {ss : List Nat} {ys : List V}, TvA H ys (ss.map fun s : Nat => PyData.int (s : Int)) → ys = ss.map fun s : Nat => V.int (s : Int)
  | [], _, h => h.nilI
  | s :: ss, _, h => by
    obtain ⟨x, r, rfl, h1, h2⟩ := h.consI
    cases h1.intI
    rw [List.map_cons, ← seats_ints h2]
theorem ints_seats {H : Hp} : ∀ (ss : List Nat), TvA H (ss.map fun s : Nat => V.int (s : Int)) (ss.map fun s : Nat => PyData.int (s : Int))
  | [] => .nil
  | s :: ss => .cons (.int _) (ints_seats ss)
theorem Tv.mkSeats {H : Hp} {a : Addr} {ss : List Nat} (h : H a = some (.tup (ss.map fun s : Nat => V.int (s : Int)))) : Tv H (.ref a) (Fo.dSeats ss) := .tup h (ints_seats ss)
/-- (states, told) -/
def dOn (q : List Nat × Cs) : PyData := .tuple [Fo.dSeats q.1, .str (tx q.2)]
end Fo

namespace Kx
open PySem PySem.Spec PyProof.Rows L2 Fo
section
variable {P : Program} {w : World} {K : PySem.W.Frag} {mg : Str → Option Value} {base : Heap}
/-- signs: some, at most m -/
structure Sn (t : Cs) (m : Nat) : Prop where
  ne : t ≠ []
  len : t.length ≤ m
  up : t.Pairwise (· < ·)
  sub : ∀ c ∈ t, 33 ≤ c ∧ c ≤ 126
theorem cutS_hi (l : Cs) (k : Nat) : cutS (tx l) none (some (k : Int)) = tx (l.take k) := by
  unfold cutS
  have el : (tx l).length = l.length := tx_len l
  rw [HT.sIx_none, HT.sIx_nat, List.drop_zero, Nat.sub_zero, el]
  show tx (l.take (min k l.length)) = tx (l.take k)
  by_cases h : k ≤ l.length
  · rw [Nat.min_eq_left h]
  · rw [Nat.min_eq_right (by omega)]
    rw [List.take_of_length_le (Nat.le_refl _), List.take_of_length_le (by omega)]
theorem sn_of {t : Cs} {n : Nat} (h : Sgs t n) (h1 : 1 ≤ n) : Sn t n :=
  ⟨fun z => by
    have := h.len
    rw [z] at this
    exact absurd this.symm (by show ¬ n = 0; omega), Nat.le_of_eq h.len, h.up, h.sub⟩
def sp_more (K : PySem.W.Frag) : Sp := fun vs H Q _ => ∃ (p c : Addr) (n : Nat) (g : Cs), vs = [.ref p, .str (tx g)] ∧ Pen H p c (n + 5) ∧ Sn g 1000 ∧
  ∀ H' t, But p H H' → Pen H' p c n → Sn t 3 → Q (.str (tx t)) H'
theorem ok_more (T : Top K mg) : FnOk P w K mg base CX0 4 T.f__law_more_signs T.fd__law_more_signs ["pen", "reads"] (sp_more K) := by
  have G__law_take := ok_take (P := P) (w := w) (base := base) T
  have G__law_some_signs := ok_signs (P := P) (w := w) (base := base) T
  refine T.F__law_more_signs.ok sc__law_more_signs (fun vs H Q E h => ?_) (fun cdv A outer s H vs Q E hr h => ?_)
  · obtain ⟨p, c, n, g, rfl, _⟩ := h
    rfl
  obtain ⟨p, c, n, g, rfl, hp, S, q⟩ := h
  refine ⟨_, (pss_cons (ps_if (pt_cmpR op_gtG (pe_call G__law_take (hr.mono (by first | decide | omega)) (by rfl) T.g__law_take T.F__law_take.kp T.b__law_take .nil pass0 (pa_cons (pv 0) (pa_cons pe_int pa_nil))) pe_int (nomark _)) (pss_one (ps_ret (pe_slice (kSl K rfl) (pv 1) po_none (po_some (pe_op op_addG pe_int (pe_call G__law_take (hr.mono (by first | decide | omega)) (by rfl) T.g__law_take T.F__law_take.kp T.b__law_take .nil pass0 (pa_cons (pv 0) (pa_cons (pe_callB (call_min2 rfl) (by rfl) T.m_min (by decide +kernel) (pa_cons pe_int (pa_cons (pe_callB (kLen K rfl) (by rfl) T.m_len PySem.boot_len (pa_cons (pv 1) pa_nil)) pa_nil))) pa_nil)))))))) pss_nil)
    (pss_one (ps_ret (pe_call G__law_some_signs (hr.mono (by first | decide | omega)) (by rfl) T.g__law_some_signs T.F__law_some_signs.kp T.b__law_some_signs .nil pass0 (pa_cons (pv 0) (pa_cons (pe_op op_addG pe_int (pe_call G__law_take (hr.mono (by first | decide | omega)) (by rfl) T.g__law_take T.F__law_take.kp T.b__law_take .nil pass0 (pa_cons (pv 0) (pa_cons pe_int pa_nil)))) pa_nil)))))), ?_⟩
  refine ⟨_, rfl, ?_⟩
  refine ⟨p, c, n + 4, 3, rfl, hp, by omega, by omega, fun H1 m b1 p1 _ _ => ?_⟩
  (first | refine Or.inl ⟨_, _, rfl, rfl, ?_⟩ | refine ⟨_, _, rfl, rfl, ?_⟩); refine ⟨_, rfl, ?_⟩
  have gl : 0 < g.length := List.length_pos_iff.mpr S.ne
  have gl2 := S.len
  refine ite2 (fun _ => ?_) (fun _ => ?_)
  · refine ⟨_, rfl, ?_⟩
    refine ⟨_, rfl, ?_⟩
    refine ⟨_, rfl, ?_⟩
    refine ⟨_, _, rfl, ⟨by rw [tx_len, sizeLine_eq]; omega, rfl⟩, ?_⟩
    refine ⟨_, _, rfl, ?_⟩
    rw [tx_len]
    generalize hk : (if (g.length : Int) < 3 then (g.length : Int) else 3) = k
    have kb : 1 ≤ k ∧ k ≤ 3 ∧ k ≤ (g.length : Int) := by
      split at hk <;> omega
    refine ⟨p, c, n, k, rfl, p1.less (by omega), by omega, by omega, fun H2 r b2 p2 r0 r1 => ?_⟩
    obtain ⟨r, rfl⟩ : ∃ k : Nat, r = (k : Int) := ⟨r.toNat, by omega⟩
    (first | refine Or.inl ⟨_, _, rfl, rfl, ?_⟩ | refine ⟨_, _, rfl, rfl, ?_⟩)
    refine ⟨_, rfl, ?_⟩
    refine Or.inr (Or.inr ⟨_, rfl, by rw [tx_len, sizeLine_eq]; omega, ?_⟩)
    rw [show (1 : Int) + (r : Int) = ((r + 1 : Nat) : Int) by omega, cutS_hi]
    refine q _ _ (b1.trans b2) p2 ⟨fun z => ?_, by rw [List.length_take]; omega, S.up.sublist (List.take_sublist _ _), fun c hc => S.sub c (List.mem_of_mem_take hc)⟩
    have := congrArg List.length z
    rw [List.length_take, List.length_nil] at this
    omega
  · refine ⟨_, rfl, ?_⟩; refine ⟨_, rfl, ?_⟩
    refine ⟨p, c, n + 3, 3, rfl, p1, by omega, by omega, fun H2 m b2 p2 m0 m1 => ?_⟩
    obtain ⟨m, rfl⟩ : ∃ k : Nat, m = (k : Int) := ⟨m.toNat, by omega⟩
    (first | refine Or.inl ⟨_, _, rfl, rfl, ?_⟩ | refine ⟨_, _, rfl, rfl, ?_⟩)
    refine ⟨p, c, n, 1 + m, rfl, p2.less (by omega), by omega, fun H3 t b3 p3 S3 => ?_⟩
    exact q _ _ ((b1.trans b2).trans b3) p3 ⟨(sn_of S3 (by omega)).ne, by have := S3.len; omega, S3.up, S3.sub⟩
def sp_wider (K : PySem.W.Frag) : Sp := fun vs H Q _ => ∃ (p c : Addr) (n : Nat) (g : Cs), vs = [.ref p, .str (tx g)] ∧ Pen H p c (n + 5) ∧ Sn g 3 ∧
  ∀ H' t, But p H H' → Pen H' p c n → Sn t 6 → (∀ c ∈ g, c ∈ t) → Q (.str (tx t)) H'
theorem ok_wider (T : Top K mg) : FnOk P w K mg base CX0 4 T.f__law_wider T.fd__law_wider ["pen", "signs"] (sp_wider K) := by
  have G__law_take := ok_take (P := P) (w := w) (base := base) T
  have G__law_some_signs := ok_signs (P := P) (w := w) (base := base) T
  refine T.F__law_wider.ok sc__law_wider (fun vs H Q E h => ?_) (fun cdv A outer s H vs Q E hr h => ?_)
  · obtain ⟨p, c, n, g, rfl, _⟩ := h
    rfl
  obtain ⟨p, c, n, g, rfl, hp, S, q⟩ := h
  refine ⟨_, (pss_cons (ps_if (pt_cmpR (kEq K rfl hr.units) (pe_call G__law_take (hr.mono (by first | decide | omega)) (by rfl) T.g__law_take T.F__law_take.kp T.b__law_take .nil pass0 (pa_cons (pv 0) (pa_cons pe_int pa_nil))) pe_int (nomark _)) (pss_one (ps_ret (pv 1))) pss_nil)
    (pss_one (ps_ret (kJoin K rfl pe_str (pe_callB (kSortT rfl rfl) (by rfl) T.m_sorted (by decide +kernel) (pa_cons (pe_callTy (kSetTx rfl rfl) (by rfl) T.m_set (by decide +kernel) (pa_cons (pe_op op_addG (pv 1) (pe_call G__law_some_signs (hr.mono (by first | decide | omega)) (by rfl) T.g__law_some_signs T.F__law_some_signs.kp T.b__law_some_signs .nil pass0 (pa_cons (pv 0) (pa_cons (pe_op op_addG pe_int (pe_call G__law_take (hr.mono (by first | decide | omega)) (by rfl) T.g__law_take T.F__law_take.kp T.b__law_take .nil pass0 (pa_cons (pv 0) (pa_cons pe_int pa_nil)))) pa_nil)))) pa_nil)) pa_nil)))))), ?_⟩
  refine ⟨_, rfl, ?_⟩
  refine ⟨p, c, n + 4, 2, rfl, hp, by omega, by omega, fun H1 m b1 p1 _ _ => ?_⟩
  refine Or.inl ⟨rfl, _, rfl, ?_⟩
  refine ite2 (fun _ => ?_) (fun _ => ?_)
  · refine ⟨_, rfl, ?_⟩
    exact q _ _ b1 (p1.less (by omega)) ⟨S.ne, by have := S.len; omega, S.up, S.sub⟩ (fun _ h => h)
  · refine ⟨⟨_, rfl⟩, ?_⟩
    refine ⟨_, rfl, ?_⟩; refine ⟨_, rfl, ?_⟩; refine ⟨_, rfl, ?_⟩
    refine ⟨p, c, n + 3, 3, rfl, p1, by omega, by omega, fun H2 m b2 p2 m0 m1 => ?_⟩
    obtain ⟨m, rfl⟩ : ∃ k : Nat, m = (k : Int) := ⟨m.toNat, by omega⟩
    (first | refine Or.inl ⟨_, _, rfl, rfl, ?_⟩ | refine ⟨_, _, rfl, rfl, ?_⟩)
    refine ⟨p, c, n, 1 + m, rfl, p2.less (by omega), by omega, fun H3 t b3 p3 S3 => ?_⟩
    have sl := S.len
    have tl := S3.len
    refine Or.inr (Or.inl ⟨_, _, rfl, rfl, ?_, ?_⟩)
    · rw [tx_len, tx_len, sizeLine_eq]
      omega
    rw [tx_app]
    refine ⟨g ++ t, rfl, by rw [List.length_append]; omega, fun a H4 k na s4 e4 hk => ?_⟩
    rw [List.length_append] at hk
    refine ⟨a, _, k, rfl, e4, by omega, fun ys hs hn hm hl => ?_⟩
    obtain ⟨u, rfl, hu, mu⟩ := signs_of rfl hs hn hm
    rw [List.length_map] at hl
    refine fun l H5 n5 s5 e5 => ?_
    have eu : u.map one = (u.map fun c => [c]).map tx := by
      rw [List.map_map]
      rfl
    rw [eu] at e5
    refine ⟨_, _, _, rfl, rfl, .inl (SqL.of e5), ?_, ?_⟩
    · rw [flat_len, flat_ones]
      show _ + _ * 0 ≤ _
      omega
    · rw [join_tx, flat_ones]
      have s45 := s4.trans s5
      refine q _ _ (((b1.trans b2).trans b3).trans (same_but p s45)) (p3.same s45) ⟨fun z => ?_, by omega, hu, fun c hc => ?_⟩ (fun c hc => (mu c).mpr (List.mem_append_left _ hc))
      · obtain ⟨d, hd⟩ := List.exists_mem_of_ne_nil _ S.ne
        have := (mu d).mpr (List.mem_append_left _ hd)
        rw [z] at this
        exact nomatch this
      · rcases List.mem_append.mp ((mu c).mp hc) with h | h
        · exact S.sub c h
        · exact S3.sub c h
end
end Kx

namespace Kx
open PySem PySem.Spec PyProof.Rows L2 Fo
section
variable {P : Program} {w : World} {K : PySem.W.Frag} {mg : Str → Option Value} {base : Heap}
structure Wide (rs : List Rdr) (g : Cs) (often size : Nat) : Prop where
  row : Row rs
  few : rs.length ≤ often
  each : ∀ r ∈ rs, r.states.length ≤ size ∧ Sn r.reads 8 ∧ Sn r.tells 3
  head : ∀ r, rs[0]? = some r → r.reads = g
  low : ∀ r ∈ rs, r.Val 2 2
theorem wide_one {r : Rdr} {g : Cs} {size : Nat} (v : r.Val 2 2) (hs : r.states.length ≤ size) (h1 : Sn r.reads 8) (h2 : Sn r.tells 3) (hg : r.reads = g) : Wide [r] g 1 size := by
  refine ⟨⟨Nat.zero_lt_one, by show 1 ≤ 3; decide, fun x hx => ?_, fun i a b h3 h4 => ?_⟩, Nat.le_refl _, fun x hx => ?_, fun x hx => ?_, fun x hx => by rw [List.mem_singleton.mp hx]; exact v⟩
  · rw [List.mem_singleton.mp hx]; exact v.mono (by decide) (by decide)
  · simp at h4
  · rw [List.mem_singleton.mp hx]; exact ⟨hs, h1, h2⟩
  · have e : r = x := by simpa using hx
    rw [← e]; exact hg
theorem wide_snoc {rs : List Rdr} {g : Cs} {k size : Nat} {a r : Rdr} (W : Wide rs g k size) (hk : rs.length + 1 ≤ 3) (ha : rs[rs.length - 1]? = some a) (hl : ∀ c ∈ a.tells, c ∈ r.reads) (v : r.Val 2 2) (hs : r.states.length ≤ size) (h1 : Sn r.reads 8) (h2 : Sn r.tells 3) :
    Wide (rs ++ [r]) g (k + 1) size := by
  have ne := W.row.ne
  refine ⟨⟨by rw [List.length_append]; omega, by rw [List.length_append]; exact hk, fun x hx => ?_, fun i x y hx hy => ?_⟩, by rw [List.length_append]; exact Nat.succ_le_succ W.few, fun x hx => ?_, fun x hx => ?_, fun x hx => (List.mem_append.mp hx).elim (W.low x) fun h => by rw [List.mem_singleton.mp h]; exact v⟩
  · rcases List.mem_append.mp hx with h | h
    · exact W.row.val x h
    · rw [List.mem_singleton.mp h]; exact v.mono (by decide) (by decide)
  · by_cases hi : i + 1 < rs.length
    · rw [List.getElem?_append_left (by omega)] at hx
      rw [List.getElem?_append_left hi] at hy
      exact W.row.link i x y hx hy
    · have hlen : i + 1 < (rs ++ [r]).length := (List.getElem?_eq_some_iff.mp hy).1
      rw [List.length_append, List.length_singleton] at hlen
      have ei : i = rs.length - 1 := by omega
      rw [List.getElem?_append_left (by omega), ei, ha] at hx
      rw [List.getElem?_append_right (by omega), show i + 1 - rs.length = 0 by omega] at hy
      cases hx
      have e : r = y := by simpa using hy
      rw [← e]; exact hl
  · rcases List.mem_append.mp hx with h | h
    · exact W.each x h
    · rw [List.mem_singleton.mp h]; exact ⟨hs, h1, h2⟩
  · rw [List.getElem?_append_left ne] at hx
    exact W.head x hx
theorem costR_le {R R' size most : Nat} (h : R ≤ R') : costR R size most ≤ costR R' size most := by
  unfold costR
  have : R * (most + 3) ≤ R' * (most + 3) := Nat.mul_le_mul_right _ h
  have : size * (R * (most + 3) + 3) ≤ size * (R' * (most + 3) + 3) := Nat.mul_le_mul_left _ (by omega)
  omega
theorem Sn.le {t : Cs} {m n : Nat} (h : Sn t m) (hm : m ≤ n) : Sn t n := ⟨h.ne, Nat.le_trans h.len hm, h.up, h.sub⟩
theorem at_last {xs : List V} {x : V} {n : Nat} (hn : xs.length = n + 1) (h : xs[n]? = some x) : atI xs (-1) = some x := by
  unfold atI ixN
  rw [hn, if_neg (by omega), if_pos (by omega)]
  show xs[((-1 : Int) + ((n + 1 : Nat) : Int)).toNat]? = some x
  rw [show ((-1 : Int) + ((n + 1 : Nat) : Int)).toNat = n by omega, h]
def sp_wide (K : PySem.W.Frag) : Sp := fun vs H Q _ => ∃ (p c : Addr) (n : Nat) (g : Cs) (often size most : Nat), vs = [.ref p, .str (tx g), .int often, .int size, .int most] ∧ Pen H p c (n + often * (costR 8 size most + 20)) ∧ Sn g 8 ∧ 1 ≤ often ∧ often ≤ 3 ∧ 1 ≤ size ∧ size ≤ 1000 ∧ 1 ≤ most ∧ most ≤ 2 ∧
  ∀ x H' (rs : List Rdr), But p H H' → Pen H' p c n → Tv H' x (dRow rs) → Wide rs g often size → Q x H'
theorem ok_wide (T : Top K mg) : FnOk P w K mg base CX0 5 T.f__law_wide_row T.fd__law_wide_row ["pen", "reads", "often", "size", "most"] (sp_wide K) := by
  have G__law_take := ok_take (P := P) (w := w) (base := base) T
  have G__law_any_reader := ok_any (P := P) (w := w) (base := base) T
  have G__law_more_signs := ok_more (P := P) (w := w) (base := base) T
  have G__law_wider := ok_wider (P := P) (w := w) (base := base) T
  refine T.F__law_wide_row.ok sc__law_wide_row (fun vs H Q E h => ?_) (fun cdv A outer s H vs Q E hr h => ?_)
  · obtain ⟨p, c, n, g, often, size, most, rfl, _⟩ := h
    rfl
  obtain ⟨p, c, n, g, often, size, most, rfl, hp, S, o1, o3, z1, z2, m1, m3, q⟩ := h
  generalize hC : costR 8 size most = C at hp
  refine ⟨_, (pss_cons (ps_set (i := 5) sc__law_wide_row.nd rfl (Or.inl rfl) (pe_lstN (pa_cons (pe_call G__law_any_reader (hr.mono (by first | decide | omega)) (by rfl) T.g__law_any_reader T.F__law_any_reader.kp T.b__law_any_reader .nil pass0 (pa_cons (pv 0) (pa_cons (pv 1) (pa_cons (pe_call G__law_more_signs (hr.mono (by first | decide | omega)) (by rfl) T.g__law_more_signs T.F__law_more_signs.kp T.b__law_more_signs .nil pass0 (pa_cons (pv 0) (pa_cons (pv 1) pa_nil))) (pa_cons (pv 3) (pa_cons (pv 4) pa_nil)))))) pa_nil)))
    (pss_cons (ps_for PassesOwn.never rfl (pi_range1 rfl T.m_range (pa_cons (pe_call G__law_take (hr.mono (by first | decide | omega)) (by rfl) T.g__law_take T.F__law_take.kp T.b__law_take .nil pass0 (pa_cons (pv 0) (pa_cons (pv 2) pa_nil))) pa_nil)) (pg_name (i := 6) sc__law_wide_row.nd rfl (Or.inl rfl)) (pss_cons (ps_set (i := 7) sc__law_wide_row.nd rfl (Or.inl rfl) (pe_call G__law_wider (hr.mono (by first | decide | omega)) (by rfl) T.g__law_wider T.F__law_wider.kp T.b__law_wider .nil pass0 (pa_cons (pv 0) (pa_cons (pe_ix (kIx K rfl) (pe_ix (kIx K rfl) (pv 5) (pe_un un_neg pe_int) (fun _ _ => rfl)) pe_int (fun _ _ => rfl)) pa_nil))))
    (pss_one (ps_expr (kBm K rfl (pe_bm PySem.F.plainAttrs_list PySem.F.slot_list_append PySem.F.type_list_append mt_appN (pv 5) (pa_cons (pe_call G__law_any_reader (hr.mono (by first | decide | omega)) (by rfl) T.g__law_any_reader T.F__law_any_reader.kp T.b__law_any_reader .nil pass0 (pa_cons (pv 0) (pa_cons (pv 7) (pa_cons (pe_call G__law_more_signs (hr.mono (by first | decide | omega)) (by rfl) T.g__law_more_signs T.F__law_more_signs.kp T.b__law_more_signs .nil pass0 (pa_cons (pv 0) (pa_cons (pv 7) pa_nil))) (pa_cons (pv 3) (pa_cons (pv 4) pa_nil)))))) pa_nil)))))))
    (pss_one (ps_ret (pe_callTy (kTuple K rfl) (by rfl) T.m_tuple (by decide +kernel) (pa_cons (pv 5) pa_nil)))))), ?_⟩
  obtain ⟨of, rfl⟩ : ∃ k, often = k + 1 := ⟨often - 1, by omega⟩
  rw [Nat.succ_mul] at hp
  generalize hN : n + of * (C + 20) = N at hp
  have hp' : Pen H p c (N + 1 + C + 10 + 5) := hp.less (by omega)
  refine ⟨_, rfl, ?_⟩; refine ⟨_, rfl, ?_⟩; refine ⟨_, rfl, ?_⟩; refine ⟨_, rfl, ?_⟩
  refine ⟨p, c, N + 1 + C + 10, g, rfl, hp', S.le (by decide), fun H1 t b1 p1 St => ?_⟩
  refine ⟨_, rfl, ?_⟩; refine ⟨_, rfl, ?_⟩
  refine ⟨p, c, N + 1, g, t, size, most, rfl, p1.less (by have := costR_le (size := size) (most := most) S.len; omega), St.ne, by have := St.len; omega, by have := S.len; omega, z1, z2, m1, by omega, fun x H2 r b2 p2 tv er et sl V0 => ?_⟩
  refine ⟨szS, fun l H3 n3 s3 e3 => ?_⟩
  have b03 := (b1.trans b2).trans (same_but p s3)
  have dl := p2.ne n3
  refine ⟨_, rfl, ?_⟩; refine ⟨_, rfl, ?_⟩
  refine ⟨p, c, N, ((of + 1 : Nat) : Int), rfl, p2.same s3, by omega, by omega, fun H4 m b4 p4 m0 mm => ?_⟩
  obtain ⟨m, rfl⟩ : ∃ k : Nat, m = (k : Int) := ⟨m.toNat, by omega⟩
  have hm : m ≤ of := by omega
  rw [← hN] at p4
  refine ⟨m, rfl, by omega, by omega, ?_⟩
  rw [show (m : Int).toNat = m by omega]
  have W0 : Wide [r] g 1 size := wide_one (V0.mono m3 (by decide)) sl (by rw [er]; exact S) (by rw [et]; exact St) er
  refine for_it walk_range (fun k σ H' => ∃ (rs : List Rdr) (vs : List V) (y6 y7 : Option V), σ = [some (.ref p), some (.str (tx g)), some (.int ((of + 1 : Nat) : Int)), some (.int size), some (.int most), some (.ref l), y6, y7] ∧
      But p H H' ∧ Pen H' p c (n + (of - k) * (C + 20)) ∧ H' l = some (.lst vs) ∧ TvA H' vs (rs.map dR) ∧ rs.length = k + 1 ∧ Wide rs g (k + 1) size)
    ⟨[r], _, none, none, rfl, b03.trans b4, p4, b4 _ _ (Ne.symm dl.1) e3, .cons ((tv.mv (same_ts s3)).mv ((p2.same s3).ts b4)) .nil, rfl, W0⟩ (fun _ _ _ _ _ => trivial) (fun k x' σ H5 H6 hk pv y => ?_) (fun σ H5 pv => ?_)
  · obtain ⟨rs, vs, y6, y7, rfl, b5, p5, e5, t5, hrs, W⟩ := pv
    obtain ⟨rfl, rfl⟩ := y
    rw [succ_cost (show k < of by omega)] at p5
    generalize hrest : n + (of - (k + 1)) * (C + 20) = rest at p5
    have p5' : Pen H6 p c (rest + C + 10 + 5) := p5.less (by omega)
    have vl := t5.len
    rw [List.length_map, hrs] at vl
    have ea : rs[k]? = some (rs[k]'(by omega)) := List.getElem?_eq_getElem (by omega)
    generalize rs[k]'(by omega) = a at ea
    obtain ⟨va, hva, tva⟩ := dR_at t5 ea
    obtain ⟨wr, wl, wt⟩ := W.each a (List.mem_of_getElem? ea)
    obtain ⟨ra, rss, rxs, rfl, hra, hrs2, hrX⟩ := tva.dR
    refine ⟨_, rfl, ?_⟩; refine ⟨_, rfl, ?_⟩
    refine ⟨_, rfl, ?_⟩
    refine Or.inl ⟨_, _, _, _, rfl, rfl, SqL.of e5, (at_last vl hva), ?_⟩; refine Or.inr (Or.inl ⟨_, _, _, _, rfl, rfl, SqT.of hra, rfl, ?_⟩)
    refine ⟨p, c, rest + C + 10, a.tells, rfl, p5', wt, fun H7 mo b7 p7 Sm sub => ?_⟩
    have e7 := b7 _ _ (Ne.symm dl.1) e5
    refine ⟨_, rfl, .inl ⟨rfl, _, SqL.of e7⟩, ?_⟩
    refine ⟨_, rfl, ?_⟩; refine ⟨_, rfl, ?_⟩; refine ⟨_, rfl, ?_⟩; refine ⟨_, rfl, ?_⟩
    refine ⟨p, c, rest + C + 5, mo, rfl, p7.less (by omega), Sm.le (by decide), fun H8 tl b8 p8 Stl => ?_⟩
    refine ⟨_, rfl, ?_⟩; refine ⟨_, rfl, ?_⟩
    refine ⟨p, c, rest, mo, tl, size, most, rfl, p8.less (by have := costR_le (size := size) (most := most) (Nat.le_trans Sm.len (show 6 ≤ 8 by decide)); omega), Stl.ne, by have := Stl.len; omega, by have := Sm.len; omega, z1, z2, m1, by omega, fun z H9 r' b9 p9 tz er' et' sl' V' => ?_⟩
    have b79 := b8.trans b9
    have e9 := b79 _ _ (Ne.symm dl.1) e7
    refine ⟨l, _, _, rfl, rfl, e9, by rw [vl, sizeLine_eq]; omega, fun Ha ba ea' => ?_⟩
    have t79 := (p5'.ts b7).trans (p7.ts b79)
    have ta : TS H9 Ha := ba.ts e9
    refine ⟨rs ++ [r'], _, _, _, rfl, ((b5.trans b7).trans b79).chg (b1.trans b2) n3 ba, p9.chg dl ba, ea', ?_, by rw [List.length_append, hrs]; rfl, ?_⟩
    · rw [List.map_append]
      exact (t5.mv (t79.trans ta)).snoc (tz.mv ta)
    · exact wide_snoc W (by omega) (by rw [hrs]; exact ea) (by rw [er']; exact sub) (V'.mono m3 (by decide)) sl' (by rw [er']; exact Sm.le (by decide)) (by rw [et']; exact Stl)
  · obtain ⟨rs, vs, y6, y7, rfl, b5, p5, e5, t5, hrs, W⟩ := pv
    refine ⟨_, rfl, ?_⟩
    refine ⟨_, _, rfl, .inl ⟨SqL.of e5, fun a H6 n6 s6 e6 => ?_⟩⟩
    exact q _ _ rs (b5.trans (same_but p s6)) ((p5.same s6).less (by omega)) (.tup e6 (t5.mv (same_ts s6))) ⟨W.row, by have := W.few; omega, W.each, W.head, W.low⟩
end
end Kx

namespace Px
open PySem PySem.Spec PyProof.Rows L2 Fo
/-! ### pure values -/
/-- an own thing, told by what stands at its feet -/
structure Asr where
  R : Hp → Hp → V → List Addr → Prop
  stay : ∀ {F F' H H' : Hp} {v : V} {fs : List Addr}, R F H v fs → Same F F' → (∀ a ∈ fs, H' a = H a) → R F' H' v fs
  has : ∀ {F H : Hp} {v : V} {fs : List Addr}, R F H v fs → ∀ a ∈ fs, ∃ o, H a = some o ∧ ∀ ts, o ≠ .tup ts
inductive PV
  | un
  | d (x : PyData)
  | l (xs : List PyData)
  | o (A : Asr)
  | t (xs : List PV)
  | ty (n : String)
  | al (i : Nat)
mutual
inductive RV : L2.St → Hp → Hp → V → PV → List Addr → Prop
  | un {σ : L2.St} {F H : Hp} (v : V) : RV σ F H v .un []
  | d {σ : L2.St} {F H : Hp} {v : V} {x : PyData} : Lv F v x → RV σ F H v (.d x) []
  | l {σ : L2.St} {F H : Hp} {p : Addr} {vs : List V} {ds : List PyData} : H p = some (.lst vs) → LvA F vs ds → RV σ F H (.ref p) (.l ds) [p]
  | o {σ : L2.St} {F H : Hp} {A : Asr} {v : V} {fs : List Addr} : A.R F H v fs → RV σ F H v (.o A) fs
  | t {σ : L2.St} {F H : Hp} {p : Addr} {vs : List V} {xs : List PV} {fs : List Addr} : F p = some (.tup vs) → RVs [] F H vs xs fs → RV σ F H (.ref p) (.t xs) fs
  | ty {σ : L2.St} {F H : Hp} (n : String) : RV σ F H (.ty n) (.ty n) []
  | al {σ : L2.St} {F H : Hp} {i : Nat} {v : V} : σ[i]? = some (some v) → RV σ F H v (.al i) []
inductive RVs : L2.St → Hp → Hp → List V → List PV → List Addr → Prop
  | nil {σ : L2.St} {F H : Hp} : RVs σ F H [] [] []
  | cons {σ : L2.St} {F H : Hp} {v : V} {vs : List V} {x : PV} {xs : List PV} {f fs : List Addr} : RV σ F H v x f → RVs σ F H vs xs fs → RVs σ F H (v :: vs) (x :: xs) (f ++ fs)
end
/-- the slots -/
inductive RSl (F H : Hp) : List (Option V) → List PV → List Addr → Prop
  | nil : RSl F H [] [] []
  | un {o : Option V} {r : List (Option V)} {S : List PV} {fs : List Addr} : RSl F H r S fs → RSl F H (o :: r) (.un :: S) fs
  | cons {v : V} {r : List (Option V)} {x : PV} {S : List PV} {f fs : List Addr} : RV [] F H v x f → RSl F H r S fs → RSl F H (some v :: r) (x :: S) (f ++ fs)
section
variable {σ : L2.St} {F F' G G' H H' : Hp}
mutual
theorem RV.stay {F F' H H' : Hp} (s : Same F F') : ∀ {σ : L2.St} (x : PV) (v : V) (fs : List Addr), RV σ F H v x fs → (∀ a ∈ fs, H' a = H a) → RV σ F' H' v x fs
  | _, .un, _, _, h, _ => by cases h; exact .un _
  | _, .d x, _, _, h, _ => by
    cases h with
    | d h => exact .d (Lv.sm s _ _ h)
  | _, .l xs, _, _, h, k => by
    cases h with
    | l h1 h2 => exact .l (by rw [k _ (List.mem_singleton_self _)]; exact h1) (LvA.sm s _ _ h2)
  | _, .o A, _, _, h, k => by
    cases h with
    | o h => exact .o (A.stay h s k)
  | _, .t xs, _, _, h, k => by
    cases h with
    | t h1 h2 => exact .t (s _ _ h1) (RVs.stay s xs _ _ h2 k)
  | _, .ty n, _, _, h, _ => by cases h; exact .ty n
  | _, .al i, _, _, h, _ => by
    cases h with
    | al h => exact .al h
theorem RVs.stay {F F' H H' : Hp} (s : Same F F') : ∀ {σ : L2.St} (xs : List PV) (vs : List V) (fs : List Addr), RVs σ F H vs xs fs → (∀ a ∈ fs, H' a = H a) → RVs σ F' H' vs xs fs
  | _, [], _, _, h, _ => by cases h; exact .nil
  | _, x :: xs, _, _, h, k => by
    cases h with
    | cons h1 h2 => exact .cons (RV.stay s x _ _ h1 fun a m => k a (List.mem_append_left _ m)) (RVs.stay s xs _ _ h2 fun a m => k a (List.mem_append_right _ m))
end
mutual
theorem RV.has {F H : Hp} : ∀ {σ : L2.St} (x : PV) (v : V) (fs : List Addr), RV σ F H v x fs → ∀ a ∈ fs, ∃ o, H a = some o ∧ ∀ ts, o ≠ .tup ts
  | _, .un, _, _, h, a, m => by cases h; cases m
  | _, .d x, _, _, h, a, m => by cases h; cases m
  | _, .l xs, _, _, h, a, m => by
    cases h with
    | l h1 h2 =>
      cases List.mem_singleton.mp m
      exact ⟨_, h1, fun _ z => nomatch z⟩
  | _, .o A, _, _, h, a, m => by
    cases h with
    | o h => exact A.has h a m
  | _, .t xs, _, _, h, a, m => by
    cases h with
    | t h1 h2 => exact RVs.has xs _ _ h2 a m
  | _, .ty n, _, _, h, a, m => by cases h; cases m
  | _, .al i, _, _, h, a, m => by cases h; cases m
theorem RVs.has {F H : Hp} : ∀ {σ : L2.St} (xs : List PV) (vs : List V) (fs : List Addr), RVs σ F H vs xs fs → ∀ a ∈ fs, ∃ o, H a = some o ∧ ∀ ts, o ≠ .tup ts
  | _, [], _, _, h, a, m => by cases h; cases m
  | _, x :: xs, _, _, h, a, m => by
    cases h with
    | cons h1 h2 =>
      rcases List.mem_append.mp m with m | m
      · exact RV.has x _ _ h1 a m
      · exact RVs.has xs _ _ h2 a m
end
theorem RSl.stay (s : Same F F') : ∀ {S : List PV} {r : List (Option V)} {fs : List Addr}, RSl F H r S fs → (∀ a ∈ fs, H' a = H a) → RSl F' H' r S fs
  | _, _, _, .nil, _ => .nil
  | _, _, _, .un h, k => .un (RSl.stay s h k)
  | _, _, _, .cons h1 h2, k => .cons (h1.stay s _ _ _ fun a m => k a (List.mem_append_left _ m)) (RSl.stay s h2 fun a m => k a (List.mem_append_right _ m))
theorem RSl.has : ∀ {S : List PV} {r : List (Option V)} {fs : List Addr}, RSl F H r S fs → ∀ a ∈ fs, ∃ o, H a = some o ∧ ∀ ts, o ≠ .tup ts
  | _, _, _, .nil, _, m => by cases m
  | _, _, _, .un h, a, m => RSl.has h a m
  | _, _, _, .cons h1 h2, a, m => (List.mem_append.mp m).elim (h1.has _ _ _ a) (RSl.has h2 a)
theorem RSl.len : ∀ {S : List PV} {r : List (Option V)} {fs : List Addr}, RSl F H r S fs → S.length = r.length
  | _, _, _, .nil => rfl
  | _, _, _, .un h => congrArg (· + 1) (RSl.len h)
  | _, _, _, .cons _ h2 => congrArg (· + 1) (RSl.len h2)
/-- a slot's own value, taken out -/
theorem RSl.take : ∀ {S : List PV} {r : List (Option V)} {fs : List Addr} {i : Nat} {x : PV}, RSl F H r S fs → S[i]? = some x → x ≠ .un → ∃ v f fs', r[i]? = some (some v) ∧ RV [] F H v x f ∧ RSl F H r (S.set i .un) fs' ∧ (f ++ fs').Perm fs
  | _, _, _, i, x, .nil, e, _ => by simp at e
  | _, _, _, 0, x, .un h, e, n => absurd (Option.some.inj e).symm n
  | _, _, _, 0, x, .cons (v := v) h1 h2, e, n => by
    cases e
    exact ⟨v, _, _, rfl, h1, .un h2, List.Perm.refl _⟩
  | _, _, _, i + 1, x, .un h, e, n => by
    obtain ⟨v, f, fs', e1, e2, e3, e4⟩ := RSl.take (i := i) h (by simpa using e) n
    exact ⟨v, f, fs', by simpa using e1, e2, .un e3, e4⟩
  | _, _, _, i + 1, x, .cons (f := f0) h1 h2, e, n => by
    obtain ⟨v, f, fs', e1, e2, e3, e4⟩ := RSl.take (i := i) h2 (by simpa using e) n
    refine ⟨v, f, f0 ++ fs', by simpa using e1, e2, .cons h1 e3, ?_⟩
    rw [← List.append_assoc]
    exact ((List.perm_append_comm (l₁ := f) (l₂ := f0)).append_right fs').trans (by rw [List.append_assoc]; exact e4.append_left f0)
/-- a slot put -/
theorem RSl.put : ∀ {S : List PV} {r : List (Option V)} {fs : List Addr} {i : Nat} {v : V} {x : PV} {f : List Addr}, RSl F H r S fs → i < S.length → RV [] F H v x f → (f ++ fs).Nodup → ∃ fs', RSl F H (r.set i (some v)) (S.set i x) fs' ∧ fs'.Nodup ∧ ∀ a ∈ fs', a ∈ f ++ fs
  | _, _, _, i, _, _, _, .nil, hi, _, _ => absurd hi (Nat.not_lt_zero _)
  | _, _, _, 0, v, x, f, .un h, _, hv, n => ⟨_, .cons hv h, n, fun _ m => m⟩
  | _, _, _, 0, v, x, f, .cons (f := f0) (fs := fs) h1 h2, _, hv, n => ⟨f ++ fs, .cons hv h2, by
      rw [List.nodup_append] at n ⊢
      rw [List.nodup_append] at n
      exact ⟨n.1, n.2.1.2.1, fun a ha b hb => n.2.2 a ha b (List.mem_append_right _ hb)⟩, fun a m => (List.mem_append.mp m).elim (List.mem_append_left _) fun m => List.mem_append_right _ (List.mem_append_right _ m)⟩
  | _, _, _, i + 1, v, x, f, .un h, hi, hv, n => by
    obtain ⟨fs', e1, e2, e3⟩ := RSl.put (i := i) h (Nat.lt_of_succ_lt_succ hi) hv n
    exact ⟨fs', .un e1, e2, e3⟩
  | _, _, _, i + 1, v, x, f, .cons (f := f0) (fs := fs) h1 h2, hi, hv, n => by
    have n1 : (f ++ fs).Nodup := by
      rw [List.nodup_append] at n ⊢
      rw [List.nodup_append] at n
      exact ⟨n.1, n.2.1.2.1, fun a ha b hb => n.2.2 a ha b (List.mem_append_right _ hb)⟩
    obtain ⟨fs', e1, e2, e3⟩ := RSl.put (i := i) h2 (Nat.lt_of_succ_lt_succ hi) hv n1
    refine ⟨f0 ++ fs', .cons h1 e1, ?_, fun a m => ?_⟩
    · rw [List.nodup_append] at n ⊢
      rw [List.nodup_append] at n
      refine ⟨n.2.1.1, e2, fun a ha b hb e => ?_⟩
      subst e
      rcases List.mem_append.mp (e3 a hb) with m | m
      · exact n.2.2 a m a (List.mem_append_left _ ha) rfl
      · exact n.2.1.2.2 a ha a m rfl
    · rcases List.mem_append.mp m with m | m
      · exact List.mem_append_right _ (List.mem_append_left _ m)
      · rcases List.mem_append.mp (e3 a m) with m | m
        · exact List.mem_append_left _ m
        · exact List.mem_append_right _ (List.mem_append_right _ m)
theorem RVs.app : ∀ {xs ys : List PV} {vs us : List V} {f g : List Addr}, RVs σ F H vs xs f → RVs σ F H us ys g → RVs σ F H (vs ++ us) (xs ++ ys) (f ++ g)
  | [], _, _, _, _, _, h, h' => by cases h; exact h'
  | x :: xs, _, _, _, _, _, h, h' => by
    cases h with
    | cons h1 h2 => rw [List.append_assoc]; exact .cons h1 (RVs.app h2 h')
theorem RVs.len : ∀ {xs : List PV} {vs : List V} {f : List Addr}, RVs σ F H vs xs f → vs.length = xs.length
  | [], _, _, h => by cases h; rfl
  | x :: xs, _, _, h => by
    cases h with
    | cons h1 h2 => rw [List.length_cons, List.length_cons, RVs.len h2]
end
/-! ### the state -/
structure RepF (F G H : Hp) (σ : L2.St) (S : List PV) (vs : List V) (xs : List PV) (fv fs : List Addr) : Prop where
  lf : Same F H
  lg : Same G H
  sl : RSl F H σ S fs
  vl : RVs σ F H vs xs fv
  nd : (fv ++ fs).Nodup
  off : ∀ a ∈ fv ++ fs, F a = none ∧ G a = none
  dj : ∀ a o, G a = some o → F a = none ∧ ∀ ts, o ≠ .tup ts
def RepA (F G H : Hp) (σ : L2.St) (S : List PV) (vs : List V) (xs : List PV) : Prop := ∃ fv fs, RepF F G H σ S vs xs fv fs
abbrev Rep (F G H : Hp) (σ : L2.St) (S : List PV) : Prop := RepA F G H σ S [] []
open Classical in
/-- what is kept beside -/
noncomputable def lock (G H : Hp) (fv : List Addr) : Hp := fun a => if a ∈ fv then H a else G a
theorem lock_in {G H : Hp} {fv : List Addr} {a : Addr} (h : a ∈ fv) : lock G H fv a = H a := by unfold lock; rw [if_pos h]
theorem lock_out {G H : Hp} {fv : List Addr} {a : Addr} (h : a ∉ fv) : lock G H fv a = G a := by unfold lock; rw [if_neg h]
section
variable {F F' G G' H H' : Hp} {σ σ' : L2.St} {S S' : List PV} {vs us : List V} {xs ys : List PV}
/-- values in hand are laid aside while more is reckoned -/
theorem RepA.aside (h : RepA F G H σ S vs xs) : ∃ G1, Same G G1 ∧ Rep F G1 H σ S ∧ ∀ F' H' S' us ys, RepA F' G1 H' σ S' us ys → Same F F' → RepA F' G H' σ S' (vs ++ us) (xs ++ ys) := by
  obtain ⟨fv, fs, h⟩ := h
  have nd := List.nodup_append.mp h.nd
  have sg : Same G (lock G H fv) := fun a o e => by
    have nm : a ∉ fv := fun m => by
      rw [(h.off a (List.mem_append_left _ m)).2] at e
      cases e
    rw [lock_out nm]
    exact e
  refine ⟨lock G H fv, sg, ⟨[], fs, h.lf, fun a o e => ?_, h.sl, .nil, nd.2.1, fun a m => ?_, fun a o e => ?_⟩, fun F' H' S' us ys k sf => ?_⟩
  · by_cases m : a ∈ fv
    · rw [lock_in m] at e; exact e
    · rw [lock_out m] at e; exact h.lg a o e
  · have m : a ∈ fs := m
    refine ⟨(h.off a (List.mem_append_right _ m)).1, ?_⟩
    rw [lock_out fun z => nd.2.2 a z a m rfl]
    exact (h.off a (List.mem_append_right _ m)).2
  · by_cases m : a ∈ fv
    · refine ⟨(h.off a (List.mem_append_left _ m)).1, ?_⟩
      rw [lock_in m] at e
      obtain ⟨o', e', n⟩ := h.vl.has _ _ _ a m
      rw [e] at e'
      cases e'
      exact n
    · rw [lock_out m] at e; exact h.dj a o e
  · obtain ⟨fu, fs', k⟩ := k
    have keepH : ∀ a ∈ fv, H' a = H a := fun a m => by
      obtain ⟨o, e, _⟩ := h.vl.has _ _ _ a m
      rw [e]
      exact k.lg a o (by rw [lock_in m]; exact e)
    have apart : ∀ a ∈ fu ++ fs', a ∉ fv := fun a m z => by
      obtain ⟨o, e, _⟩ := h.vl.has _ _ _ a z
      have := (k.off a m).2
      rw [lock_in z, e] at this
      cases this
    have kn := List.nodup_append.mp k.nd
    refine ⟨fv ++ fu, fs', k.lf, fun a o e => k.lg a o (sg a o e), k.sl, (h.vl.stay sf _ _ _ keepH).app k.vl, ?_, fun a m => ?_, fun a o e => k.dj a o (sg a o e)⟩
    · rw [List.append_assoc]
      exact List.nodup_append.mpr ⟨nd.1, k.nd, fun a ha b hb e => apart b hb (e ▸ ha)⟩
    · rw [List.append_assoc] at m
      rcases List.mem_append.mp m with m | m
      · refine ⟨?_, (h.off a (List.mem_append_left _ m)).2⟩
        obtain ⟨o, e, _⟩ := h.vl.has _ _ _ a m
        exact (k.dj a o (by rw [lock_in m]; exact e)).1
      · exact ⟨(k.off a m).1, by
          have z := (k.off a m).2
          rwa [lock_out (apart a m)] at z⟩
theorem RepA.weakG (h : RepA F G' H σ S vs xs) (s : Same G G') : RepA F G H σ S vs xs := by
  obtain ⟨fv, fs, h⟩ := h
  refine ⟨fv, fs, h.lf, fun a o e => h.lg a o (s a o e), h.sl, h.vl, h.nd, fun a m => ⟨(h.off a m).1, ?_⟩, fun a o e => h.dj a o (s a o e)⟩
  cases q : G a with
  | none => rfl
  | some u =>
    have := (h.off a m).2
    rw [s a u q] at this
    cases this
/-- values in hand dropped -/
theorem RepA.drop (h : RepA F G H σ S (vs ++ us) (xs ++ ys)) (hl : vs.length = xs.length) : RepA F G H σ S us ys := by
  obtain ⟨fv, fs, h⟩ := h
  have sp : ∀ (xs : List PV) (vs : List V) (fv : List Addr), vs.length = xs.length → RVs σ F H (vs ++ us) (xs ++ ys) fv → ∃ f g, fv = f ++ g ∧ RVs σ F H us ys g := by
    intro xs
    induction xs with
    | nil =>
      intro vs fv e r
      cases vs with
      | nil => exact ⟨[], fv, rfl, r⟩
      | cons _ _ => cases e
    | cons x xs ih =>
      intro vs fv e r
      cases vs with
      | nil => cases e
      | cons v vs =>
        cases r with
        | cons r1 r2 =>
          obtain ⟨f, g, rfl, q⟩ := ih vs _ (Nat.succ.inj e) r2
          exact ⟨_ ++ f, g, (List.append_assoc ..).symm, q⟩
  obtain ⟨f, g, rfl, q⟩ := sp xs vs fv hl h.vl
  have nd := h.nd
  rw [List.append_assoc] at nd
  exact ⟨g, fs, h.lf, h.lg, h.sl, q, (List.nodup_append.mp nd).2.1, fun a m => h.off a (by rw [List.append_assoc]; exact List.mem_append_right _ m), h.dj⟩
theorem RepA.tl {v : V} {x : PV} (h : RepA F G H σ S (v :: vs) (x :: xs)) : RepA F G H σ S vs xs := RepA.drop (vs := [v]) (xs := [x]) h rfl
theorem RepA.rep (h : RepA F G H σ S vs xs) : Rep F G H σ S := by
  have hl : vs.length = xs.length := by obtain ⟨fv, fs, h⟩ := h; exact h.vl.len
  refine RepA.drop (vs := vs) (xs := xs) (us := []) (ys := []) ?_ hl
  rw [List.append_nil, List.append_nil]
  exact h
theorem RepA.lf (h : RepA F G H σ S vs xs) : Same F H := by obtain ⟨_, _, h⟩ := h; exact h.lf
/-- the i-th in hand -/
theorem RepA.at (h : RepA F G H σ S vs xs) : ∀ {i : Nat} {x : PV}, xs[i]? = some x → ∃ v f, vs[i]? = some v ∧ RV σ F H v x f ∧ ∀ a ∈ f, F a = none ∧ G a = none := by
  obtain ⟨fv, fs, h⟩ := h
  have ha : ∀ a ∈ fv, F a = none ∧ G a = none := fun a m => h.off a (List.mem_append_left _ m)
  have hv := h.vl
  clear h
  intro i x e
  induction i generalizing xs vs fv with
  | zero =>
    cases xs with
    | nil => cases e
    | cons y ys =>
      cases hv with
      | cons h1 h2 =>
        cases e
        exact ⟨_, _, rfl, h1, fun a m => ha a (List.mem_append_left _ m)⟩
  | succ i ih =>
    cases xs with
    | nil => cases e
    | cons y ys =>
      cases hv with
      | cons h1 h2 => exact ih _ (fun a m => ha a (List.mem_append_right _ m)) h2 (by simpa using e)
theorem RepA.hd {v : V} {x : PV} (h : RepA F G H σ S (v :: vs) (x :: xs)) : ∃ f, RV σ F H v x f := by
  obtain ⟨u, f, e, r, _⟩ := h.at (i := 0) rfl
  cases e
  exact ⟨f, r⟩
theorem RepA.dat {v : V} {x : PyData} (h : RepA F G H σ S (v :: vs) (.d x :: xs)) : Lv F v x := by
  obtain ⟨f, r⟩ := h.hd
  cases r with
  | d r => exact r
/-- data in hand -/
theorem Rep.withD {v : V} {x : PyData} (h : Rep F G H σ S) (hv : Lv F v x) : RepA F G H σ S [v] [.d x] := by
  obtain ⟨fv, fs, h⟩ := h
  cases h.vl
  exact ⟨[], fs, h.lf, h.lg, h.sl, RVs.cons (f := []) (.d hv) .nil, h.nd, h.off, h.dj⟩
theorem Rep.withTy {n : String} (h : Rep F G H σ S) : RepA F G H σ S [.ty n] [.ty n] := by
  obtain ⟨fv, fs, h⟩ := h
  cases h.vl
  exact ⟨[], fs, h.lf, h.lg, h.sl, RVs.cons (f := []) (.ty n) .nil, h.nd, h.off, h.dj⟩
theorem upd_mine {H : Hp} {p : Addr} {o : HO} {a : Addr} {u : HO} (h : upd H p o a = some u) : (a = p ∧ u = o) ∨ (a ≠ p ∧ H a = some u) := by
  by_cases e : a = p
  · subst e
    rw [upd_same] at h
    exact .inl ⟨rfl, (Option.some.inj h).symm⟩
  · rw [upd_ne e] at h
    exact .inr ⟨e, h⟩
/-- the heap has grown by a tuple (or by none: it was there) -/
theorem RepA.tup {p : Addr} {ts : List V} (h : RepA F G H σ S vs xs) (s : Same H H') (e : H' p = some (.tup ts)) : ∃ F', Same F F' ∧ F' p = some (.tup ts) ∧ RepA F' G H' σ S vs xs := by
  obtain ⟨fv, fs, h⟩ := h
  have feet : ∀ a ∈ fv ++ fs, ∃ o, H a = some o ∧ ∀ ts, o ≠ .tup ts := fun a m => (List.mem_append.mp m).elim (h.vl.has _ _ _ a) (h.sl.has a)
  have keep : ∀ a ∈ fv ++ fs, H' a = H a := fun a m => by
    obtain ⟨o, e1, _⟩ := feet a m
    rw [e1]
    exact s a o e1
  have pne : ∀ a o, H a = some o → (∀ ts, o ≠ .tup ts) → a ≠ p := fun a o e1 n z => by
    subst z
    rw [s a o e1] at e
    exact n ts (Option.some.inj e)
  have sF : Same F (upd F p (.tup ts)) := fun a u q => by
    by_cases z : a = p
    · subst z
      have := s a u (h.lf a u q)
      rw [e] at this
      rw [upd_same]
      exact this
    · rw [upd_ne z]
      exact q
  refine ⟨upd F p (.tup ts), sF, upd_same, fv, fs, fun a u q => ?_, fun a u q => s a u (h.lg a u q), h.sl.stay sF fun a m => keep a (List.mem_append_right _ m), h.vl.stay sF _ _ _ fun a m => keep a (List.mem_append_left _ m), h.nd, fun a m => ?_, fun a u q => ⟨?_, (h.dj a u q).2⟩⟩
  · rcases upd_mine q with ⟨rfl, rfl⟩ | ⟨_, q⟩
    · exact e
    · exact s a u (h.lf a u q)
  · obtain ⟨o, e1, n⟩ := feet a m
    rw [upd_ne (pne a o e1 n)]
    exact h.off a m
  · rw [upd_ne (pne a u (h.lg a u q) (h.dj a u q).2)]
    exact (h.dj a u q).1
/-- .. by what is no one's -/
theorem RepA.same (h : RepA F G H σ S vs xs) (s : Same H H') : RepA F G H' σ S vs xs := by
  obtain ⟨fv, fs, h⟩ := h
  have keep : ∀ a ∈ fv ++ fs, H' a = H a := fun a m => by
    obtain ⟨o, e1, _⟩ := (List.mem_append.mp m).elim (h.vl.has _ _ _ a) (h.sl.has a)
    rw [e1]
    exact s a o e1
  exact ⟨fv, fs, fun a u q => s a u (h.lf a u q), fun a u q => s a u (h.lg a u q), h.sl.stay (fun _ _ q => q) fun a m => keep a (List.mem_append_right _ m), h.vl.stay (fun _ _ q => q) _ _ _ fun a m => keep a (List.mem_append_left _ m), h.nd, h.off, h.dj⟩
/-- .. by an own thing at new feet -/
theorem RepA.new {v : V} {x : PV} {f : List Addr} (h : RepA F G H σ S vs xs) (s : Same H H') (hf : ∀ a ∈ f, H a = none) (nf : f.Nodup) (r : RV σ F H' v x f) : RepA F G H' σ S (v :: vs) (x :: xs) := by
  have h0 := h.same s
  obtain ⟨fv, fs, h⟩ := h
  have free : ∀ a ∈ f, a ∉ fv ++ fs := fun a m z => by
    obtain ⟨o, e1, _⟩ := (List.mem_append.mp z).elim (h.vl.has _ _ _ a) (h.sl.has a)
    rw [hf a m] at e1
    cases e1
  have no : ∀ {K : Hp}, Same K H → ∀ a ∈ f, K a = none := fun {K} sk a m => by
    cases q : K a with
    | none => rfl
    | some u =>
      have := sk a u q
      rw [hf a m] at this
      cases this
  have keep : ∀ a ∈ fv ++ fs, H' a = H a := fun a m => by
    obtain ⟨o, e1, _⟩ := (List.mem_append.mp m).elim (h.vl.has _ _ _ a) (h.sl.has a)
    rw [e1]
    exact s a o e1
  refine ⟨f ++ fv, fs, fun a u q => s a u (h.lf a u q), fun a u q => s a u (h.lg a u q), h.sl.stay (fun _ _ q => q) fun a m => keep a (List.mem_append_right _ m), .cons r (h.vl.stay (fun _ _ q => q) _ _ _ fun a m => keep a (List.mem_append_left _ m)), ?_, fun a m => ?_, h.dj⟩
  · rw [List.append_assoc]
    exact List.nodup_append.mpr ⟨nf, h.nd, fun a ha b hb z => free a ha (z ▸ hb)⟩
  · rw [List.append_assoc] at m
    rcases List.mem_append.mp m with m | m
    · exact ⟨no h.lf a m, no h.lg a m⟩
    · exact h.off a m
section
variable {F F' G G' H H' : Hp} {σ σ' : L2.St} {S S' : List PV} {vs us : List V} {xs ys : List PV}
theorem RepF.taken {fv fs : List Addr} {i : Nat} {x : PV} (h : RepF F G H σ S vs xs fv fs) (e : S[i]? = some x) (n : x ≠ .un) :
    ∃ v f fs', σ[i]? = some (some v) ∧ RV [] F H v x f ∧ RSl F H σ (S.set i .un) fs' ∧ f.Nodup ∧ fs'.Nodup ∧ (∀ a ∈ f, a ∉ fv ∧ a ∉ fs') ∧ (∀ a ∈ fs', a ∉ fv) ∧ (∀ a ∈ f, a ∈ fs) ∧ (∀ a ∈ fs', a ∈ fs) := by
  obtain ⟨v, f, fs', e1, r, rs, pm⟩ := h.sl.take e n
  have nd := List.nodup_append.mp h.nd
  have n2 := List.nodup_append.mp (pm.nodup_iff.mpr nd.2.1)
  have m1 : ∀ a ∈ f, a ∈ fs := fun a m => pm.mem_iff.mp (List.mem_append_left _ m)
  have m2 : ∀ a ∈ fs', a ∈ fs := fun a m => pm.mem_iff.mp (List.mem_append_right _ m)
  exact ⟨v, f, fs', e1, r, rs, n2.1, n2.2.1, fun a m => ⟨fun z => nd.2.2 a z a (m1 a m) rfl, fun z => n2.2.2 a m a z rfl⟩, fun a m z => nd.2.2 a z a (m2 a m) rfl, m1, m2⟩
theorem RV.other {F H : Hp} {σ τ : L2.St} {x : PV} {v : V} {f : List Addr} (h : RV σ F H v x f) (n : ∀ i, x ≠ .al i) : RV τ F H v x f := by
  cases h with
  | un v => exact .un v
  | d h => exact .d h
  | l h1 h2 => exact .l h1 h2
  | o h => exact .o h
  | t h1 h2 => exact .t h1 h2
  | ty => exact .ty _
  | al h => exact absurd rfl (n _)
theorem RV.noal {F H : Hp} {x : PV} {v : V} {f : List Addr} (h : RV [] F H v x f) : ∀ i, x ≠ .al i := fun i e => by
  subst e
  cases h with
  | al h => cases h
theorem RV.any {F H : Hp} {τ : L2.St} {x : PV} {v : V} {f : List Addr} (h : RV [] F H v x f) : RV τ F H v x f := h.other h.noal
/-- a slot's thing is changed where it stands -/
theorem RepA.chg {i : Nat} {x : PV} (h : RepA F G H σ S vs xs) (e : S[i]? = some x) (n : x ≠ .un) : ∃ v f, σ[i]? = some (some v) ∧ RV [] F H v x f ∧ (∀ a ∈ f, F a = none ∧ G a = none) ∧
    ∀ H' x' f', (∀ a o, a ∉ f → H a = some o → H' a = some o) → RV [] F H' v x' f' → f'.Nodup → (∀ a ∈ f', a ∈ f ∨ H a = none) → RepA F G H' σ (S.set i x') vs xs := by
  obtain ⟨fv, fs, h⟩ := h
  obtain ⟨v, f, fs', e1, r, rs, nf, nfs, d1, d2, m1, m2⟩ := h.taken e n
  have hi : i < S.length := (List.getElem?_eq_some_iff.mp e).1
  refine ⟨v, f, e1, r, fun a m => h.off a (List.mem_append_right _ (m1 a m)), fun H' x' f' k r' nf' new => ?_⟩
  have feet : ∀ a ∈ fv ++ fs', ∃ o, H a = some o ∧ ∀ ts, o ≠ .tup ts := fun a m => (List.mem_append.mp m).elim (h.vl.has _ _ _ a) fun m => h.sl.has a (m2 a m)
  have out : ∀ a ∈ fv ++ fs', a ∉ f := fun a m z => (List.mem_append.mp m).elim (d1 a z).1 (d1 a z).2
  have keep : ∀ a ∈ fv ++ fs', H' a = H a := fun a m => by
    obtain ⟨o, e2, _⟩ := feet a m
    rw [e2]
    exact k a o (out a m) e2
  have keepK : ∀ {K : Hp}, Same K H → (∀ a ∈ f, K a = none) → Same K H' := fun {K} sk z a o q => k a o (fun m => by rw [z a m] at q; cases q) (sk a o q)
  have fF : ∀ a ∈ f, F a = none ∧ G a = none := fun a m => h.off a (List.mem_append_right _ (m1 a m))
  have f'out : ∀ a ∈ f', a ∉ fv ++ fs' := fun a m z => by
    rcases new a m with q | q
    · exact out a z q
    · obtain ⟨o, e2, _⟩ := feet a z
      rw [q] at e2
      cases e2
  have rs' := rs.stay (F' := F) (H' := H') (fun _ _ q => q) fun a m => keep a (List.mem_append_right _ m)
  obtain ⟨fs2, q1, q2, q3⟩ := rs'.put (i := i) (v := v) (x := x') (f := f') (by rw [List.length_set]; exact hi) r' (List.nodup_append.mpr ⟨nf', nfs, fun a ha b hb z => f'out a ha (List.mem_append_right _ (z ▸ hb))⟩)
  rw [List.set_set] at q1
  have eσ : σ.set i (some v) = σ := by
    refine List.ext_getElem? fun j => ?_
    by_cases z : i = j
    · subst z
      rw [List.getElem?_set_self (List.getElem?_eq_some_iff.mp e1).1, e1]
    · rw [List.getElem?_set_ne z]
  rw [eσ] at q1
  refine ⟨fv, fs2, keepK h.lf fun a m => (fF a m).1, keepK h.lg fun a m => (fF a m).2, q1, h.vl.stay (fun _ _ q => q) _ _ _ fun a m => keep a (List.mem_append_left _ m), List.nodup_append.mpr ⟨(List.nodup_append.mp h.nd).1, q2, fun a ha b hb z => ?_⟩, fun a m => ?_, h.dj⟩
  · subst z
    rcases List.mem_append.mp (q3 a hb) with m | m
    · exact f'out a m (List.mem_append_left _ ha)
    · exact d2 a m ha
  · rcases List.mem_append.mp m with m | m
    · exact h.off a (List.mem_append_left _ m)
    · rcases List.mem_append.mp (q3 a m) with m | m
      · rcases new a m with q | q
        · exact fF a q
        · constructor
          · cases z : F a with
            | none => rfl
            | some u =>
              have := h.lf a u z
              rw [q] at this
              cases this
          · cases z : G a with
            | none => rfl
            | some u =>
              have := h.lg a u z
              rw [q] at this
              cases this
      · exact h.off a (List.mem_append_right _ (m2 a m))
/-- a slot's thing, taken into the hand -/
theorem RepA.move {i : Nat} {x : PV} {v : V} (h : RepA F G H σ S (v :: vs) (.al i :: xs)) (e : S[i]? = some x) : RepA F G H σ (S.set i .un) (v :: vs) (x :: xs) := by
  obtain ⟨fv, fs, h⟩ := h
  by_cases n : x = .un
  · subst n
    have eS : S.set i .un = S := by
      refine List.ext_getElem? fun j => ?_
      by_cases z : i = j
      · subst z
        rw [List.getElem?_set_self (List.getElem?_eq_some_iff.mp e).1, e]
      · rw [List.getElem?_set_ne z]
    rw [eS]
    cases hv : h.vl with
    | cons h1 h2 =>
      have nf : ∀ {f : List Addr}, RV σ F H v (.al i) f → f = [] := fun r => by cases r; rfl
      cases nf h1
      exact ⟨_, fs, h.lf, h.lg, h.sl, RVs.cons (.un v) h2, h.nd, h.off, h.dj⟩
  · obtain ⟨u, f, fs', e1, r, rs, nf, nfs, d1, d2, m1, m2⟩ := h.taken e n
    cases hv : h.vl with
    | cons h1 h2 =>
      have eu : v = u := by
        cases h1 with
        | al z =>
          rw [z] at e1
          exact Option.some.inj (Option.some.inj e1)
      subst eu
      have n0 : ∀ {g : List Addr}, RV σ F H v (.al i) g → g = [] := fun r => by cases r; rfl
      cases n0 h1
      refine ⟨_, fs', h.lf, h.lg, rs, RVs.cons r.any h2, ?_, fun a m => ?_, h.dj⟩
      · rw [List.append_assoc]
        refine List.nodup_append.mpr ⟨nf, List.nodup_append.mpr ⟨(List.nodup_append.mp h.nd).1, nfs, fun a ha b hb z => d2 b hb (z ▸ ha)⟩, fun a ha b hb z => ?_⟩
        subst z
        rcases List.mem_append.mp hb with m | m
        · exact (d1 a ha).1 m
        · exact (d1 a ha).2 m
      · rw [List.append_assoc] at m
        rcases List.mem_append.mp m with m | m
        · exact h.off a (List.mem_append_right _ (m1 a m))
        · rcases List.mem_append.mp m with m | m
          · exact h.off a (List.mem_append_left _ m)
          · exact h.off a (List.mem_append_right _ (m2 a m))
/-- a value without another name is put into a slot -/
theorem RepA.put {i : Nat} {x : PV} {v : V} (h : RepA F G H σ S [v] [x]) (hi : i < S.length) (na : ∀ f, RV σ F H v x f → RV [] F H v x f) : Rep F G H (σ.set i (some v)) (S.set i x) := by
  obtain ⟨fv, fs, h⟩ := h
  cases hv : h.vl with
  | cons h1 h2 =>
    cases h2
    have nd := h.nd
    have off := h.off
    rw [List.append_nil] at nd off
    obtain ⟨fs', q1, q2, q3⟩ := h.sl.put hi (na _ h1) nd
    exact ⟨[], fs', h.lf, h.lg, q1, .nil, q2, fun a m => off a (q3 a m), h.dj⟩
/-- a name read -/
theorem RepA.nameD {i : Nat} {x : PyData} (h : Rep F G H σ S) (e : S[i]? = some (.d x)) : ∃ v, σ[i]? = some (some v) ∧ RepA F G H σ S [v] [.d x] := by
  obtain ⟨v, f, e1, r, _⟩ := h.chg e (fun z => nomatch z)
  cases r with
  | d r => exact ⟨v, e1, h.withD r⟩
theorem RepA.nameO {i : Nat} {x : PV} (h : Rep F G H σ S) (e : S[i]? = some x) (n : x ≠ .un) : ∃ v, σ[i]? = some (some v) ∧ RepA F G H σ S [v] [.al i] := by
  obtain ⟨v, f, e1, r, _⟩ := h.chg e n
  obtain ⟨fv, fs, h⟩ := h
  cases h.vl
  exact ⟨v, e1, [], fs, h.lf, h.lg, h.sl, RVs.cons (f := []) (.al e1) .nil, h.nd, h.off, h.dj⟩
theorem RepA.lenS (h : RepA F G H σ S vs xs) : S.length = σ.length := by
  obtain ⟨_, _, h⟩ := h
  exact h.sl.len
end
end
end Px

namespace Px
open PySem PySem.Spec PyProof.Rows L2 Fo
/-! ### pure readings -/
abbrev KP := PV → List PV → Prop
abbrev TX := List PV → KP → Prop
abbrev TXA := List PV → (List PV → List PV → Prop) → Prop
abbrev TXT := List PV → (Bool → List PV → Prop) → Prop
abbrev TXG := PV → List PV → (List PV → Prop) → Prop
abbrev TXGs := List PV → List PV → (List PV → Prop) → Prop
abbrev TXI := List PV → (List PyData → List PV → Prop) → Prop
structure Dn where
  nx : List PV → Prop
  rt : KP
  bk : List PV → Prop := fun _ => False
  ct : List PV → Prop := fun _ => False
abbrev TXS := Dn → List PV → Prop
def Fin (F G : Hp) (σ : L2.St) (Qp : KP) (Q : VK) : Prop := ∀ v r S' F' H', RepA F' G H' σ S' [v] [r] → Same F F' → Qp r S' → Q v H'
def rw (t : TX) : TE := fun σ H Q => ∃ F G S Qp, Rep F G H σ S ∧ t S Qp ∧ Fin F G σ Qp Q
def FinA (F G : Hp) (σ : L2.St) (Qp : List PV → List PV → Prop) (Q : List V → Hp → Prop) : Prop := ∀ vs xs S' F' H', RepA F' G H' σ S' vs xs → Same F F' → Qp xs S' → Q vs H'
def rwA (t : TXA) : TA := fun σ H Q => ∃ F G S Qp, Rep F G H σ S ∧ t S Qp ∧ FinA F G σ Qp Q
def FinT (F G : Hp) (σ : L2.St) (Qp : Bool → List PV → Prop) (Q : Bool → Hp → Prop) : Prop := ∀ b S' F' H', Rep F' G H' σ S' → Same F F' → Qp b S' → Q b H'
def rwT (t : TXT) : TT := fun σ H Q => ∃ F G S Qp, Rep F G H σ S ∧ t S Qp ∧ FinT F G σ Qp Q
/-- these slots are as they were -/
def Kp (kp : Nat → Bool) (σ σ' : L2.St) : Prop := σ'.length = σ.length ∧ ∀ i, kp i = true → σ'[i]? = σ[i]?
theorem Kp.refl (kp : Nat → Bool) (σ : L2.St) : Kp kp σ σ := ⟨rfl, fun _ _ => rfl⟩
theorem Kp.trans {kp : Nat → Bool} {a b c : L2.St} (h : Kp kp a b) (k : Kp kp b c) : Kp kp a c := ⟨k.1.trans h.1, fun i e => (k.2 i e).trans (h.2 i e)⟩
theorem Kp.set {kp : Nat → Bool} {σ : L2.St} {i : Nat} {v : Option V} (h : kp i = false) : Kp kp σ (σ.set i v) := ⟨List.length_set .., fun j e => by
  rw [List.getElem?_set_ne]
  rintro rfl
  rw [h] at e
  cases e⟩
def FinG (kp : Nat → Bool) (F G : Hp) (σ : L2.St) (Qp : List PV → Prop) (Q : L2.St → Hp → Prop) : Prop := ∀ σ' S' F' H', Rep F' G H' σ' S' → Same F F' → Kp kp σ σ' → Qp S' → Q σ' H'
def rwG (kp : Nat → Bool) (t : TXG) : TG := fun v σ H Q => ∃ F G S x Qp, RepA F G H σ S [v] [x] ∧ t x S Qp ∧ FinG kp F G σ Qp Q
def rwGs (kp : Nat → Bool) (t : TXGs) : TGs := fun vs σ H Q => ∃ F G S xs Qp, RepA F G H σ S vs xs ∧ (∀ x ∈ xs, ∀ i, x ≠ .al i) ∧ t xs S Qp ∧ FinG kp F G σ Qp Q
def FinR (kp : Nat → Bool) (F G : Hp) (σ : L2.St) (Qp : KP) (Q : VK) : Prop := ∀ v r σ' S' F' H', RepA F' G H' σ' S' [v] [r] → Same F F' → Kp kp σ σ' → Qp r S' → Q v H'
structure FinS (kp : Nat → Bool) (F G : Hp) (σ : L2.St) (Dp : Dn) (D : Ends) : Prop where
  nx : FinG kp F G σ Dp.nx D.nx
  rt : FinR kp F G σ Dp.rt D.rt
  bk : FinG kp F G σ Dp.bk D.bk
  ct : FinG kp F G σ Dp.ct D.ct
def rwS (kp : Nat → Bool) (t : TXS) : TS := fun D σ H => ∃ F G S Dp, Rep F G H σ S ∧ t Dp S ∧ FinS kp F G σ Dp D
section
variable {F F1 G : Hp} {σ : L2.St} {kp : Nat → Bool}
theorem Fin.up {Qp : KP} {Q : VK} (k : Fin F G σ Qp Q) (s : Same F F1) : Fin F1 G σ Qp Q := fun v r S' F' H' h s' q => k v r S' F' H' h (s.trans s') q
theorem FinA.up {Qp : List PV → List PV → Prop} {Q : List V → Hp → Prop} (k : FinA F G σ Qp Q) (s : Same F F1) : FinA F1 G σ Qp Q := fun v r S' F' H' h s' q => k v r S' F' H' h (s.trans s') q
theorem FinT.up {Qp : Bool → List PV → Prop} {Q : Bool → Hp → Prop} (k : FinT F G σ Qp Q) (s : Same F F1) : FinT F1 G σ Qp Q := fun r S' F' H' h s' q => k r S' F' H' h (s.trans s') q
theorem FinG.up {Qp : List PV → Prop} {Q : L2.St → Hp → Prop} (k : FinG kp F G σ Qp Q) (s : Same F F1) : FinG kp F1 G σ Qp Q := fun σ' S' F' H' h s' e q => k σ' S' F' H' h (s.trans s') e q
theorem FinG.on {Qp : List PV → Prop} {Q : L2.St → Hp → Prop} {σ1 : L2.St} (k : FinG kp F G σ Qp Q) (s : Same F F1) (e1 : Kp kp σ σ1) : FinG kp F1 G σ1 Qp Q := fun σ' S' F' H' h s' e q => k σ' S' F' H' h (s.trans s') (e1.trans e) q
theorem FinR.on {Qp : KP} {Q : VK} {σ1 : L2.St} (k : FinR kp F G σ Qp Q) (s : Same F F1) (e1 : Kp kp σ σ1) : FinR kp F1 G σ1 Qp Q := fun v r σ' S' F' H' h s' e q => k v r σ' S' F' H' h (s.trans s') (e1.trans e) q
theorem FinS.on {Dp : Dn} {D : Ends} {σ1 : L2.St} (k : FinS kp F G σ Dp D) (s : Same F F1) (e1 : Kp kp σ σ1) : FinS kp F1 G σ1 Dp D := ⟨k.nx.on s e1, k.rt.on s e1, k.bk.on s e1, k.ct.on s e1⟩
end
/-- the state, reckoned out -/
def force : List PV → (List PV → Prop) → Prop
  | [], k => k []
  | x :: r, k => force r fun r' => k (x :: r')
theorem force_eq : ∀ (l : List PV) (k : List PV → Prop), force l k = k l
  | [], k => rfl
  | x :: r, k => force_eq r fun r' => k (x :: r')
theorem unforce {l : List PV} {k : List PV → Prop} (h : force l k) : k l := by rw [force_eq] at h; exact h
theorem doforce {l : List PV} {k : List PV → Prop} (h : k l) : force l k := by rw [force_eq]; exact h
/-! ### imp -/
theorem PT_imp {X : Cx} {e : Expr} {t t' : TT} (h : PT X e t) (i : ∀ σ H Q, t' σ H Q → t σ H Q) : PT X e t' := ⟨fun pins s σ H Q I q => h.run pins s σ H Q I (i _ _ _ q)⟩
theorem PW_imp {X : Cx} {e : Expr} {t t' : TT} (h : PW X e t) (i : ∀ σ H Q, t' σ H Q → t σ H Q) : PW X e t' := ⟨fun w pins s σ H Q I q => h.run w pins s σ H Q I (i _ _ _ q)⟩
theorem PA_imp {X : Cx} {e : List Expr} {t t' : TA} (h : PA X e t) (i : ∀ σ H Q, t' σ H Q → t σ H Q) : PA X e t' := ⟨fun p pins s σ H Q I q => h.run p pins s σ H Q I (i _ _ _ q)⟩
theorem PS_imp {X : Cx} {e : Stmt} {t t' : TS} (h : PS X e t) (i : ∀ D σ H, t' D σ H → t D σ H) : PS X e t' := ⟨fun pins s σ H D I q => h.run pins s σ H D I (i _ _ _ q)⟩
theorem PSs_imp {X : Cx} {e : List Stmt} {t t' : TS} (h : PSs X e t) (i : ∀ D σ H, t' D σ H → t D σ H) : PSs X e t' := ⟨fun pins s σ H D I q => h.run pins s σ H D I (i _ _ _ q)⟩
theorem PG_imp {X : Cx} {e : Expr} {t t' : TG} (h : PG X e t) (i : ∀ v σ H Q, t' v σ H Q → t v σ H Q) : PG X e t' := ⟨fun pins s σ H v u Q I r q => h.run pins s σ H v u Q I r (i _ _ _ _ q)⟩
theorem PGs_imp {X : Cx} {e : List Expr} {t t' : TGs} (h : PGs X e t) (i : ∀ v σ H Q, t' v σ H Q → t v σ H Q) : PGs X e t' := ⟨fun pins s σ H v u Q I r q => h.run pins s σ H v u Q I r (i _ _ _ _ q)⟩
/-! ### expressions -/
/-- what stands behind a name in hand -/
def look (S : List PV) : PV → PV
  | .al i => S.getD i .un
  | x => x
def isOwn : PV → Bool
  | .l _ => true
  | .o _ => true
  | .t _ => true
  | _ => false
def nameX (i : Nat) : TX := fun S Q => match S[i]? with
  | some (.d x) => Q (.d x) S
  | some (.l _) => Q (.al i) S
  | some (.o _) => Q (.al i) S
  | some (.t _) => Q (.al i) S
  | _ => False
def valX (x : PV) : TX := fun S Q => Q x S
section
variable {X : Cx} {e a b c : Expr} {pos : Pos} {ta tb tc : TX} {kp : Nat → Bool}
theorem x_var {i : Nat} (h : PE X e (tVar i)) : PE X e (rw (nameX i)) := PE_imp h fun σ H Q q => by
  obtain ⟨F, G, S, Qp, hr, ht, k⟩ := q
  unfold nameX at ht
  cases e : S[i]? with
  | none => rw [e] at ht; exact ht.elim
  | some x =>
    rw [e] at ht
    cases x with
    | d x =>
      obtain ⟨v, ev, r⟩ := hr.nameD e
      exact ⟨v, ev, k v _ _ _ _ r (Same.refl _) ht⟩
    | l x =>
      obtain ⟨v, ev, r⟩ := hr.nameO e (fun z => nomatch z)
      exact ⟨v, ev, k v _ _ _ _ r (Same.refl _) ht⟩
    | o x =>
      obtain ⟨v, ev, r⟩ := hr.nameO e (fun z => nomatch z)
      exact ⟨v, ev, k v _ _ _ _ r (Same.refl _) ht⟩
    | t x =>
      obtain ⟨v, ev, r⟩ := hr.nameO e (fun z => nomatch z)
      exact ⟨v, ev, k v _ _ _ _ r (Same.refl _) ht⟩
    | un => exact ht.elim
    | ty _ => exact ht.elim
    | al _ => exact ht.elim
/-- flat data without the heap -/
inductive Cv : V → PyData → Prop
  | non : Cv .non .none
  | bl (b : Bool) : Cv (.bl b) (.bool b)
  | int (i : Int) : Cv (.int i) (.int i)
  | str (x : Str) : Cv (.str x) (.str x)
theorem Cv.lv {v : V} {x : PyData} {F : Hp} (h : Cv v x) : Lv F v x := by
  cases h
  · exact .non
  · exact .bl _
  · exact .int _
  · exact .str _
theorem x_val {v : V} {x : PyData} (h : PE X e (tC v)) (hv : Cv v x) : PE X e (rw (valX (.d x))) := PE_imp h fun σ H Q q => by
  obtain ⟨F, G, S, Qp, hr, ht, k⟩ := q
  exact k v _ _ _ _ (hr.withD hv.lv) (Same.refl _) ht
theorem x_ty {n : String} (h : PE X e (tC (.ty n))) : PE X e (rw (valX (.ty n))) := PE_imp h fun σ H Q q => by
  obtain ⟨F, G, S, Qp, hr, ht, k⟩ := q
  exact k _ _ _ _ _ hr.withTy (Same.refl _) ht
/-! two values -/
abbrev P2 := List PV → PV → PV → KP → Prop
def Sim2 (r : R2) (p : P2) : Prop := ∀ F G H σ S v u x y Qp Q, RepA F G H σ S [v, u] [x, y] → p S x y Qp → Fin F G σ Qp Q → r v u H Q
def binX (p : P2) (ta tb : TX) : TX := fun S Q => ta S fun x S1 => tb S1 fun y S2 => p S2 x y Q
theorem bin_sim {r : R2} {p : P2} (sim : Sim2 r p) {σ : L2.St} {H : Hp} {Q : VK} (q : rw (binX p ta tb) σ H Q) : tOp r (rw ta) (rw tb) σ H Q := by
  obtain ⟨F, G, S, Qp, hr, ht, k⟩ := q
  refine ⟨F, G, S, _, hr, ht, fun v x S1 F1 H1 r1 s1 h1 => ?_⟩
  obtain ⟨G1, sg, r2, more⟩ := r1.aside
  exact ⟨F1, G1, S1, _, r2, h1, fun u y S2 F2 H2 r3 s2 h2 => sim _ _ _ _ _ _ _ _ _ _ _ (more _ _ _ _ _ r3 s2) h2 (k.up (s1.trans s2))⟩
theorem x_op {op : Operator} {r : R2} {p : P2} (sim : Sim2 r p) (ho : OpR X (binaryOp op) r) (ha : PE X a (rw ta)) (hb : PE X b (rw tb)) : PE X (.BinOp a op b pos) (rw (binX p ta tb)) :=
  PE_imp (pe_op ho ha hb) fun _ _ _ q => bin_sim sim q
theorem x_cmp {op : CmpOp} {r : R2} {p : P2} (sim : Sim2 r p) (ho : OpR X (compareOp op) r) (ha : PE X a (rw ta)) (hb : PE X b (rw tb)) (hm : behindInMarks op b = false) : PE X (.Compare a [op] [b] pos) (rw (binX p ta tb)) :=
  PE_imp (pe_cmpR ho ha hb hm) fun _ _ _ q => bin_sim sim q
/-- a test of a value that is a truth -/
def isTr : PV → Option Bool
  | .d (.bool b) => some b
  | _ => none
def testX (t : TX) : TXT := fun S Q => t S fun x S1 => ∃ b, isTr x = some b ∧ Q b S1
theorem test_sim {t : TX} {σ : L2.St} {H : Hp} {Q : Bool → Hp → Prop} (q : rwT (testX t) σ H Q) : rw t σ H (fun x H' => ∃ k, x = .bl k ∧ Q k H') := by
  obtain ⟨F, G, S, Qp, hr, ht, k⟩ := q
  refine ⟨F, G, S, _, hr, ht, fun v x S1 F1 H1 r1 s1 h1 => ?_⟩
  obtain ⟨b, eb, h1⟩ := h1
  cases x with
  | d x =>
    cases x with
    | bool b' =>
      cases eb
      cases r1.dat
      exact ⟨_, rfl, k _ _ _ _ r1.rep s1 h1⟩
    | _ => cases eb
  | _ => cases eb
theorem xt_val (h : PE X e (rw ta)) (he : ∀ whole, isTrue e X.env whole = (do let v ← whole; standAt e.pos; holding [v] (truthy v)) := by intro _; rfl) : PT X e (rwT (testX ta)) := PT_imp (pt_val h he) fun _ _ _ q => test_sim q
theorem xt_cmp {op : CmpOp} {r : R2} {p : P2} (sim : Sim2 r p) (ho : OpR X (compareOp op) r) (ha : PE X a (rw ta)) (hb : PE X b (rw tb)) (hm : behindInMarks op b = false) : PT X (.Compare a [op] [b] pos) (rwT (testX (binX p ta tb))) :=
  PT_imp (pt_cmpR ho ha hb hm) fun σ H Q q => bin_sim sim (test_sim q)
/-! and, or, not, if -/
abbrev pick : Bool → Prop → Prop → Prop
  | true, A, _ => A
  | false, _, B => B
theorem pick_of {b : Bool} {A B : Prop} (h1 : b = true → A) (h2 : b = false → B) : pick b A B := by
  cases b with
  | true => exact h1 rfl
  | false => exact h2 rfl
theorem pick_ite {b : Bool} {A B : Prop} (h : pick b A B) : if b = true then A else B := by
  cases b with
  | true => rw [if_pos rfl]; exact h
  | false => rw [if_neg Bool.false_ne_true]; exact h
def andT (t u : TXT) : TXT := fun S Q => t S fun b S1 => pick b (u S1 Q) (Q false S1)
def orT (t u : TXT) : TXT := fun S Q => t S fun b S1 => pick b (Q true S1) (u S1 Q)
def notT (t : TXT) : TXT := fun S Q => t S fun b S1 => Q (!b) S1
variable {t u : TXT} {rest : List Expr}
theorem xw_and1 (ha : PT X a (rwT t)) : PW X (.BoolOp .And [a] pos) (rwT t) := pw_and1 ha
theorem xw_or1 (ha : PT X a (rwT t)) : PW X (.BoolOp .Or [a] pos) (rwT t) := pw_or1 ha
theorem xw_and (ha : PT X a (rwT t)) (hb : PW X (.BoolOp .And (b :: rest) pos) (rwT u)) : PW X (.BoolOp .And (a :: b :: rest) pos) (rwT (andT t u)) := PW_imp (pw_and ha hb) fun σ H Q q => by
  obtain ⟨F, G, S, Qp, hr, ht, k⟩ := q
  refine ⟨F, G, S, _, hr, ht, fun b S1 F1 H1 r1 s1 h1 => ?_⟩
  cases b with
  | true =>
    rw [if_pos rfl]
    exact ⟨F1, G, S1, _, r1, h1, k.up s1⟩
  | false =>
    rw [if_neg Bool.false_ne_true]
    exact k _ _ _ _ r1 s1 h1
theorem xw_or (ha : PT X a (rwT t)) (hb : PW X (.BoolOp .Or (b :: rest) pos) (rwT u)) : PW X (.BoolOp .Or (a :: b :: rest) pos) (rwT (orT t u)) := PW_imp (pw_or ha hb) fun σ H Q q => by
  obtain ⟨F, G, S, Qp, hr, ht, k⟩ := q
  refine ⟨F, G, S, _, hr, ht, fun b S1 F1 H1 r1 s1 h1 => ?_⟩
  cases b with
  | true =>
    rw [if_pos rfl]
    exact k _ _ _ _ r1 s1 h1
  | false =>
    rw [if_neg Bool.false_ne_true]
    exact ⟨F1, G, S1, _, r1, h1, k.up s1⟩
theorem xt_not (ha : PT X a (rwT t)) : PT X (.UnaryOp .Not a pos) (rwT (notT t)) := PT_imp (pt_not ha) fun σ H Q q => by
  obtain ⟨F, G, S, Qp, hr, ht, k⟩ := q
  exact ⟨F, G, S, _, hr, ht, fun b S1 F1 H1 r1 s1 h1 => k _ _ _ _ r1 s1 h1⟩
def andX (t u : TX) : TX := fun S Q => t S fun x S1 => ∃ b, isTr x = some b ∧ pick b (u S1 Q) (Q (.d (.bool false)) S1)
def orX (t u : TX) : TX := fun S Q => t S fun x S1 => ∃ b, isTr x = some b ∧ pick b (Q (.d (.bool true)) S1) (u S1 Q)
def notX (t : TX) : TX := fun S Q => t S fun x S1 => ∃ b, isTr x = some b ∧ Q (.d (.bool (!b))) S1
theorem tr_dat {x : PV} {b : Bool} (h : isTr x = some b) : x = .d (.bool b) := by
  cases x with
  | d x => cases x <;> cases h; rfl
  | _ => cases h
theorem x_one {op} (h : PE X a (rw ta)) : PE X (.BoolOp op [a] pos) (rw ta) := pe_one h
theorem x_and (ha : PE X a (rw ta)) (hb : PE X (.BoolOp .And (b :: rest) pos) (rw tb)) : PE X (.BoolOp .And (a :: b :: rest) pos) (rw (andX ta tb)) := PE_imp (pe_and ha hb) fun σ H Q q => by
  obtain ⟨F, G, S, Qp, hr, ht, k⟩ := q
  refine ⟨F, G, S, _, hr, ht, fun v x S1 F1 H1 r1 s1 h1 => ?_⟩
  obtain ⟨b, eb, h1⟩ := h1
  cases tr_dat eb
  cases r1.dat
  refine ⟨b, rfl, ?_⟩
  cases b with
  | true =>
    rw [if_pos rfl]
    exact ⟨F1, G, S1, _, r1.rep, h1, k.up s1⟩
  | false =>
    rw [if_neg Bool.false_ne_true]
    exact k _ _ _ _ _ r1 s1 h1
theorem x_or (ha : PE X a (rw ta)) (hb : PE X (.BoolOp .Or (b :: rest) pos) (rw tb)) : PE X (.BoolOp .Or (a :: b :: rest) pos) (rw (orX ta tb)) := PE_imp (pe_or ha hb) fun σ H Q q => by
  obtain ⟨F, G, S, Qp, hr, ht, k⟩ := q
  refine ⟨F, G, S, _, hr, ht, fun v x S1 F1 H1 r1 s1 h1 => ?_⟩
  obtain ⟨b, eb, h1⟩ := h1
  cases tr_dat eb
  cases r1.dat
  refine ⟨b, rfl, ?_⟩
  cases b with
  | true =>
    rw [if_pos rfl]
    exact k _ _ _ _ _ r1 s1 h1
  | false =>
    rw [if_neg Bool.false_ne_true]
    exact ⟨F1, G, S1, _, r1.rep, h1, k.up s1⟩
theorem x_not (ha : PE X a (rw ta)) : PE X (.UnaryOp .Not a pos) (rw (notX ta)) := PE_imp (pe_not ha) fun σ H Q q => by
  obtain ⟨F, G, S, Qp, hr, ht, k⟩ := q
  refine ⟨F, G, S, _, hr, ht, fun v x S1 F1 H1 r1 s1 h1 => ?_⟩
  obtain ⟨b, eb, h1⟩ := h1
  cases tr_dat eb
  cases r1.dat
  exact ⟨b, rfl, k _ _ _ _ _ (r1.rep.withD (.bl _)) s1 h1⟩
def ifX (t : TXT) (u w : TX) : TX := fun S Q => t S fun b S1 => pick b (u S1 Q) (w S1 Q)
theorem x_if (hc : PT X c (rwT t)) (ha : PE X a (rw ta)) (hb : PE X b (rw tb)) : PE X (.IfExp c a b pos) (rw (ifX t ta tb)) := PE_imp (pe_ifExp hc ha hb) fun σ H Q q => by
  obtain ⟨F, G, S, Qp, hr, ht, k⟩ := q
  refine ⟨F, G, S, _, hr, ht, fun b S1 F1 H1 r1 s1 h1 => ?_⟩
  cases b with
  | true =>
    rw [if_pos rfl]
    exact ⟨F1, G, S1, _, r1, h1, k.up s1⟩
  | false =>
    rw [if_neg Bool.false_ne_true]
    exact ⟨F1, G, S1, _, r1, h1, k.up s1⟩
/-! arguments -/
variable {es : List Expr} {tr : TXA}
def nilA : TXA := fun S Q => Q [] S
def consA (t : TX) (r : TXA) : TXA := fun S Q => t S fun x S1 => r S1 fun xs S2 => Q (x :: xs) S2
theorem xa_nil : PA X [] (rwA nilA) := PA_imp pa_nil fun σ H Q q => by
  obtain ⟨F, G, S, Qp, hr, ht, k⟩ := q
  exact k [] [] _ _ _ hr (Same.refl _) ht
theorem xa_cons (ha : PE X e (rw ta)) (hr : PA X es (rwA tr)) (hs : starEach (e :: es) X.env = (false, eval e X.env) :: starEach es X.env := by rfl) : PA X (e :: es) (rwA (consA ta tr)) := PA_imp (pa_cons ha hr hs) fun σ H Q q => by
  obtain ⟨F, G, S, Qp, hr, ht, k⟩ := q
  refine ⟨F, G, S, _, hr, ht, fun v x S1 F1 H1 r1 s1 h1 => ?_⟩
  obtain ⟨G1, sg, r2, more⟩ := r1.aside
  exact ⟨F1, G1, S1, _, r2, h1, fun us ys S2 F2 H2 r3 s2 h2 => k _ _ _ _ _ (more _ _ _ _ _ r3 s2) (s1.trans s2) h2⟩
/-! calls of built-ins, by values -/
abbrev PC' := List PV → List PV → KP → Prop
def SimC (r : List V → Hp → VK → Prop) (p : PC') : Prop := ∀ F G H σ S vs xs Qp Q, RepA F G H σ S vs xs → p S xs Qp → Fin F G σ Qp Q → r vs H Q
def callX (p : PC') (t : TXA) : TX := fun S Q => t S fun xs S1 => p S1 xs Q
theorem call_sim {r : List V → Hp → VK → Prop} {p : PC'} (sim : SimC r p) {σ : L2.St} {H : Hp} {Q : VK} (q : rw (callX p tr) σ H Q) : rwA tr σ H (fun vs H' => r vs H' Q) := by
  obtain ⟨F, G, S, Qp, hr, ht, k⟩ := q
  exact ⟨F, G, S, _, hr, ht, fun vs xs S1 F1 H1 r1 s1 h1 => sim _ _ _ _ _ _ _ _ _ r1 h1 (k.up s1)⟩
theorem x_callB {x : Str} {id : String} {r : List V → Hp → VK → Prop} {p : PC'} {npos : Pos} (sim : SimC r p) (hc : CallR X (.builtin id) r) (hg : Gl X x) (hm : X.mg x = none) (hv : bootBuiltins x = some (.builtin id)) (ha : PA X (e :: es) (rwA tr)) (hn : x ≠ "__name__" := by decide) (hdb : (x == ("__debug__" : Str)) = false := by decide)
    (h : PE X c (tCB r (rwA tr))) : PE X c (rw (callX p tr)) := PE_imp h fun _ _ _ q => call_sim sim q
theorem x_cb {r : List V → Hp → VK → Prop} {p : PC'} (sim : SimC r p) (h : PE X c (tCB r (rwA tr))) : PE X c (rw (callX p tr)) := PE_imp h fun _ _ _ q => call_sim sim q
end
end Px

namespace Px
open PySem PySem.Spec PyProof.Rows L2 Fo
/-! ### statements -/
def putX (S : List PV) (i : Nat) : PV → List PV
  | .al j => (S.set j .un).set i (S.getD j .un)
  | x => S.set i x
def finX (S : List PV) : PV → PV × List PV
  | .al j => (S.getD j .un, S.set j .un)
  | x => (x, S)
def nextS : TXS := fun D S => D.nx S
def seqS (a b : TXS) : TXS := fun D S => a { D with nx := b D } S
def setS (i : Nat) (t : TX) : TXS := fun D S => t S fun r S1 => force (putX S1 i r) D.nx
def dropS (t : TX) : TXS := fun D S => t S fun _ S1 => D.nx S1
def retS (t : TX) : TXS := fun D S => t S fun r S1 => D.rt r S1
def retNS : TXS := fun D S => D.rt (.d .none) S
def brkS : TXS := fun D S => D.bk S
def cntS : TXS := fun D S => D.ct S
def ifS (c : TXT) (a b : TXS) : TXS := fun D S => c S fun k S1 => pick k (a D S1) (b D S1)
section
variable {F F' G G' H H' : Hp} {σ : L2.St} {S : List PV}
theorem RVs.split : ∀ {xs : List PV} {vs us : List V} {ys : List PV} {f : List Addr}, vs.length = xs.length → RVs σ F H (vs ++ us) (xs ++ ys) f → ∃ f1 f2, f = f1 ++ f2 ∧ RVs σ F H vs xs f1 ∧ RVs σ F H us ys f2
  | [], [], _, _, f, _, h => ⟨[], f, rfl, .nil, h⟩
  | [], _ :: _, _, _, _, e, _ => nomatch e
  | _ :: _, [], _, _, _, e, _ => nomatch e
  | x :: xs, v :: vs, us, ys, f, e, h => by
    cases h with
    | cons h1 h2 =>
      obtain ⟨f1, f2, rfl, q1, q2⟩ := RVs.split (xs := xs) (vs := vs) (Nat.succ.inj e) h2
      exact ⟨_, f2, (List.append_assoc ..).symm, .cons h1 q1, q2⟩
theorem RVs.others {τ : L2.St} : ∀ {xs : List PV} {vs : List V} {f : List Addr}, RVs σ F H vs xs f → (∀ x ∈ xs, ∀ i, x ≠ .al i) → RVs τ F H vs xs f
  | [], _, _, h, _ => by cases h; exact .nil
  | x :: xs, _, _, h, k => by
    cases h with
    | cons h1 h2 => exact .cons (h1.other (k x (List.mem_cons_self ..))) (RVs.others h2 fun y m => k y (List.mem_cons_of_mem _ m))
theorem RepA.aside2 {vs us : List V} {xs ys : List PV} (h : RepA F G H σ S (vs ++ us) (xs ++ ys)) (hl : vs.length = xs.length) : ∃ G1, Same G G1 ∧ RepA F G1 H σ S vs xs ∧
    ∀ F' H' σ' S' ws zs, RepA F' G1 H' σ' S' ws zs → Same F F' → (σ' = σ ∨ ∀ y ∈ ys, ∀ i, y ≠ .al i) → RepA F' G H' σ' S' (us ++ ws) (ys ++ zs) := by
  obtain ⟨f, fs, h⟩ := h
  obtain ⟨fw, fv, rfl, hw, hv⟩ := h.vl.split hl
  have nd0 := h.nd
  rw [List.append_assoc] at nd0
  have n1 := List.nodup_append.mp nd0
  have nd := List.nodup_append.mp n1.2.1
  have offv : ∀ a ∈ fv, F a = none ∧ G a = none := fun a m => h.off a (List.mem_append_left _ (List.mem_append_right _ m))
  have sg : Same G (lock G H fv) := fun a o e => by
    have nm : a ∉ fv := fun m => by
      rw [(offv a m).2] at e
      cases e
    rw [lock_out nm]
    exact e
  have mine : ∀ a ∈ fw ++ fs, a ∈ (fw ++ fv) ++ fs ∧ a ∉ fv := fun a m => by
    rcases List.mem_append.mp m with m | m
    · exact ⟨List.mem_append_left _ (List.mem_append_left _ m), fun z => n1.2.2 a m a (List.mem_append_left _ z) rfl⟩
    · exact ⟨List.mem_append_right _ m, fun z => nd.2.2 a z a m rfl⟩
  refine ⟨lock G H fv, sg, ⟨fw, fs, h.lf, fun a o e => ?_, h.sl, hw, List.nodup_append.mpr ⟨n1.1, nd.2.1, fun a ha b hb => n1.2.2 a ha b (List.mem_append_right _ hb)⟩, fun a m => ?_, fun a o e => ?_⟩, fun F' H' σ' S' ws zs k sf na => ?_⟩
  · by_cases m : a ∈ fv
    · rw [lock_in m] at e; exact e
    · rw [lock_out m] at e; exact h.lg a o e
  · have z := mine a m
    refine ⟨(h.off a z.1).1, ?_⟩
    rw [lock_out z.2]
    exact (h.off a z.1).2
  · by_cases m : a ∈ fv
    · refine ⟨(offv a m).1, ?_⟩
      rw [lock_in m] at e
      obtain ⟨o', e', n⟩ := hv.has _ _ _ a m
      rw [e] at e'
      cases e'
      exact n
    · rw [lock_out m] at e; exact h.dj a o e
  · obtain ⟨fu, fs', k⟩ := k
    have keepH : ∀ a ∈ fv, H' a = H a := fun a m => by
      obtain ⟨o, e, _⟩ := hv.has _ _ _ a m
      rw [e]
      exact k.lg a o (by rw [lock_in m]; exact e)
    have apart : ∀ a ∈ fu ++ fs', a ∉ fv := fun a m z => by
      obtain ⟨o, e, _⟩ := hv.has _ _ _ a z
      have := (k.off a m).2
      rw [lock_in z, e] at this
      cases this
    have kn := List.nodup_append.mp k.nd
    have hv' := hv.stay sf _ _ _ keepH
    have hv2 : RVs σ' F' H' us ys fv := by
      rcases na with rfl | na
      · exact hv'
      · exact hv'.others na
    refine ⟨fv ++ fu, fs', k.lf, fun a o e => k.lg a o (sg a o e), k.sl, hv2.app k.vl, ?_, fun a m => ?_, fun a o e => k.dj a o (sg a o e)⟩
    · rw [List.append_assoc]
      exact List.nodup_append.mpr ⟨nd.1, k.nd, fun a ha b hb e => apart b hb (e ▸ ha)⟩
    · rw [List.append_assoc] at m
      rcases List.mem_append.mp m with m | m
      · refine ⟨?_, (offv a m).2⟩
        obtain ⟨o, e, _⟩ := hv.has _ _ _ a m
        exact (k.dj a o (by rw [lock_in m]; exact e)).1
      · exact ⟨(k.off a m).1, by
          have z := (k.off a m).2
          rwa [lock_out (apart a m)] at z⟩
/-- the order in the hand turned -/
theorem RepA.turn {vs us : List V} {xs ys : List PV} (h : RepA F G H σ S (vs ++ us) (xs ++ ys)) (hl : vs.length = xs.length) : RepA F G H σ S (us ++ vs) (ys ++ xs) := by
  obtain ⟨f, fs, h⟩ := h
  obtain ⟨f1, f2, rfl, h1, h2⟩ := h.vl.split hl
  have pm : ((f2 ++ f1) ++ fs).Perm ((f1 ++ f2) ++ fs) := (List.perm_append_comm).append_right fs
  exact ⟨f2 ++ f1, fs, h.lf, h.lg, h.sl, h2.app h1, pm.nodup_iff.mpr h.nd, fun a m => h.off a (pm.mem_iff.mp m), h.dj⟩
end
section
variable {F F' G H : Hp} {σ : L2.St} {S : List PV} {v : V} {r : PV} {vs : List V} {xs : List PV}
theorem RepA.moved {j : Nat} (h : RepA F G H σ S (v :: vs) (.al j :: xs)) : RepA F G H σ (S.set j .un) (v :: vs) (S.getD j .un :: xs) := by
  by_cases hj : j < S.length
  · exact h.move (by rw [List.getD_eq_getElem?_getD, List.getElem?_eq_getElem hj]; rfl)
  · obtain ⟨f, r⟩ := h.hd
    cases r with
    | al e => exact absurd (List.getElem?_eq_some_iff.mp e).1 (by rw [← h.lenS]; exact hj)
/-- what stands in a slot is no other name -/
theorem RepA.slotNoal (h : RepA F G H σ S vs xs) (i j : Nat) : S.getD i .un ≠ .al j := by
  intro e
  by_cases hi : i < S.length
  · have e1 : S[i]? = some (.al j) := by rw [← e, List.getD_eq_getElem?_getD, List.getElem?_eq_getElem hi]; rfl
    obtain ⟨v, f, _, r, _⟩ := h.chg e1 (fun z => nomatch z)
    exact r.noal j rfl
  · rw [List.getD_eq_getElem?_getD, List.getElem?_eq_none (by omega)] at e
    cases e
theorem RepA.setv {x : PV} (h : RepA F G H σ S [v] [x]) (na : ∀ j, x ≠ .al j) (i : Nat) : Rep F G H (σ.set i (some v)) (S.set i x) := by
  by_cases hi : i < S.length
  · exact h.put hi fun f r => r.other na
  · have e1 : S.set i x = S := List.set_eq_of_length_le (by omega)
    have e2 : σ.set i (some v) = σ := List.set_eq_of_length_le (by rw [← h.lenS]; omega)
    rw [e1, e2]
    exact h.rep
theorem RepA.putAny (h : RepA F G H σ S [v] [r]) (i : Nat) : Rep F G H (σ.set i (some v)) (putX S i r) := by
  cases r with
  | al j => exact h.moved.setv (h.slotNoal j) i
  | _ => exact h.setv (fun j z => nomatch z) i
theorem RepA.finished (h : RepA F G H σ S [v] [r]) : RepA F G H σ (finX S r).2 [v] [(finX S r).1] := by
  cases r with
  | al j => exact h.moved
  | _ => exact h
end
section
variable {X : Cx} {e a b c : Expr} {pos : Pos} {te : TX} {tc : TXT} {kp : Nat → Bool} {st : Stmt} {rest : List Stmt} {t u : TXS} {as bs : List Stmt}
theorem xs_nil : PSs X [] (rwS kp nextS) := PSs_imp pss_nil fun D σ H q => by
  obtain ⟨F, G, S, Dp, hr, ht, k⟩ := q
  exact k.nx _ _ _ _ hr (Same.refl _) (Kp.refl ..) ht
theorem xs_cons (h1 : PS X st (rwS kp t)) (h2 : PSs X rest (rwS kp u)) : PSs X (st :: rest) (rwS kp (seqS t u)) := PSs_imp (pss_cons h1 h2) fun D σ H q => by
  obtain ⟨F, G, S, Dp, hr, ht, k⟩ := q
  exact ⟨F, G, S, _, hr, ht, ⟨fun σ' S' F' H' r' s' e' q' => ⟨F', G, S', Dp, r', q', k.on s' e'⟩, k.rt, k.bk, k.ct⟩⟩
theorem xs_one (h1 : PS X st (rwS kp t)) : PSs X [st] (rwS kp t) := pss_one h1
theorem set_sim {i : Nat} {D : Ends} {σ : L2.St} {H : Hp} (hk : kp i = false) (q : rwS kp (setS i te) D σ H) : tAsg (rw te) (gName i) D σ H := by
  obtain ⟨F, G, S, Dp, hr, ht, k⟩ := q
  exact ⟨F, G, S, _, hr, ht, fun v r S' F' H' r' s' q' => k.nx _ _ _ _ (r'.putAny i) s' (Kp.set hk) (unforce q')⟩
theorem xs_set {i : Nat} (hk : kp i = false) (h : PS X st (tAsg (rw te) (gName i))) : PS X st (rwS kp (setS i te)) := PS_imp h fun _ _ _ q => set_sim hk q
theorem xs_expr (h : PS X st (tDrop (rw te))) : PS X st (rwS kp (dropS te)) := PS_imp h fun D σ H q => by
  obtain ⟨F, G, S, Dp, hr, ht, k⟩ := q
  exact ⟨F, G, S, _, hr, ht, fun v r S' F' H' r' s' q' => k.nx _ _ _ _ r'.rep s' (Kp.refl ..) q'⟩
theorem xs_ret (h : PS X st (tRet (rw te))) : PS X st (rwS kp (retS te)) := PS_imp h fun D σ H q => by
  obtain ⟨F, G, S, Dp, hr, ht, k⟩ := q
  exact ⟨F, G, S, _, hr, ht, fun v r S' F' H' r' s' q' => k.rt _ _ _ _ _ _ r' s' (Kp.refl ..) q'⟩
theorem xs_retN (h : PS X st tRetN) : PS X st (rwS kp retNS) := PS_imp h fun D σ H q => by
  obtain ⟨F, G, S, Dp, hr, ht, k⟩ := q
  exact k.rt _ _ _ _ _ _ (hr.withD .non) (Same.refl _) (Kp.refl ..) ht
theorem xs_break (h : PS X st tBreak) : PS X st (rwS kp brkS) := PS_imp h fun D σ H q => by
  obtain ⟨F, G, S, Dp, hr, ht, k⟩ := q
  exact k.bk _ _ _ _ hr (Same.refl _) (Kp.refl ..) ht
theorem xs_cont (h : PS X st tCont) : PS X st (rwS kp cntS) := PS_imp h fun D σ H q => by
  obtain ⟨F, G, S, Dp, hr, ht, k⟩ := q
  exact k.ct _ _ _ _ hr (Same.refl _) (Kp.refl ..) ht
theorem xs_pass (h : PS X st tNext) : PS X st (rwS kp nextS) := PS_imp h fun D σ H q => by
  obtain ⟨F, G, S, Dp, hr, ht, k⟩ := q
  exact k.nx _ _ _ _ hr (Same.refl _) (Kp.refl ..) ht
theorem xs_if (hc : PT X c (rwT tc)) (ha : PSs X as (rwS kp t)) (hb : PSs X bs (rwS kp u)) : PS X (.If c as bs pos) (rwS kp (ifS tc t u)) := PS_imp (ps_if hc ha hb) fun D σ H q => by
  obtain ⟨F, G, S, Dp, hr, ht, k⟩ := q
  refine ⟨F, G, S, _, hr, ht, fun b S1 F1 H1 r1 s1 h1 => ?_⟩
  cases b with
  | true =>
    rw [if_pos rfl]
    exact ⟨F1, G, S1, _, r1, h1, k.on s1 (Kp.refl ..)⟩
  | false =>
    rw [if_neg Bool.false_ne_true]
    exact ⟨F1, G, S1, _, r1, h1, k.on s1 (Kp.refl ..)⟩
/-! ### targets -/
def nameG (i : Nat) : TXG := fun x S Q => force (putX S i x) Q
def nilG : TXGs := fun xs S Q => xs = [] ∧ Q S
def consG (g : TXG) (r : TXGs) : TXGs := fun xs S Q => match xs with
  | x :: ys => g x S fun S1 => r ys S1 Q
  | [] => False
def partsOf : PV → Option (List PV)
  | .d (.tuple ds) => some (ds.map .d)
  | .t xs => some xs
  | _ => none
def tupG (n : Nat) (r : TXGs) : TXG := fun x S Q => ∃ xs, partsOf (finX S x).1 = some xs ∧ xs.length = n ∧ r xs (finX S x).2 Q
def asgS (t : TX) (g : TXG) : TXS := fun D S => t S fun x S1 => g x S1 D.nx
variable {g : TXG} {gs : TXGs}
theorem xg_name {i : Nat} (hk : kp i = false) (h : PG X e (gName i)) : PG X e (rwG kp (nameG i)) := PG_imp h fun v σ H Q q => by
  obtain ⟨F, G, S, x, Qp, hr, ht, k⟩ := q
  exact k _ _ _ _ (hr.putAny i) (Same.refl _) (Kp.set hk) (unforce ht)
theorem xgs_nil : PGs X [] (rwGs kp nilG) := PGs_imp pgs_nil fun vs σ H Q q => by
  obtain ⟨F, G, S, xs, Qp, hr, _, ht, k⟩ := q
  obtain ⟨rfl, ht⟩ := ht
  have e : vs = [] := by
    obtain ⟨fv, fs, hr⟩ := hr
    cases hr.vl
    rfl
  exact ⟨e, k _ _ _ _ hr.rep (Same.refl _) (Kp.refl ..) ht⟩
theorem xgs_cons {es : List Expr} (h1 : PG X e (rwG kp g)) (h2 : PGs X es (rwGs kp gs))
    (hs : (assignEach (e :: es) X.env).map (·.2) = assign e X.env :: (assignEach es X.env).map (·.2) := by rfl) : PGs X (e :: es) (rwGs kp (consG g gs)) := PGs_imp (pgs_cons h1 h2 hs) fun vs σ H Q q => by
  obtain ⟨F, G, S, xs, Qp, hr, na, ht, k⟩ := q
  cases xs with
  | nil => exact ht.elim
  | cons x xs =>
    cases vs with
    | nil =>
      obtain ⟨fv, fs, hr⟩ := hr
      cases hr.vl
    | cons v vs =>
      obtain ⟨G1, sg, r1, more⟩ := RepA.aside2 (vs := [v]) (xs := [x]) hr rfl
      refine ⟨v, vs, rfl, F, G1, S, x, _, r1, ht, fun σ' S' F' H' r' s' e' q' => ?_⟩
      have r2 := more F' H' σ' S' [] [] r' s' (.inr fun y m => na y (List.mem_cons_of_mem _ m))
      rw [List.append_nil, List.append_nil] at r2
      exact ⟨F', G, S', xs, _, r2, fun y m => na y (List.mem_cons_of_mem _ m), q', k.on s' e'⟩
theorem parts_sim {F G H : Hp} {σ : L2.St} {S : List PV} {v : V} {x : PV} {xs : List PV} (h : RepA F G H σ S [v] [x]) (e : partsOf x = some xs) : ∃ p us, v = .ref p ∧ H p = some (.tup us) ∧ us.length = xs.length ∧ (∀ y ∈ xs, ∀ i, y ≠ .al i) ∧ RepA F G H σ S us xs := by
  cases x with
  | d x =>
    cases x with
    | tuple ds =>
      cases e
      cases h.dat with
      | tup h1 h2 =>
        have hx : ∀ (ds : List PyData) (us : List V), LvA F us ds → RVs σ F H us (ds.map .d) [] := by
          intro ds
          induction ds with
          | nil => intro us q; cases q; exact .nil
          | cons d ds ih =>
            intro us q
            cases q with
            | cons q1 q2 => exact RVs.cons (f := []) (.d q1) (ih _ q2)
        refine ⟨_, _, rfl, h.lf _ _ h1, by rw [h2.len, List.length_map], fun y m i z => ?_, ?_⟩
        · obtain ⟨d, _, rfl⟩ := List.mem_map.mp m
          cases z
        · obtain ⟨fv, fs, h⟩ := h.rep
          cases h.vl
          exact ⟨[], fs, h.lf, h.lg, h.sl, hx _ _ h2, h.nd, h.off, h.dj⟩
    | _ => cases e
  | t ys =>
    cases e
    obtain ⟨fv, fs, h⟩ := h
    cases h.vl with
    | cons h1 h2 =>
      cases h2
      cases h1 with
      | t h1 h3 =>
        have nd := h.nd
        have off := h.off
        rw [List.append_nil] at nd off
        have na : ∀ (ys : List PV) (us : List V) (f : List Addr), RVs [] F H us ys f → ∀ y ∈ ys, ∀ i, y ≠ .al i := by
          intro ys
          induction ys with
          | nil => intro us f _ y m; cases m
          | cons z ys ih =>
            intro us f q y m
            cases q with
            | cons q1 q2 =>
              rcases List.mem_cons.mp m with rfl | m
              · exact q1.noal
              · exact ih _ _ q2 y m
        exact ⟨_, _, rfl, h.lf _ _ h1, h3.len, na _ _ _ h3, _, fs, h.lf, h.lg, h.sl, h3.others (na _ _ _ h3), nd, off, h.dj⟩
  | _ => cases e
theorem xg_tup {n : Nat} {K : PySem.W.Frag} {tr : TGs} (htr : tr = rwGs kp gs) (h : PG X e (gTup K n tr)) : PG X e (rwG kp (tupG n gs)) := by
  subst htr
  refine PG_imp h fun v σ H Q q => ?_
  obtain ⟨F, G, S, x, Qp, hr, ht, k⟩ := q
  obtain ⟨xs, ex, hn, ht⟩ := ht
  obtain ⟨p, us, rfl, e1, hl, na, r2⟩ := parts_sim hr.finished ex
  exact ⟨p, us, rfl, SqT.of e1, hl.trans hn, F, G, _, xs, Qp, r2, na, ht, k⟩
theorem xs_asg (h : PS X st (tAsg (rw te) (rwG kp g))) : PS X st (rwS kp (asgS te g)) := PS_imp h fun D σ H q => by
  obtain ⟨F, G, S, Dp, hr, ht, k⟩ := q
  exact ⟨F, G, S, _, hr, ht, fun v r S' F' H' r' s' q' => ⟨F', G, S', r, _, r', q', k.nx.up s'⟩⟩
end
end Px

namespace Px
open PySem PySem.Spec PyProof.Rows L2 Fo
section
variable {F F' F0 G G' H H' : Hp} {σ : L2.St} {S : List PV} {v : V} {vs : List V} {xs : List PV}
/-! ### own lists, frozen -/
theorem RepA.freeze {ds : List PyData} (h : RepA F G H σ S (v :: vs) (.l ds :: xs)) : ∃ p ws, v = .ref p ∧ H p = some (.lst ws) ∧ LvA F ws ds ∧ Same F (upd F p (.lst ws)) ∧ RepA (upd F p (.lst ws)) G H σ S (v :: vs) (.d (.list ds) :: xs) := by
  obtain ⟨f, fs, h⟩ := h
  cases hv : h.vl with
  | cons h1 h2 =>
    rename_i fv
    cases h1 with
    | l h1 h3 =>
      rename_i p ws
      have nd := List.nodup_cons.mp (show (p :: (fv ++ fs)).Nodup by have := h.nd; simpa using this)
      have hp := h.off p (by simp)
      have sF : Same F (upd F p (.lst ws)) := fun a u q => by
        have : a ≠ p := fun z => by rw [z, hp.1] at q; cases q
        rw [upd_ne this]
        exact q
      refine ⟨p, ws, rfl, h1, h3, sF, fv, fs, fun a u q => ?_, h.lg, h.sl.stay sF fun _ _ => rfl, RVs.cons (f := []) (.d (.lst upd_same (LvA.sm sF _ _ h3))) (h2.stay sF _ _ _ fun _ _ => rfl), nd.2, fun a m => ?_, fun a u q => ?_⟩
      · rcases upd_mine q with ⟨rfl, rfl⟩ | ⟨_, q⟩
        · exact h1
        · exact h.lf a u q
      · have : a ≠ p := fun z => nd.1 (z ▸ m)
        rw [upd_ne this]
        exact h.off a (by simpa using Or.inr (List.mem_append.mp m))
      · have : a ≠ p := fun z => by rw [z, hp.2] at q; cases q
        rw [upd_ne this]
        exact h.dj a u q
theorem RepA.back {x : PyData} {i : Nat} (h : RepA F G H σ S (v :: vs) (.d x :: xs)) (e : σ[i]? = some (some v)) : RepA F G H σ (S.set i (.d x)) (v :: vs) (.d x :: xs) := by
  have hx := h.dat
  have hl := h.lenS
  obtain ⟨fv, fs, h⟩ := h
  have hi := (List.getElem?_eq_some_iff.mp e).1
  obtain ⟨fs', q1, q2, q3⟩ := h.sl.put (i := i) (v := v) (x := .d x) (f := []) (by omega) (.d hx) (List.nodup_append.mp h.nd).2.1
  have eσ : σ.set i (some v) = σ := by
    refine List.ext_getElem? fun j => ?_
    by_cases z : i = j
    · subst z
      rw [List.getElem?_set_self hi, e]
    · rw [List.getElem?_set_ne z]
  rw [eσ] at q1
  have sub : ∀ a ∈ fs', a ∈ fs := fun a m => q3 a m
  exact ⟨fv, fs', h.lf, h.lg, q1, h.vl, List.nodup_append.mpr ⟨(List.nodup_append.mp h.nd).1, q2, fun a ha b hb => (List.nodup_append.mp h.nd).2.2 a ha b (sub b hb)⟩, fun a m => h.off a ((List.mem_append.mp m).elim (List.mem_append_left _) fun m => List.mem_append_right _ (sub a m)), h.dj⟩
/-! ### walks -/
/-- what a turn gives: data, or a new tuple of data -/
def Yld (F H : Hp) (x : V) (z : PyData) : Prop := Lv F x z ∨ ∃ T vs ds, x = .ref T ∧ H T = some (.tup vs) ∧ LvA F vs ds ∧ z = .tuple ds
theorem Rep.yld {x : V} {z : PyData} (h : Rep F G H σ S) (s0 : Same F0 F) (s : Same H H') (y : Yld F0 H' x z) : ∃ F2, Same F F2 ∧ RepA F2 G H' σ S [x] [.d z] := by
  rcases y with y | ⟨T, vs, ds, rfl, e, l, rfl⟩
  · exact ⟨F, Same.refl _, Rep.withD (h.same s) (Lv.sm s0 _ _ y)⟩
  · obtain ⟨F2, s2, e2, r2⟩ := h.tup s e
    exact ⟨F2, s2, Rep.withD r2 (.tup e2 (LvA.sm (s0.trans s2) _ _ l))⟩
structure WalkX (J : It) (its : List PyData) (F : Hp) : Prop where
  ex : ∃ (P : Hp → Prop) (Y : Nat → Hp → V → Hp → Prop), Walk J its.length P Y ∧ (∀ H, Same F H → P H) ∧ ∀ k H x H', k < its.length → Same F H → Y k H x H' → Same H H' ∧ ∃ z, its[k]? = some z ∧ Yld F H' x z
def rwI (t : TXI) : TI := fun σ H R => ∃ F G S Ip, Rep F G H σ S ∧ t S Ip ∧ ∀ J its S' F' H', Rep F' G H' σ S' → Same F F' → WalkX J its F' → Ip its S' → R J H'
def itemsOf : PV → Option (List PyData)
  | .d (.tuple ds) => some ds
  | .d (.list ds) => some ds
  | .d (.str z) => some ((TL.tl z).map fun c => .str (tx [c]))
  | .l ds => some ds
  | _ => none
def frzX (S : List PV) : PV → List PV
  | .al i => match S.getD i .un with
    | .l ds => S.set i (.d (.list ds))
    | _ => S
  | _ => S
def valI (t : TX) : TXI := fun S Q => t S fun x S1 => ∃ its, itemsOf (look S1 x) = some its ∧ Q its (frzX S1 x)
theorem LvA.nth {F : Hp} : ∀ {ds : List PyData} {ws : List V} {k : Nat} {x : V}, LvA F ws ds → ws[k]? = some x → ∃ d, ds[k]? = some d ∧ Lv F x d := fun h e => LvA.at h e
theorem walkX_list {K : PySem.W.Frag} {p : Addr} {ws : List V} {ds : List PyData} (e : F p = some (.lst ws)) (l : LvA F ws ds) : WalkX (Itl K p) ds F :=
  ⟨fun H => SqL K H p ws, YAt ws, by rw [← l.len]; exact walk_list, fun H s => SqL.of (s _ _ e), fun k H x H' hk s y => by
    obtain ⟨rfl, e⟩ := y
    obtain ⟨d, e1, e2⟩ := LvA.nth l e
    exact ⟨Same.refl _, d, e1, .inl e2⟩⟩
theorem walkX_tup {K : PySem.W.Frag} {p : Addr} {ws : List V} {ds : List PyData} (e : F p = some (.tup ws)) (l : LvA F ws ds) : WalkX (Itt K p) ds F :=
  ⟨fun H => SqT K H p ws, YAt ws, by rw [← l.len]; exact walk_tup, fun H s => SqT.of (s _ _ e), fun k H x H' hk s y => by
    obtain ⟨rfl, e⟩ := y
    obtain ⟨d, e1, e2⟩ := LvA.nth l e
    exact ⟨Same.refl _, d, e1, .inl e2⟩⟩
theorem walkX_str {z : Str} : WalkX (Its z) ((TL.tl z).map fun c => .str (tx [c])) F :=
  ⟨fun _ => True, _, by
    rw [List.length_map, show (TL.tl z).length = z.cps.size from Array.length_toList]
    exact walk_str, fun _ _ => trivial, fun k H x H' hk s y => by
    obtain ⟨rfl, c, e, rfl⟩ := y
    refine ⟨Same.refl _, .str (tx [c]), ?_, .inl (.str _)⟩
    rw [List.getElem?_map, show (TL.tl z)[k]? = some c by show z.cps.toList[k]? = _; rw [Array.getElem?_toList]; exact e]
    rfl⟩
/-- a list, a tuple, a text, by what it turns out to be -/
def iV (K : PySem.W.Frag) (te : TE) : TI := fun σ H R => te σ H fun x H1 =>
  (∃ a ws, x = .ref a ∧ SqL K H1 a ws ∧ R (Itl K a) H1) ∨ (∃ a ws, x = .ref a ∧ SqT K H1 a ws ∧ R (Itt K a) H1) ∨ ∃ z, x = .str z ∧ R (Its z) H1
theorem pi_V {X : Cx} {tg ex : Expr} {te : TE} (he : PE X ex te) : PI X tg ex (iV X.K te) := by
  refine ⟨fun pins s σ H R I h => thn (he.run pins s σ H _ I h) fun u s1 z => ?_⟩
  obtain ⟨x, H1, I1, rx, hq⟩ := z
  rcases hq with ⟨a, ws, rfl, hs, q⟩ | ⟨a, ws, rfl, hs, q⟩ | ⟨z, rfl, q⟩
  · cases rx
    have ⟨its, _, pl, _⟩ := I1.list hs
    exact wpAny_pyIter_list pl.isList (pi_one (tk := s1.toks) I1 _ (turn_list a _) ⟨_, Heap.get?_push_size _ rfl, rfl, rfl⟩ q)
  · cases rx
    have ⟨its, _, pl, _⟩ := I1.tuple hs
    exact wpAny_pyIter_tuple (show s1.heap.IsTuple a its.toArray from pl) (pi_one (tk := s1.toks) I1 _ (turn_tuple a _) ⟨_, Heap.get?_push_size _ rfl, rfl, rfl⟩ q)
  · have ⟨tok, eu⟩ := rx
    subst eu
    cases low : z.cps.all (· < 128) with
    | false => exact wpAny_pyIter_wide low (pi_one (tk := s1.toks) I1 _ (turn_str _ z tok "str_iterator" (.inr rfl)) ⟨_, Heap.get?_push_size _ rfl, rfl, rfl⟩ q)
    | true => exact wpAny_pyIter_ascii low (pi_one (tk := s1.toks) I1 _ (turn_str _ z tok "str_ascii_iterator" (.inl rfl)) ⟨_, Heap.get?_push_size _ rfl, rfl, rfl⟩ q)
theorem xi_val {X : Cx} (K : PySem.W.Frag) (e : X.K = K) {tg ex : Expr} {te : TX} (h : PE X ex (rw te)) : PI X tg ex (rwI (valI te)) := by
  subst e
  refine ⟨fun pins s σ H R I q => (pi_V (tg := tg) h).run pins s σ H R I ?_⟩
  obtain ⟨F, G, S, Ip, hr, ht, k⟩ := q
  refine ⟨F, G, S, _, hr, ht, fun v x S1 F1 H1 r1 s1 h1 => ?_⟩
  obtain ⟨its, ei, h1⟩ := h1
  -- a frozen list in hand
  have lst : ∀ {p : Addr} {ws : List V} {S2 : List PV} {F2 : Hp}, F2 p = some (.lst ws) → LvA F2 ws its → Rep F2 G H1 σ S2 → Same F F2 → Ip its S2 → (∃ a ws, V.ref p = .ref a ∧ SqL X.K H1 a ws ∧ R (Itl X.K a) H1) := fun e l r s q =>
    ⟨_, _, rfl, SqL.of (r.lf _ _ e), k _ _ _ _ _ r s (walkX_list e l) q⟩
  cases x with
  | d x =>
    have hx := r1.dat
    cases x with
    | tuple ds =>
      cases ei
      cases hx with
      | tup e l => exact .inr (.inl ⟨_, _, rfl, SqT.of (r1.lf _ _ e), k _ _ _ _ _ r1.rep s1 (walkX_tup e l) h1⟩)
    | list ds =>
      cases ei
      cases hx with
      | lst e l => exact .inl (lst e l r1.rep s1 h1)
    | str z =>
      cases ei
      cases hx
      exact .inr (.inr ⟨_, rfl, k _ _ _ _ _ r1.rep s1 walkX_str h1⟩)
    | _ => cases ei
  | l ds =>
    cases ei
    obtain ⟨p, ws, rfl, e1, l, sf, r2⟩ := r1.freeze
    exact .inl (lst upd_same (LvA.sm sf _ _ l) r2.rep (s1.trans sf) h1)
  | al i =>
    have ei : itemsOf (S1.getD i .un) = some its := ei
    have h1 : Ip its (match S1.getD i .un with | .l ds => S1.set i (.d (.list ds)) | _ => S1) := h1
    have ev : σ[i]? = some (some v) := by
      obtain ⟨f, r⟩ := r1.hd
      cases r with
      | al e => exact e
    have r2 := r1.moved
    cases es : S1.getD i .un with
    | l ds =>
      rw [es] at ei h1 r2
      cases ei
      obtain ⟨p, ws, rfl, e1, l, sf, r3⟩ := r2.freeze
      have r4 := r3.back ev
      rw [List.set_set] at r4
      exact .inl (lst upd_same (LvA.sm sf _ _ l) r4.rep (s1.trans sf) h1)
    | d x =>
      rw [es] at ei h1 r2
      have hx := r2.dat
      have r3 := r1.rep
      cases x with
      | tuple ds =>
        cases ei
        cases hx with
        | tup e l => exact .inr (.inl ⟨_, _, rfl, SqT.of (r1.lf _ _ e), k _ _ _ _ _ r3 s1 (walkX_tup e l) h1⟩)
      | list ds =>
        cases ei
        cases hx with
        | lst e l => exact .inl (lst e l r3 s1 h1)
      | str z =>
        cases ei
        cases hx
        exact .inr (.inr ⟨_, rfl, k _ _ _ _ _ r3 s1 walkX_str h1⟩)
      | _ => cases ei
    | _ => rw [es] at ei; cases ei
  | _ => cases ei
/-! ### for -/
inductive ForR (g : TXG) (tb : TXS) (D : Dn) (its : List PyData) (S0 : List PV) : Prop
  | mk (J : Nat → List PV → Prop) (h0 : J 0 S0) (hs : ∀ (k : Nat) (x : PyData) (S : List PV), its[k]? = some x → J k S → g (.d x) S fun S1 => tb { D with nx := J (k + 1), ct := J (k + 1), bk := D.nx } S1) (hd : ∀ S, J its.length S → D.nx S)
def forS (ti : TXI) (g : TXG) (tb : TXS) : TXS := fun D S => ti S fun its S0 => ForR g tb D its S0
theorem xs_for {X : Cx} {kp : Nat → Bool} {ti : TXI} {g : TXG} {tb : TXS} {st : Stmt} (h : PS X st (tFor (rwI ti) (rwG kp g) (rwS kp tb))) : PS X st (rwS kp (forS ti g tb)) := PS_imp h fun D σ H q => by
  obtain ⟨F, G, S, Dp, hr, ht, k⟩ := q
  refine ⟨F, G, S, _, hr, ht, fun J its S0 F0 H0 r0 s0 w h0 => ?_⟩
  obtain ⟨Jv, j0, step, done⟩ := h0
  obtain ⟨P, Y, w, hP, hY⟩ := w.ex
  refine for_it w (fun i σ' H' => ∃ F' S', Rep F' G H' σ' S' ∧ Same F0 F' ∧ Kp kp σ σ' ∧ Jv i S') ⟨F0, S0, r0, Same.refl _, Kp.refl .., j0⟩ (fun i σ' H' _ pv => ?_) (fun i x σ' H1 H2 hi pv y => ?_) (fun σ' H' pv => ?_)
  · obtain ⟨F', S', r', s', _, _⟩ := pv
    exact hP _ (s'.trans r'.lf)
  · obtain ⟨F', S', r', s', e', j'⟩ := pv
    obtain ⟨sh, z, ez, yz⟩ := hY i H1 x H2 hi (s'.trans r'.lf) y
    obtain ⟨F2, s2, r2⟩ := r'.yld s' sh yz
    refine ⟨F2, G, S', _, _, r2, step i z S' ez j', fun σ3 S3 F3 H3 r3 s3 e3 q3 => ⟨F3, G, S3, _, r3, q3, ?_, ?_, ?_, ?_⟩⟩
    · exact fun σ4 S4 F4 H4 r4 s4 e4 q4 => ⟨F4, S4, r4, (s'.trans s2).trans (s3.trans s4), (e'.trans e3).trans e4, q4⟩
    · exact k.rt.on ((s0.trans s').trans (s2.trans s3)) (e'.trans e3)
    · exact k.nx.on ((s0.trans s').trans (s2.trans s3)) (e'.trans e3)
    · exact fun σ4 S4 F4 H4 r4 s4 e4 q4 => ⟨F4, S4, r4, (s'.trans s2).trans (s3.trans s4), (e'.trans e3).trans e4, q4⟩
  · obtain ⟨F', S', r', s', e', j'⟩ := pv
    exact k.nx _ _ _ _ r' (s0.trans s') e' (done _ j')
/-- a written list of items, one behind another -/
def unr (g : TXG) (tb : TXS) (D : Dn) : List PyData → List PV → Prop
  | [], S => D.nx S
  | x :: r, S => g (.d x) S fun S1 => tb { D with nx := unr g tb D r, ct := unr g tb D r, bk := D.nx } S1
theorem for_unr {g : TXG} {tb : TXS} {D : Dn} {its : List PyData} {S0 : List PV} (h : unr g tb D its S0) : ForR g tb D its S0 := by
  refine ⟨fun k S => unr g tb D (its.drop k) S, h, fun k x S e q => ?_, fun S q => ?_⟩
  · have ed : its.drop k = x :: its.drop (k + 1) := by
      obtain ⟨hk, e2⟩ := List.getElem?_eq_some_iff.mp e
      rw [List.drop_eq_getElem_cons hk, e2]
    have q : unr g tb D (its.drop k) S := q
    rw [ed] at q
    exact q
  · have q : unr g tb D (its.drop its.length) S := q
    rw [List.drop_length] at q
    exact q
/-! ### while -/
inductive WhR (c : TXT) (tb : TXS) (D : Dn) (S : List PV) : Prop
  | mk (J : Nat → List PV → Prop) (h0 : ∃ m, J m S) (hs : ∀ m S, J m S → c S fun b S1 => pick b (tb { D with nx := fun S' => ∃ m', m' < m ∧ J m' S', ct := fun S' => ∃ m', m' < m ∧ J m' S', bk := D.nx } S1) (D.nx S1))
def whileS (c : TXT) (tb : TXS) : TXS := fun D S => WhR c tb D S
theorem xs_while {X : Cx} {kp : Nat → Bool} {c : TXT} {tb : TXS} {st : Stmt} (h : PS X st (tWhile (rwT c) (rwS kp tb))) : PS X st (rwS kp (whileS c tb)) := PS_imp h fun D σ H q => by
  obtain ⟨F, G, S, Dp, hr, ht, k⟩ := q
  obtain ⟨Jv, ⟨m0, j0⟩, step⟩ := ht
  refine ⟨fun m σ' H' => ∃ F' S', Rep F' G H' σ' S' ∧ Same F F' ∧ Kp kp σ σ' ∧ Jv m S', ⟨m0, F, S, hr, Same.refl _, Kp.refl .., j0⟩, fun m σ' H' pv => ?_⟩
  obtain ⟨F', S', r', s', e', j'⟩ := pv
  refine ⟨F', G, S', _, r', step m S' j', fun b S1 F1 H1 r1 s1 h1 => ?_⟩
  cases b with
  | true =>
    rw [if_pos rfl]
    refine ⟨fun σ4 H4 => ∃ m', m' < m ∧ ∃ F4 S4, Rep F4 G H4 σ4 S4 ∧ Same F F4 ∧ Kp kp σ σ4 ∧ Jv m' S4, fun _ _ z => z, F1, G, S1, _, r1, h1, ?_, ?_, ?_, ?_⟩
    · exact fun σ4 S4 F4 H4 r4 s4 e4 ⟨m', hm, q4⟩ => ⟨m', hm, F4, S4, r4, (s'.trans s1).trans s4, e'.trans e4, q4⟩
    · exact k.rt.on (s'.trans s1) e'
    · exact k.nx.on (s'.trans s1) e'
    · exact fun σ4 S4 F4 H4 r4 s4 e4 ⟨m', hm, q4⟩ => ⟨m', hm, F4, S4, r4, (s'.trans s1).trans s4, e'.trans e4, q4⟩
  | false =>
    rw [if_neg Bool.false_ne_true]
    exact k.nx _ _ _ _ r1 (s'.trans s1) e' h1
end
end Px

namespace Px
open PySem PySem.Spec PyProof.Rows L2 Fo
/-! ### comprehensions -/
def wipeX (S : List PV) : List Nat → List PV
  | [] => S
  | v :: vs => (wipeX S vs).set v .un
section
variable {F F' F0 G G' H H' : Hp} {σ σ' : L2.St} {S : List PV} {v : V} {vs : List V} {xs : List PV}
theorem RSl.unset : ∀ {S : List PV} {r : List (Option V)} {fs : List Addr} (i : Nat), RSl F H r S fs → ∃ fs', RSl F H r (S.set i .un) fs' ∧ fs'.Sublist fs
  | _, _, _, _, .nil => ⟨[], .nil, List.Sublist.refl _⟩
  | _, _, _, 0, .un h => ⟨_, .un h, List.Sublist.refl _⟩
  | _, _, _, 0, .cons h1 h2 => ⟨_, .un h2, List.sublist_append_right ..⟩
  | _, _, _, i + 1, .un h => by
    obtain ⟨fs', q2, q3⟩ := RSl.unset i h
    exact ⟨fs', .un q2, q3⟩
  | _, _, _, i + 1, .cons h1 h2 => by
    obtain ⟨fs', q2, q3⟩ := RSl.unset i h2
    exact ⟨_, .cons h1 q2, q3.append_left _⟩
theorem RSl.wiped {S : List PV} {r : List (Option V)} {fs : List Addr} (h : RSl F H r S fs) : ∀ (ws : List Nat), ∃ fs', RSl F H r (wipeX S ws) fs' ∧ fs'.Sublist fs
  | [] => ⟨fs, h, List.Sublist.refl _⟩
  | w :: ws => by
    obtain ⟨fs', q1, q3⟩ := RSl.wiped h ws
    obtain ⟨f2, p1, p3⟩ := RSl.unset w q1
    exact ⟨f2, p1, p3.trans q3⟩
theorem RSl.agree : ∀ {S : List PV} {r r' : List (Option V)} {fs : List Addr}, RSl F H r S fs → r'.length = r.length → (∀ (i : Nat) (x : PV), S[i]? = some x → x ≠ .un → r'[i]? = r[i]?) → RSl F H r' S fs
  | _, _, r', _, .nil, e, _ => by
    cases r' with
    | nil => exact .nil
    | cons _ _ => cases e
  | _, _, r', _, .un h, e, k => by
    cases r' with
    | nil => cases e
    | cons o r' => exact .un (RSl.agree h (Nat.succ.inj e) fun i x ex n => by simpa using k (i + 1) x (by simpa using ex) n)
  | _, _, r', _, .cons (x := x) h1 h2, e, k => by
    cases r' with
    | nil => cases e
    | cons o r' =>
      have tail := RSl.agree h2 (Nat.succ.inj e) fun i x ex n => by simpa using k (i + 1) x (by simpa using ex) n
      by_cases n : x = .un
      · subst n
        have nf : ∀ {f : List Addr} {v : V}, RV [] F H v .un f → f = [] := fun r => by cases r; rfl
        cases nf h1
        exact .un tail
      · have := k 0 x rfl n
        have e0 := Option.some.inj this
        subst e0
        exact .cons h1 tail
theorem wipe_get (σ : L2.St) (j : Nat) : ∀ ws : List Nat, (wipe σ ws)[j]? = if j ∈ ws then (if j < σ.length then some none else none) else σ[j]?
  | [] => by simp [wipe]
  | w :: ws => by
    unfold wipe
    by_cases e : w = j
    · subst e
      rw [if_pos (List.mem_cons_self ..)]
      by_cases hl : w < σ.length
      · rw [if_pos hl, List.getElem?_set_self (by rw [wipe_length]; exact hl)]
      · rw [if_neg hl, List.getElem?_eq_none (by rw [List.length_set, wipe_length]; omega)]
    · rw [List.getElem?_set_ne e, wipe_get σ j ws]
      have : (j ∈ w :: ws) ↔ j ∈ ws := by
        rw [List.mem_cons]
        exact ⟨fun h => h.elim (fun z => absurd z.symm e) id, .inr⟩
      simp only [this]
theorem wipeX_un (S : List PV) (j : Nat) : ∀ ws : List Nat, j ∈ ws → ∀ x, (wipeX S ws)[j]? = some x → x = .un
  | [], h, _, _ => nomatch h
  | w :: ws, h, x, e => by
    unfold wipeX at e
    by_cases z : w = j
    · subst z
      have hl := (List.getElem?_eq_some_iff.mp e).1
      rw [List.length_set] at hl
      rw [List.getElem?_set_self hl] at e
      exact (Option.some.inj e).symm
    · rw [List.getElem?_set_ne z] at e
      exact wipeX_un S j ws ((List.mem_cons.mp h).resolve_left (Ne.symm z)) x e
theorem wipeX_get (S : List PV) (j : Nat) : ∀ ws : List Nat, (wipeX S ws)[j]? = if j ∈ ws then (if j < S.length then some .un else none) else S[j]?
  | [] => by simp [wipeX]
  | w :: ws => by
    have hl : ∀ us : List Nat, (wipeX S us).length = S.length := fun us => by
      induction us with
      | nil => rfl
      | cons u us ih => unfold wipeX; rw [List.length_set, ih]
    unfold wipeX
    by_cases e : w = j
    · subst e
      rw [if_pos (List.mem_cons_self ..)]
      by_cases h : w < S.length
      · rw [if_pos h, List.getElem?_set_self (by rw [hl]; exact h)]
      · rw [if_neg h, List.getElem?_eq_none (by rw [List.length_set, hl]; omega)]
    · rw [List.getElem?_set_ne e, wipeX_get S j ws]
      have : (j ∈ w :: ws) ↔ j ∈ ws := by
        rw [List.mem_cons]
        exact ⟨fun h => h.elim (fun z => absurd z.symm e) id, .inr⟩
      simp only [this]
theorem wipeX_len (S : List PV) : ∀ us : List Nat, (wipeX S us).length = S.length
  | [] => rfl
  | u :: us => by unfold wipeX; rw [List.length_set, wipeX_len S us]
theorem wipeX_twice (S : List PV) (ws : List Nat) : wipeX (wipeX S ws) ws = wipeX S ws := by
  refine List.ext_getElem? fun j => ?_
  rw [wipeX_get, wipeX_len, wipeX_get]
  by_cases m : j ∈ ws
  · rw [if_pos m, if_pos m]
  · rw [if_neg m, if_neg m]
theorem LvA.snoc {F : Hp} : ∀ {ds : List PyData} {us : List V} {d : PyData} {u : V}, LvA F us ds → Lv F u d → LvA F (us ++ [u]) (ds ++ [d])
  | [], _, _, _, h, k => by cases h; exact .cons k .nil
  | _ :: _, _, _, _, h, k => by
    cases h with
    | cons h1 h2 => exact .cons h1 (LvA.snoc h2 k)
theorem RepA.wipedIn (h : Rep F G H σ S) (ws : List Nat) : Rep F G H (wipe σ ws) (wipeX S ws) ∧ Rep F G H σ (wipeX S ws) := by
  obtain ⟨fv, fs, h⟩ := h
  cases h.vl
  obtain ⟨fs', q1, q2⟩ := h.sl.wiped ws
  have nd : fs'.Nodup := q2.nodup h.nd
  have off : ∀ a ∈ fs', F a = none ∧ G a = none := fun a m => h.off a (q2.subset m)
  refine ⟨⟨[], fs', h.lf, h.lg, q1.agree (wipe_length ..) fun i x ex n => ?_, .nil, nd, off, h.dj⟩, ⟨[], fs', h.lf, h.lg, q1, .nil, nd, off, h.dj⟩⟩
  rw [wipe_get]
  by_cases m : i ∈ ws
  · exact absurd (wipeX_un S i ws m x ex) n
  · rw [if_neg m]
/-- back from a block -/
theorem RepA.wipedOut {σ2 : L2.St} (h : Rep F G H σ2 S) (ws : List Nat) (e : wipe σ2 ws = wipe σ ws) (el : σ2.length = σ.length) : Rep F G H σ (wipeX S ws) := by
  obtain ⟨fv, fs, h⟩ := h
  cases h.vl
  obtain ⟨fs', q1, q2⟩ := h.sl.wiped ws
  refine ⟨[], fs', h.lf, h.lg, q1.agree el.symm fun i x ex n => ?_, .nil, q2.nodup h.nd, fun a m => h.off a (q2.subset m), h.dj⟩
  have z := congrArg (fun τ : L2.St => τ[i]?) e
  simp only [wipe_get] at z
  by_cases m : i ∈ ws
  · exact absurd (wipeX_un S i ws m x ex) n
  · rw [if_neg m, if_neg m] at z
    exact z.symm
theorem Kp.wiped {σ2 : L2.St} {ws : List Nat} {kp : Nat → Bool} (hk : ∀ j, j ∉ ws → kp j = true) (h : Kp kp (wipe σ ws) σ2) : wipe σ2 ws = wipe σ ws := by
  refine List.ext_getElem? fun j => ?_
  rw [wipe_get, wipe_get]
  have el : σ2.length = σ.length := h.1.trans (wipe_length ..)
  by_cases m : j ∈ ws
  · rw [if_pos m, if_pos m, el]
  · rw [if_neg m, if_neg m]
    have := h.2 j (hk j m)
    rw [wipe_get, if_neg m] at this
    exact this
/-! the new list stands aside -/
theorem RepA.guard {D : Addr} {acc : List V} (h : Rep F G H σ S) (hD : H D = none) : Rep F (upd G D (.lst acc)) (upd H D (.lst acc)) σ S := by
  have h' := h.same (H' := upd H D (.lst acc)) (same_new hD)
  obtain ⟨fv, fs, h0⟩ := h
  obtain ⟨fv', fs', h1⟩ := h'
  cases h0.vl
  cases h1.vl
  have nF : F D = none := by
    cases q : F D with
    | none => rfl
    | some u => rw [h0.lf D u q] at hD; cases hD
  have ne : ∀ a ∈ fs', a ≠ D ∨ True := fun _ _ => .inr trivial
  refine ⟨[], fs, h1.lf, fun a o e => ?_, h0.sl.stay (fun _ _ q => q) fun a m => ?_, .nil, h0.nd, fun a m => ?_, fun a o e => ?_⟩
  · rcases upd_mine e with ⟨rfl, rfl⟩ | ⟨_, e⟩
    · exact upd_same
    · exact h1.lg a o e
  · obtain ⟨o, e, _⟩ := h0.sl.has a m
    rw [upd_ne (ne_of_none e hD)]
  · obtain ⟨o, e, _⟩ := h0.sl.has a m
    rw [upd_ne (ne_of_none e hD)]
    exact h0.off a m
  · rcases upd_mine e with ⟨rfl, rfl⟩ | ⟨_, e⟩
    · exact ⟨nF, fun _ z => nomatch z⟩
    · exact h0.dj a o e
theorem RepA.reguard {D : Addr} {acc acc' : List V} (h : Rep F (upd G D (.lst acc)) H σ S) : Rep F (upd G D (.lst acc')) (upd H D (.lst acc')) σ S := by
  obtain ⟨fv, fs, h0⟩ := h
  cases h0.vl
  have hF : F D = none := (h0.dj D _ upd_same).1
  have hn : ∀ a ∈ fs, a ≠ D := fun a m z => by
    have := (h0.off a m).2
    rw [z, upd_same] at this
    cases this
  refine ⟨[], fs, fun a o e => ?_, fun a o e => ?_, h0.sl.stay (fun _ _ q => q) fun a m => by rw [upd_ne (hn a m)], .nil, h0.nd, fun a m => ?_, fun a o e => ?_⟩
  · rw [upd_ne (fun z => by rw [z, hF] at e; cases e)]
    exact h0.lf a o e
  · rcases upd_mine e with ⟨rfl, rfl⟩ | ⟨n, e⟩
    · exact upd_same
    · rw [upd_ne n]
      exact h0.lg a o (by rw [upd_ne n]; exact e)
  · have z := h0.off a m
    rw [upd_ne (hn a m)] at z ⊢
    exact z
  · rcases upd_mine e with ⟨rfl, rfl⟩ | ⟨n, e⟩
    · exact ⟨hF, fun _ z => nomatch z⟩
    · exact h0.dj a o (by rw [upd_ne n]; exact e)
theorem RepA.unguard {D : Addr} {acc : List V} {ds : List PyData} (h : Rep F (upd G D (.lst acc)) H σ S) (hG : G D = none) (l : LvA F acc ds) : RepA F G H σ S [.ref D] [.l ds] := by
  obtain ⟨fv, fs, h0⟩ := h
  cases h0.vl
  have hn : ∀ a ∈ fs, a ≠ D := fun a m z => by
    have := (h0.off a m).2
    rw [z, upd_same] at this
    cases this
  have gne : ∀ a o, G a = some o → a ≠ D := fun a o e z => by rw [z, hG] at e; cases e
  refine ⟨[D], fs, h0.lf, fun a o e => h0.lg a o (by rw [upd_ne (gne a o e)]; exact e), h0.sl, RVs.cons (f := [D]) (.l (h0.lg _ _ upd_same) l) .nil, List.nodup_cons.mpr ⟨fun m => hn D m rfl, h0.nd⟩, fun a m => ?_, fun a o e => h0.dj a o (by rw [upd_ne (gne a o e)]; exact e)⟩
  rcases List.mem_cons.mp m with rfl | m
  · exact ⟨(h0.dj a _ upd_same).1, hG⟩
  · have z := h0.off a m
    rw [upd_ne (hn a m)] at z
    exact z
end
def yesT : TXT := fun S Q => Q true S
inductive LcR (g : TXG) (tt : TXT) (te : TX) (ws : List Nat) (Q : KP) (its : List PyData) (S0 : List PV) : Prop
  | mk (few : its.length < 16777216) (J : Nat → List PyData → List PV → Prop) (h0 : J 0 [] (wipeX S0 ws))
    (hs : ∀ (k : Nat) (x : PyData) (acc : List PyData) (S : List PV), its[k]? = some x → acc.length ≤ k → J k acc S → g (.d x) S fun S2 => tt S2 fun b S3 => pick b (te S3 fun y S4 => ∃ z, y = .d z ∧ force (wipeX S4 ws) (J (k + 1) (acc ++ [z]))) (force (wipeX S3 ws) (J (k + 1) acc)))
    (hd : ∀ acc S, acc.length ≤ its.length → J its.length acc S → Q (.l acc) S)
def lcX (ti : TXI) (g : TXG) (tt : TXT) (te : TX) (ws : List Nat) : TX := fun S Q => ti S fun its S0 => LcR g tt te ws Q its S0
/-- over written items, one behind another -/
def lcu (g : TXG) (tt : TXT) (te : TX) (ws : List Nat) (Q : KP) : List PyData → List PyData → List PV → Prop
  | [], acc, S => Q (.l acc) S
  | x :: r, acc, S => g (.d x) S fun S2 => tt S2 fun b S3 => pick b (te S3 fun y S4 => ∃ z, y = .d z ∧ force (wipeX S4 ws) (lcu g tt te ws Q r (acc ++ [z]))) (force (wipeX S3 ws) (lcu g tt te ws Q r acc))
theorem lc_unr {g : TXG} {tt : TXT} {te : TX} {ws : List Nat} {Q : KP} {its : List PyData} {S0 : List PV} (few : its.length < 16777216) (h : lcu g tt te ws Q its [] (wipeX S0 ws)) : LcR g tt te ws Q its S0 := by
  refine ⟨few, fun k acc S => lcu g tt te ws Q (its.drop k) acc S, h, fun k x acc S e hl q => ?_, fun acc S hl q => ?_⟩
  · have ed : its.drop k = x :: its.drop (k + 1) := by
      obtain ⟨hk, e2⟩ := List.getElem?_eq_some_iff.mp e
      rw [List.drop_eq_getElem_cons hk, e2]
    have q : lcu g tt te ws Q (its.drop k) acc S := q
    rw [ed] at q
    exact q
  · have q : lcu g tt te ws Q (its.drop its.length) acc S := q
    rw [List.drop_length] at q
    exact q
/-- each item is turned into one thing, nothing else happens -/
theorem lc_map {g : TXG} {te : TX} {ws : List Nat} {Q : KP} {its : List PyData} {S0 : List PV} (f : PyData → PyData) (few : its.length < 16777216)
    (hs : ∀ x ∈ its, ∀ R : KP, (∀ S4, wipeX S4 ws = wipeX S0 ws → R (.d (f x)) S4) → g (.d x) (wipeX S0 ws) fun S2 => te S2 R) (hd : Q (.l (its.map f)) (wipeX S0 ws)) : LcR g yesT te ws Q its S0 := by
  refine ⟨few, fun k acc S => S = wipeX S0 ws ∧ acc = (its.take k).map f, ⟨rfl, rfl⟩, fun k x acc S e hl q => ?_, fun acc S hl q => ?_⟩
  · obtain ⟨rfl, rfl⟩ := q
    exact hs x (List.mem_of_getElem? e) (fun y S4 => ∃ z, y = .d z ∧ force (wipeX S4 ws) fun S => S = wipeX S0 ws ∧ (its.take k).map f ++ [z] = (its.take (k + 1)).map f) fun S4 e4 => ⟨_, rfl, doforce ⟨e4, by
      rw [take_snoc e, List.map_append]
      rfl⟩⟩
  · obtain ⟨rfl, rfl⟩ := q
    rw [List.take_length]
    exact hd
theorem yes_sim {σ : L2.St} {H : Hp} {Q : Bool → Hp → Prop} (q : rwT yesT σ H Q) : tYes σ H Q := by
  obtain ⟨F, G, S, Qp, hr, ht, k⟩ := q
  exact k _ _ _ _ hr (Same.refl _) ht
/-- the slots beside these are kept -/
def kpOf (ws : List Nat) : Nat → Bool := fun j => !ws.contains j
theorem lc_sim {ti : TXI} {g : TXG} {tt : TXT} {te : TX} {ws : List Nat} {rt : TT} (hrt : ∀ σ H Q, rwT tt σ H Q → rt σ H Q) {σ : L2.St} {H : Hp} {Q : VK} (q : rw (lcX ti g tt te ws) σ H Q) : tLc (rwI ti) (rwG (kpOf ws) g) rt (rw te) ws σ H Q := by
  obtain ⟨F, G, S, Qp, hr, ht, k⟩ := q
  refine ⟨F, G, S, _, hr, ht, fun J its S0 F0 H0 r0 s0 w h0 => ?_⟩
  intro D hD
  obtain ⟨few, Jv, j0, step, done⟩ := h0
  obtain ⟨P, Y, w, hP, hY⟩ := w.ex
  have hG : G D = none := by
    obtain ⟨_, _, r⟩ := r0
    cases q : G D with
    | none => rfl
    | some u => rw [r.lg D u q] at hD; cases hD
  have rg := (RepA.guard (acc := []) r0 hD).wipedIn ws
  refine lc_it w (fun i H' => ∃ F' S' acc ds, Rep F' (upd G D (.lst acc)) H' σ S' ∧ Same F0 F' ∧ LvA F' acc ds ∧ ds.length ≤ i ∧ Jv i ds S' ∧ wipeX S' ws = S') ⟨F0, wipeX S0 ws, [], [], rg.2, Same.refl _, .nil, Nat.le_refl _, j0, ?_⟩ (fun i H' _ pv => ?_) (fun i x H1 H2 hi pv y => ?_) (fun H' pv => ?_)
  · exact wipeX_twice ..
  · obtain ⟨F', S', acc, ds, r', s', _⟩ := pv
    exact hP _ (s'.trans r'.lf)
  · obtain ⟨F', S', acc, ds, r', s', l', dl, j', ew⟩ := pv
    obtain ⟨sh, z, ez, yz⟩ := hY i H1 x H2 hi (s'.trans r'.lf) y
    obtain ⟨F2, s2, r2⟩ := r'.yld s' sh yz
    have r3 : RepA F2 (upd G D (.lst acc)) H2 (wipe σ ws) S' [x] [.d z] := by
      have := (r2.rep.wipedIn ws).1
      rw [ew] at this
      exact this.withD r2.dat
    refine ⟨F2, _, S', _, _, r3, step i z ds S' ez dl j', fun σ3 S3 F3 H3 q3 s3 e3 h3 => ?_⟩
    have ew3 := Kp.wiped (fun j hj => by simp [kpOf, hj]) e3
    have el3 : σ3.length = σ.length := e3.1.trans (wipe_length ..)
    refine ⟨ew3, hrt _ _ _ ⟨F3, _, S3, _, q3, h3, fun b S4 F4 H4 q4 s4 h4 => ?_⟩⟩
    cases b with
    | true =>
      rw [if_pos rfl]
      refine ⟨F4, _, S4, _, q4, h4, fun u r S5 F5 H5 q5 s5 h5 => ?_⟩
      obtain ⟨d, rfl, h5⟩ := h5
      have h5 := unforce h5
      have hl := q5.rep
      have eD : H5 D = some (.lst acc) := by
        obtain ⟨_, _, r⟩ := q5
        exact r.lg _ _ upd_same
      have sF := (s2.trans s3).trans (s4.trans s5)
      have la : LvA F5 (acc ++ [u]) (ds ++ [d]) := by
        exact LvA.snoc (LvA.sm sF _ _ l') q5.dat
      refine ⟨acc, eD, by rw [l'.len, sizeLine_eq]; have := hi; omega, F5, wipeX S5 ws, acc ++ [u], ds ++ [d], (hl.reguard).wipedOut ws ew3 el3, s'.trans sF, la, by rw [List.length_append]; exact Nat.succ_le_succ dl, h5, wipeX_twice ..⟩
    | false =>
      rw [if_neg Bool.false_ne_true]
      have sF := s2.trans (s3.trans s4)
      have h4 := unforce h4
      refine ⟨F4, wipeX S4 ws, acc, ds, q4.wipedOut ws ew3 el3, s'.trans sF, LvA.sm sF _ _ l', Nat.le_succ_of_le dl, h4, wipeX_twice ..⟩
  · obtain ⟨F', S', acc, ds, r', s', l', dl, j', _⟩ := pv
    exact k _ _ _ _ _ (r'.unguard hG l') (s0.trans s') (done _ _ dl j')
end Px

namespace Px
open PySem PySem.Spec PyProof.Rows L2 Fo
/-! ### defs and their calls -/
/-- what a def promises: its arguments, what is wanted of its answer and of the own things handed in -/
abbrev Ct := List PV → KP → Prop
def spP (c : Ct) : Sp := fun vs H Q _ => ∃ F G as Qc, RepA F G H [] [] vs as ∧ c as Qc ∧ ∀ v r as' F' H', RepA F' G H' [] [] (v :: vs) (r :: as') → Same F F' → Qc r as' → Q v H'
def takeX : List PV → List PV → List PV × List PV
  | S, [] => ([], S)
  | S, x :: xs => ((finX S x).1 :: (takeX (finX S x).2 xs).1, (takeX (finX S x).2 xs).2)
def giveX : List PV → List PV → List PV → List PV
  | S, .al i :: xs, a :: as => giveX (S.set i a) xs as
  | S, _ :: xs, _ :: as => giveX S xs as
  | S, _, _ => S
def callF (c : Ct) (dxs : List PV) (t : TXA) : TX := fun S Q => t S fun xs S1 => c ((takeX S1 xs).1 ++ dxs) fun r as' => force (giveX (takeX S1 xs).2 xs as') (Q r)
section
variable {F F' F0 G G' H H' : Hp} {σ σ' : L2.St} {S : List PV} {v : V} {vs us : List V} {xs ys : List PV} {x : PV}
theorem RepA.fin1 (h : RepA F G H σ S (v :: vs) (x :: xs)) : RepA F G H σ (finX S x).2 (v :: vs) ((finX S x).1 :: xs) := by
  cases x with
  | al j => exact h.moved
  | _ => exact h
theorem RepA.finNo (h : RepA F G H σ S vs xs) (x : PV) : ∀ i, (finX S x).1 ≠ .al i := by
  intro i
  cases x with
  | al j => exact h.slotNoal j i
  | _ => exact fun z => nomatch z
theorem RepA.takeAll : ∀ {xs : List PV} {vs dv : List V} {done S : List PV}, vs.length = xs.length → RepA F G H σ S (vs ++ dv) (xs ++ done) → (∀ y ∈ done, ∀ i, y ≠ .al i) →
    RepA F G H σ (takeX S xs).2 (dv ++ vs) (done ++ (takeX S xs).1) ∧ ∀ y ∈ done ++ (takeX S xs).1, ∀ i, y ≠ .al i
  | [], [], dv, done, S, _, h, n => by
    rw [List.append_nil]
    have e0 : (takeX S []).1 = [] := rfl
    rw [e0, List.append_nil]
    exact ⟨h, n⟩
  | [], _ :: _, _, _, _, e, _, _ => nomatch e
  | _ :: _, [], _, _, _, e, _, _ => nomatch e
  | x :: xs, v :: vs, dv, done, S, e, h, n => by
    have hf := h.finNo x
    have h1 := RepA.turn (vs := [v]) (xs := [(finX S x).1]) (us := vs ++ dv) (ys := xs ++ done) h.fin1 rfl
    rw [List.append_assoc, List.append_assoc] at h1
    have := RepA.takeAll (Nat.succ.inj e) h1 fun y m i => (List.mem_append.mp m).elim (fun m => n y m i) fun m => by rw [List.mem_singleton.mp m]; exact hf i
    rw [List.append_assoc, List.append_assoc] at this
    exact this
theorem giveL : ∀ {xs as : List PV} {vs : List V} {S : List PV} {fs fa : List Addr}, RSl F H σ S fs → RVs [] F H vs as fa → (fa ++ fs).Nodup → vs.length = xs.length → (∀ k i : Nat, xs[k]? = some (PV.al i) → ∃ u, vs[k]? = some u ∧ σ[i]? = some (some u)) →
    ∃ fs', RSl F H σ (giveX S xs as) fs' ∧ fs'.Nodup ∧ ∀ a ∈ fs', a ∈ fa ++ fs
  | [], _, _, S, fs, fa, h, _, n, _, _ => by
    refine ⟨fs, ?_, (List.nodup_append.mp n).2.1, fun a m => List.mem_append_right _ m⟩
    unfold giveX
    exact h
  | x :: xs, [], vs, S, fs, fa, h, r, n, e, _ => by
    cases r
    cases e
  | x :: xs, a :: as, vs, S, fs, fa, h, r, n, e, k => by
    cases r with
    | cons r1 r2 =>
      rename_i u vs f1 f2
      have nd := n
      rw [List.append_assoc] at nd
      have n1 := List.nodup_append.mp nd
      have k' : ∀ j i : Nat, xs[j]? = some (PV.al i) → ∃ u, vs[j]? = some u ∧ σ[i]? = some (some u) := fun j i z => by simpa using k (j + 1) i (by simpa using z)
      have skip : ∃ fs', RSl F H σ (giveX S xs as) fs' ∧ fs'.Nodup ∧ ∀ b ∈ fs', b ∈ (f1 ++ f2) ++ fs := by
        obtain ⟨fs', q1, q2, q3⟩ := giveL h r2 n1.2.1 (Nat.succ.inj e) k'
        exact ⟨fs', q1, q2, fun b m => by rw [List.append_assoc]; exact List.mem_append_right _ (q3 b m)⟩
      cases x with
      | al i =>
        obtain ⟨u', e1, e2⟩ := k 0 i rfl
        cases e1
        have hi := (List.getElem?_eq_some_iff.mp e2).1
        have el := h.len
        have nf : (f1 ++ fs).Nodup := List.nodup_append.mpr ⟨n1.1, (List.nodup_append.mp n1.2.1).2.1, fun a ha b hb => n1.2.2 a ha b (List.mem_append_right _ hb)⟩
        obtain ⟨fs1, q1, q2, q3⟩ := h.put (i := i) (by omega) r1 nf
        have eσ : σ.set i (some u) = σ := by
          refine List.ext_getElem? fun j => ?_
          by_cases z : i = j
          · subst z
            rw [List.getElem?_set_self hi, e2]
          · rw [List.getElem?_set_ne z]
        rw [eσ] at q1
        obtain ⟨fs', p1, p2, p3⟩ := giveL q1 r2 (List.nodup_append.mpr ⟨(List.nodup_append.mp n1.2.1).1, q2, fun b hb c hc z => by
          subst z
          rcases List.mem_append.mp (q3 b hc) with m | m
          · exact n1.2.2 b m b (List.mem_append_left _ hb) rfl
          · exact (List.nodup_append.mp n1.2.1).2.2 b hb b m rfl⟩) (Nat.succ.inj e) k'
        refine ⟨fs', p1, p2, fun b m => ?_⟩
        rcases List.mem_append.mp (p3 b m) with m | m
        · exact List.mem_append_left _ (List.mem_append_right _ m)
        · rcases List.mem_append.mp (q3 b m) with m | m
          · exact List.mem_append_left _ (List.mem_append_left _ m)
          · exact List.mem_append_right _ m
      | _ => exact skip
/-- the callee's state out of the caller's, and back -/
theorem RepA.callee (h : RepA F G H σ S vs xs) : ∃ G1, RepA F G1 H [] [] vs (takeX S xs).1 ∧ ∀ F' H' u r as', RepA F' G1 H' [] [] (u :: vs) (r :: as') → Same F F' → RepA F' G H' σ (giveX (takeX S xs).2 xs as') [u] [r] := by
  have hl : vs.length = xs.length := by obtain ⟨_, _, h⟩ := h; exact h.vl.len
  have al : ∀ k i : Nat, xs[k]? = some (PV.al i) → ∃ u, vs[k]? = some u ∧ σ[i]? = some (some u) := fun k i e => by
    obtain ⟨u, f, e1, r, _⟩ := h.at e
    cases r with
    | al z => exact ⟨u, e1, z⟩
  have ht := RepA.takeAll (dv := []) (done := []) hl (by rw [List.append_nil, List.append_nil]; exact h) (fun _ m => nomatch m)
  rw [List.nil_append, List.nil_append] at ht
  obtain ⟨ht, na⟩ := ht
  generalize (takeX S xs).1 = as at ht na
  generalize (takeX S xs).2 = S2 at ht
  obtain ⟨fv, fs, ht⟩ := ht
  have nd := List.nodup_append.mp ht.nd
  have offs : ∀ a ∈ fs, F a = none ∧ G a = none := fun a m => ht.off a (List.mem_append_right _ m)
  have sg : Same G (lock G H fs) := fun a o e => by
    have nm : a ∉ fs := fun m => by
      rw [(offs a m).2] at e
      cases e
    rw [lock_out nm]
    exact e
  refine ⟨lock G H fs, ⟨fv, [], ht.lf, fun a o e => ?_, .nil, ht.vl.others na, by rw [List.append_nil]; exact nd.1, fun a m => ?_, fun a o e => ?_⟩, fun F' H' u r as' k sf => ?_⟩
  · by_cases m : a ∈ fs
    · rw [lock_in m] at e; exact e
    · rw [lock_out m] at e; exact ht.lg a o e
  · rw [List.append_nil] at m
    refine ⟨(ht.off a (List.mem_append_left _ m)).1, ?_⟩
    rw [lock_out fun z => nd.2.2 a m a z rfl]
    exact (ht.off a (List.mem_append_left _ m)).2
  · by_cases m : a ∈ fs
    · refine ⟨(offs a m).1, ?_⟩
      rw [lock_in m] at e
      obtain ⟨o', e', n⟩ := ht.sl.has a m
      rw [e] at e'
      cases e'
      exact n
    · rw [lock_out m] at e; exact ht.dj a o e
  · obtain ⟨f, f0, k⟩ := k
    cases k.sl
    have knd := k.nd
    have koff := k.off
    rw [List.append_nil] at knd koff
    cases hv : k.vl with
    | cons k1 k2 =>
      rename_i fr fa
      have keepH : ∀ a ∈ fs, H' a = H a := fun a m => by
        obtain ⟨o, e, _⟩ := ht.sl.has a m
        rw [e]
        exact k.lg a o (by rw [lock_in m]; exact e)
      have apart : ∀ a ∈ fr ++ fa, a ∉ fs := fun a m z => by
        obtain ⟨o, e, _⟩ := ht.sl.has a z
        have := (koff a m).2
        rw [lock_in z, e] at this
        cases this
      have sl' := ht.sl.stay sf keepH
      have n2 := List.nodup_append.mp knd
      obtain ⟨fs', q1, q2, q3⟩ := giveL (xs := xs) sl' k2 (List.nodup_append.mpr ⟨n2.2.1, nd.2.1, fun a ha b hb z => apart a (List.mem_append_right _ ha) (z ▸ hb)⟩) hl al
      refine ⟨fr ++ [], fs', k.lf, fun a o e => k.lg a o (sg a o e), q1, RVs.cons k1.any .nil, ?_, fun a m => ?_, fun a o e => k.dj a o (sg a o e)⟩
      · rw [List.append_nil]
        refine List.nodup_append.mpr ⟨n2.1, q2, fun a ha b hb z => ?_⟩
        subst z
        rcases List.mem_append.mp (q3 a hb) with m | m
        · exact n2.2.2 a ha a m rfl
        · exact apart a (List.mem_append_left _ ha) m
      · have back : ∀ a, a ∈ fr ++ fa → F' a = none ∧ G a = none := fun a m => ⟨(koff a m).1, by
          have z := (koff a m).2
          rwa [lock_out (apart a m)] at z⟩
        rw [List.append_nil] at m
        rcases List.mem_append.mp m with m | m
        · exact back a (List.mem_append_left _ m)
        · rcases List.mem_append.mp (q3 a m) with m | m
          · exact back a (List.mem_append_right _ m)
          · refine ⟨?_, (offs a m).2⟩
            obtain ⟨o, e, _⟩ := ht.sl.has a m
            exact (k.dj a o (by rw [lock_in m]; exact e)).1
end
inductive CvA : List V → List PV → Prop
  | nil : CvA [] []
  | cons {v : V} {x : PyData} {vs : List V} {xs : List PV} : Cv v x → CvA vs xs → CvA (v :: vs) (.d x :: xs)
theorem RepA.withAll {F G H : Hp} {σ : L2.St} {S : List PV} : ∀ {dv : List V} {dx : List PV} {vs : List V} {xs : List PV}, CvA dv dx → RepA F G H σ S vs xs → RepA F G H σ S (vs ++ dv) (xs ++ dx) := by
  intro dv dx vs xs c h
  obtain ⟨fv, fs, h⟩ := h
  have hc : ∀ {dv : List V} {dx : List PV}, CvA dv dx → RVs σ F H dv dx [] := fun c => by
    induction c with
    | nil => exact .nil
    | cons c _ ih => exact RVs.cons (f := []) (.d c.lv) ih
  refine ⟨fv ++ [], fs, h.lf, h.lg, h.sl, h.vl.app (hc c), ?_, ?_, h.dj⟩ <;> rw [List.append_nil]
  · exact h.nd
  · exact h.off
theorem giveX_take : ∀ (xs as S : List PV), giveX S xs as = giveX S xs (as.take xs.length)
  | [], as, S => by cases as <;> rfl
  | x :: xs, [], S => by cases x <;> rfl
  | x :: xs, a :: as, S => by
    show _ = giveX S (x :: xs) (a :: as.take xs.length)
    cases x <;> exact giveX_take xs as _
theorem callF_sim {c : Ct} {dv : List V} {dx : List PV} {ta : TXA} {E : XK} (cd : CvA dv dx) {σ : L2.St} {H : Hp} {Q : VK} (q : rw (callF c dx ta) σ H Q) : tCall (spP c) dv E (rwA ta) σ H Q := by
  obtain ⟨F, G, S, Qp, hr, ht, k⟩ := q
  refine ⟨F, G, S, _, hr, ht, fun vs xs S1 F1 H1 r1 s1 h1 => ?_⟩
  obtain ⟨G1, rc, back⟩ := r1.callee
  refine ⟨F1, G1, _, _, rc.withAll cd, h1, fun v r as' F' H' r2 s2 q2 => ?_⟩
  have ll : as'.length = vs.length + dv.length := by
    obtain ⟨_, _, r⟩ := r2
    have := r.vl.len
    simp only [List.length_cons, List.length_append] at this
    omega
  have lv : vs.length = xs.length := by obtain ⟨_, _, r⟩ := r1; exact r.vl.len
  rw [← List.take_append_drop vs.length as'] at r2
  have r3 := RepA.turn (vs := v :: vs) (us := dv) (xs := r :: as'.take vs.length) (ys := as'.drop vs.length) r2 (by simp only [List.length_cons, List.length_take]; omega)
  have r4 := r3.drop (by rw [List.length_drop]; omega)
  have q2 : Qp r (giveX (takeX S1 xs).2 xs as') := unforce q2
  rw [giveX_take, ← lv] at q2
  exact k _ _ _ _ _ (back _ _ _ _ _ r4 s2) (s1.trans s2) q2
/-! ### a def's body -/
def backL : List Bool → List PV → List PV
  | true :: m, x :: S => x :: backL m S
  | false :: m, _ :: S => .un :: backL m S
  | _, _ => []
def kpM (m : List Bool) : Nat → Bool := fun i => m.getD i false
theorem backL_sim {F H : Hp} : ∀ {m : List Bool} {S : List PV} {σ : List (Option V)} {vs : List V} {fs : List Addr}, RSl F H σ S fs → vs.length = m.length → m.length ≤ S.length → (∀ i : Nat, m[i]? = some true → ∃ v, vs[i]? = some v ∧ σ[i]? = some (some v)) →
    ∃ f, RVs [] F H vs (backL m S) f ∧ f.Sublist fs
  | [], S, σ, vs, fs, _, e, _, _ => by
    cases vs with
    | nil => exact ⟨[], .nil, List.nil_sublist _⟩
    | cons _ _ => cases e
  | b :: m, [], σ, vs, fs, _, _, e, _ => absurd e (Nat.not_succ_le_zero _)
  | b :: m, x :: S, σ, [], fs, _, e, _, _ => nomatch e
  | b :: m, x :: S, σ, v :: vs, fs, h, e, l, k => by
    have k' : ∀ {τ : List (Option V)} {o : Option V}, σ = o :: τ → ∀ i : Nat, m[i]? = some true → ∃ v, vs[i]? = some v ∧ τ[i]? = some (some v) := fun {τ o} eq i z => by
      obtain ⟨u, e1, e2⟩ := k (i + 1) (by simpa using z)
      rw [eq] at e2
      exact ⟨u, by simpa using e1, by simpa using e2⟩
    have e' := Nat.succ.inj e
    have l' := Nat.le_of_succ_le_succ l
    have tail : ∀ {τ : List (Option V)} {o : Option V} {g : List Addr}, σ = o :: τ → RSl F H τ S g → ∃ f, RVs [] F H vs (backL m S) f ∧ f.Sublist g := fun eq h => backL_sim h e' l' (k' eq)
    cases b with
    | false =>
      cases h with
      | un h =>
        obtain ⟨f, q1, q2⟩ := tail rfl h
        exact ⟨[] ++ f, .cons (.un v) q1, q2⟩
      | cons h1 h2 =>
        obtain ⟨f, q1, q2⟩ := tail rfl h2
        exact ⟨[] ++ f, .cons (.un v) q1, q2.trans (List.sublist_append_right ..)⟩
    | true =>
      obtain ⟨u, e1, e2⟩ := k 0 rfl
      cases e1
      cases h with
      | un h =>
        obtain ⟨f, q1, q2⟩ := tail rfl h
        exact ⟨[] ++ f, .cons (.un v) q1, q2⟩
      | cons h1 h2 =>
        cases e2
        obtain ⟨f, q1, q2⟩ := tail rfl h2
        exact ⟨_, .cons h1 q1, q2.append_left _⟩
theorem slots_of {F H : Hp} (m : Nat) : ∀ {as : List PV} {vs : List V} {f : List Addr}, RVs [] F H vs as f → RSl F H (vs.map some ++ List.replicate m none) (as ++ List.replicate m .un) f
  | [], vs, f, h => by
    cases h
    show RSl F H (List.replicate m none) (List.replicate m .un) []
    induction m with
    | zero => exact .nil
    | succ m ih => exact .un ih
  | a :: as, _, _, h => by
    cases h with
    | cons h1 h2 => exact .cons h1 (slots_of m h2)
def dnC (mask : List Bool) (Qc : KP) : Dn where
  nx := fun S => Qc (.d .none) (backL mask S)
  rt := fun r S => Qc (finX S r).1 (backL mask (finX S r).2)
theorem enter {c : Ct} {mask : List Bool} {N : List Str} {vs : List V} {H : Hp} {Q : VK} {E : XK} {t : TXS} (h : spP c vs H Q E) (hl : vs.length = mask.length) (hN : mask.length ≤ N.length)
    (ht : ∀ as Qc, c as Qc → as.length = mask.length → t (dnC mask Qc) (as ++ List.replicate (N.length - mask.length) .un)) : rwS (kpM mask) t { nx := fun _ H' => Q .non H', rt := Q } (start N vs) H := by
  obtain ⟨F, G, as, Qc, hr, hc, k⟩ := h
  have la : vs.length = as.length := by obtain ⟨_, _, r⟩ := hr; exact r.vl.len
  have r0 : Rep F G H (start N vs) (as ++ List.replicate (N.length - mask.length) .un) := by
    obtain ⟨fv, fs, r⟩ := hr
    cases r.sl
    have nd := r.nd
    have off := r.off
    rw [List.append_nil] at nd off
    refine ⟨[], fv, r.lf, r.lg, ?_, .nil, nd, off, r.dj⟩
    unfold L2.start
    rw [hl]
    exact slots_of _ r.vl
  have lS : (as ++ List.replicate (N.length - mask.length) PV.un).length = N.length := by
    rw [List.length_append, List.length_replicate]
    omega
  have out : ∀ {u : V} {r : PV} {σ' : L2.St} {S' : List PV} {F' H' : Hp}, RepA F' G H' σ' S' [u] [r] → Same F F' → Kp (kpM mask) (start N vs) σ' → Qc (finX S' r).1 (backL mask (finX S' r).2) → Q u H' := fun {u r σ' S' F' H'} r' s' e' q' => by
    have r1 := r'.fin1
    have l1 := r1.lenS
    have na := r'.finNo r
    generalize (finX S' r).1 = r2 at r1 na q'
    generalize (finX S' r).2 = S2 at r1 l1 q'
    obtain ⟨fv, fs, r1⟩ := r1
    have l0 := r0.lenS
    have lσ : σ'.length = N.length := by rw [e'.1, ← l0, lS]
    obtain ⟨f, q1, q2⟩ := backL_sim (m := mask) (vs := vs) r1.sl hl (by omega) fun i z => by
      have hi : i < mask.length := (List.getElem?_eq_some_iff.mp z).1
      have hv : i < vs.length := by omega
      refine ⟨vs[i], List.getElem?_eq_getElem hv, ?_⟩
      rw [e'.2 i (by unfold kpM; rw [List.getD_eq_getElem?_getD, z]; rfl)]
      unfold L2.start
      rw [List.getElem?_append_left (by rw [List.length_map]; exact hv), List.getElem?_map, List.getElem?_eq_getElem hv]
      rfl
    have nd := List.nodup_append.mp r1.nd
    refine k u r2 _ F' H' ⟨fv ++ f, [], r1.lf, r1.lg, .nil, (RVs.others r1.vl fun y m => by rw [List.mem_singleton.mp m]; exact na).app q1, ?_, fun a m => ?_, r1.dj⟩ s' q'
    · rw [List.append_nil]
      exact List.nodup_append.mpr ⟨nd.1, q2.nodup nd.2.1, fun a ha b hb => nd.2.2 a ha b (q2.subset hb)⟩
    · rw [List.append_nil] at m
      exact r1.off a ((List.mem_append.mp m).elim (List.mem_append_left _) fun m => List.mem_append_right _ (q2.subset m))
  refine ⟨F, G, _, dnC mask Qc, r0, ht as Qc hc (by omega), ⟨fun σ' S' F' H' r' s' e' q' => ?_, fun u r σ' S' F' H' r' s' e' q' => out r' s' e' q', fun _ _ _ _ _ _ _ z => z.elim, fun _ _ _ _ _ _ _ z => z.elim⟩⟩
  exact out (r := .d .none) (r'.withD .non) s' e' q'
theorem spP_len {c : Ct} {n : Nat} (h : ∀ as Q, c as Q → as.length = n) {vs : List V} {H : Hp} {Q : VK} {E : XK} (q : spP c vs H Q E) : vs.length = n := by
  obtain ⟨F, G, as, Qc, hr, hc, _⟩ := q
  rw [← h as Qc hc]
  obtain ⟨_, _, r⟩ := hr
  exact r.vl.len
end Px

namespace Fo
open PySem PySem.Spec PyProof.Rows L2 TL HT
/-! ### a tuple turned about: t[::-1] -/
theorem back_bounds (n : Nat) : Builtin.Slice.sliceAdjust none none (-1) (n : Int) = ((n : Int) - 1, -1) := rfl
theorem back_many (n : Nat) : Builtin.Slice.slicePlaces ((n : Int) - 1) (-1) (-1) = n := by
  rw [Builtin.Slice.slicePlaces, if_neg (by decide : ¬ (-1 : Int) > 0)]
  split
  · rw [show (- -1 : Int) = 1 from rfl, Int.ediv_one]; omega
  · omega
theorem pick_all {f : Nat → Option Value} {g : Nat → Value} : ∀ l : List Nat, (∀ k ∈ l, f k = some (g k)) → l.filterMap f = l.map g
  | [], _ => rfl
  | k :: l, h => by rw [List.filterMap_cons_some (h k (List.mem_cons_self ..)), List.map_cons, pick_all l fun j hj => h j (List.mem_cons_of_mem _ hj)]
theorem back_items (xs : Array Value) : ((List.range xs.size).filterMap fun (k : Nat) => xs[((xs.size : Int) - 1 + (k : Int) * -1).toNat]?) = xs.toList.reverse := by
  have e : ∀ k ∈ List.range xs.size, xs[((xs.size : Int) - 1 + (k : Int) * -1).toNat]? = some (xs.toList.reverse.getD k .none) := fun k hk => by
    have hk := List.mem_range.mp hk
    rw [show ((xs.size : Int) - 1 + (k : Int) * -1).toNat = xs.size - 1 - k by omega, ← Array.getElem?_toList, List.getD_eq_getElem?_getD, List.getElem?_reverse (by rw [Array.length_toList]; exact hk), Array.length_toList,
      List.getElem?_eq_getElem (by rw [Array.length_toList]; omega)]
    rfl
  rw [pick_all _ e]
  refine List.ext_getElem (by simp) fun i _ high => ?_
  simp only [List.getElem_map, List.getElem_range, List.getD_eq_getElem?_getD, List.getElem?_eq_getElem high]
  rfl
section
variable {P : Program} {w : World} {A : Around} {E : Value → Shared → Prop} {s : Shared}
theorem back_applied {sl : Addr} {u : Tok} {n : Nat} {Q : Int × Int × Nat → Shared → Prop} (hs : s.heap.IsSliceOf sl .none .none (.int (-1) u)) (goal : Q ((n : Int) - 1, -1, n) s) :
    wpAny (model P w) A (Builtin.Slice.sliceApplied (.ref sl) (pure (n : Int))) Q E s := by
  rcases hs with ⟨o, there, _, data⟩
  rw [Builtin.Slice.sliceApplied, Builtin.Slice.sliceFields]
  refine wpAny_bind (wpAny_bind (wpAny_field there data (x := .none) rfl (wpAny_bind (wpAny_field there data (x := .none) rfl (wpAny_bind (wpAny_field there data (x := .int (-1) u) rfl (wpAny_pure (wpAny_bind (slicePart_int ?_)))))))))
  show wpAny _ _ (if ((-1 : Int) == 0) = true then _ else _) _ _ s
  rw [if_neg (by decide)]
  refine wpAny_bind (slicePart_none (wpAny_bind (slicePart_none (wpAny_bind (wpAny_pure ?_)))))
  show wpAny _ _ (match Builtin.Slice.sliceAdjust none none (-1) (n : Int) with | (lo, hi) => pure (lo, (-1 : Int), Builtin.Slice.slicePlaces lo hi (-1))) _ _ s
  rw [back_bounds]
  show wpAny _ _ (pure ((n : Int) - 1, (-1 : Int), Builtin.Slice.slicePlaces ((n : Int) - 1) (-1) (-1))) _ _ s
  rw [back_many]
  exact wpAny_pure goal
theorem item_back {t sl : Addr} {xs : Array Value} {u : Tok} {Q : Value → Shared → Prop} (ht : IsTup s.heap t xs) (hs : s.heap.IsSliceOf sl .none .none (.int (-1) u)) (small : xs.size ≤ sizeLine)
    (goal : Q (.ref s.heap.objs.size) { s with heap := s.heap.push { cls := .type "tuple", data := .seq xs.toList.reverse.toArray } }) : wpAny (model P w) A (getItem (.ref t) (.ref sl)) Q E s := by
  have isSlice : s.TypeIs (.ref sl) "slice" := by
    obtain ⟨o, there, cls, _⟩ := hs
    exact ⟨o, there, cls⟩
  have fits : sizeOk (.seq xs.toList.reverse.toArray) := by
    show xs.toList.reverse.toArray.size ≤ sizeLine
    simpa using small
  unfold getItem
  try refine wpAny_holding ?_
  try refine wpAny_bind (wpAny_pure ?_)
  refine wpAny_bind (wpAny_sequenceKey ht.typeIs (by decide) (wpAny_bind (wpAny_callSpecial?_slot (name := Str.ofString "__getitem__") ht.typeIs PyProof.Rows.slot_tuple_getitem ?_)))
  refine wpAny_call_entry PyProof.Rows.slot_tuple_getitem ht.typeIs entry_tuple_getitem (?_ : wpAny _ _ (Builtin.Tuple.tupleItemsOf (.ref t) >>= _) _ _ s) (args_tuple_getitem _ _)
  refine wpAny_bind (tupleItemsOf_ ht (wpAny_bind (wpAny_typeOf isSlice ?_)))
  rw [if_pos (by decide)]
  refine wpAny_bind (back_applied (n := xs.size) hs ?_)
  show wpAny _ _ (if (((xs.size : Int) - 1 == 0) && ((-1 : Int) == 1) && (xs.size == xs.size)) = true then _ else _) _ _ s
  rw [if_neg (by simp), back_items]
  first
    | exact wpAny_bind (m := Builtin.Tuple.tupleExact _) (wpAny_newObj_type (wpAny_pure ⟨_, rfl, wpAny_pure goal⟩) fits)
    | exact wpAny_bind (wpAny_bind (m := Builtin.Tuple.tupleExact _) (wpAny_newObj_type (wpAny_pure ⟨_, rfl, wpAny_pure goal⟩) fits))
    | exact wpAny_bind (m := Builtin.Tuple.tupleExact _) (wpAny_newObj_type (wpAny_bind (wpAny_pure (wpAny_pure ⟨_, rfl, wpAny_pure goal⟩))) fits)
end
def tBack (te : TE) (ts : TO) : TE := fun σ H Q => te σ H fun x H1 => ts σ H1 fun st H2 => st = some (-1) ∧ ∃ a xs, x = .ref a ∧ H2 a = some (.tup xs) ∧ New (.tup xs.reverse) H2 Q
theorem vals_back : ∀ {xs : List V} {us : List Value}, Vals xs us → Vals xs.reverse us.reverse
  | _, _, .nil => .nil
  | x :: xs, u :: us, .cons h r => by
    rw [List.reverse_cons (a := x), List.reverse_cons (a := u)]
    exact (vals_back r).append (.cons h .nil)
theorem pe_sliceB {X : Cx} {e st : Expr} {te : TE} {ts : TO} {p2 pos : Pos} (he : PE X e te) (hs : PO X (some st) ts) : PE X (.Subscript e (.Slice none none (some st) p2) pos) (tBack te ts) := by
  refine ⟨fun pins s σ H Q I h => Subscript_ (thn (he.run pins s σ H _ I h) fun v s1 ⟨x, H1, I1, r1, q1⟩ => wpAny_Slice ?_)⟩
  rw [evalPart_none]
  refine wpAny_pure (wpAny_pure (thn (hs.run pins s1 σ H1 _ I1 q1) fun vs s2 told => ?_))
  obtain ⟨z, H2, I2, part, rfl, a, xs, rfl, ha, goal⟩ := told
  cases r1
  cases part with | int _ u =>
  have I3 : Inv X pins σ H2 { s2 with heap := s2.heap.push { cls := .type "slice", data := .fields #[.none, .none, .int (-1) u] } } := I2.kept (t' := s2.toks) fun b o q => Heap.get?_push_of_some _ q
  obtain ⟨its, r, ht, small⟩ := I3.tuple (SqT.of (K := X.K) ha)
  have len : its.toArray.size = xs.length := by rw [List.size_toArray, r.length]
  show wpAny _ _ (subscriptTail e (.Slice none none (some st) p2) (.ref a) (.ref s2.heap.objs.size)) _ _ _
  refine tail_any (ops := [.ref a, .ref s2.heap.objs.size]) ht.typeIs PyProof.Rows.slot_tuple_getitem.lookup (item_back ht (Heap.IsSliceOf.new ..) (by rw [len]; exact small) ?_) (by with_unfolding_all rfl)
  refine ⟨.ref _, _, I3.laid (t' := s2.toks) (o := .tup xs.reverse) (fun b o q => Heap.get?_push_of_some _ q) (Nat.le_refl _) ?_, rfl, goal.at _ (I3.hok.fresh (Nat.le_refl _))⟩
  exact ⟨by rw [List.length_reverse]; exact small, _, vals_back r, IsTup.new _ _⟩
end Fo

namespace Fo
open PySem PySem.Spec PyProof.Rows L2 TL
/-! ### a tuple times a number, one too -/
/-- times one: the tuple itself -/
theorem tup_once {at_ : Addr} {inside : Array Value} {epoch : Nat} {attrs : Option Addr} {slots : Array (Option Value)} {u : Tok} :
    Meets (Builtin.«tuple.__mul__» ⟨[.ref at_, .int 1 u], []⟩) (fun _ Rs st =>
      st.heap.get? at_ = some ⟨.type "tuple", attrs, .seq inside epoch, slots⟩ ∧ Rs (.ok (.ret (.ref at_))) st) := by
  refine Meets.of_wp fun _ _ _ Rs st both => ?_
  rcases st with ⟨heap, gens, drawn, toks, os⟩
  rcases both with ⟨stands, done⟩
  have index := AutoSeq1.idx_int
  have far : ¬ ((1 : Int) < -(2 ^ 63) ∨ (1 : Int) ≥ 2 ^ 63) := by decide
  wp_walk using wpAny_loadPart' stands
  all_goals exact ⟨_, rfl, done⟩
def rMulT : R2 := fun x y H Q => ∃ l k xs, x = .ref l ∧ y = .int k ∧ H l = some (.tup xs) ∧ xs ≠ [] ∧ 1 ≤ k ∧ k ≤ 1000 ∧ xs.length ≤ 1000 ∧ ∀ p H', Same H H' → H' p = some (.tup (List.replicate k.toNat xs).flatten) → Q (.ref p) H'
section
variable {X : Cx}
theorem op_mulT : OpR X (binaryOp .Mult) rMulT := by
  rintro pins s σ H _ _ v u Q I rx ry ⟨at_, k, xs, rfl, rfl, stands, some_, low, high, few, goal⟩
  rcases Int.lt_or_eq_of_le low with more | once
  · -- two or more: the library's rule
    refine op_repT pins s σ H _ _ v u Q I rx ry ⟨at_, k, xs, rfl, rfl, SqT.of stands, some_, by omega, high, few, fun fresh none_ => ?_⟩
    exact goal fresh _ (same_new none_) upd_same
  · subst once
    have asked : Q (.ref at_) H := goal at_ H (Same.refl H) (by rw [stands]; show _ = some (HO.tup (List.replicate 1 xs).flatten); simp)
    have tuple := (I.tuple (SqT.of (K := X.K) stands)).choose_spec.2.1
    cases rx
    cases ry with | intro tok same =>
    subst same
    rcases tuple with ⟨⟨kind, attrs, data, slots⟩, here, isTuple, epoch, isSeq⟩
    cases (show kind = _ from isTuple)
    cases (show data = _ from isSeq)
    have typed : s.TypeIs (.ref at_) "tuple" := ⟨_, here, rfl⟩
    have number : ∀ s' : Shared, s'.TypeIs (.int 1 tok) "int" := fun s' => typeIs_int s' 1 tok
    have last : wpAny (model X.prog X.w) X.A (call (.builtin "tuple.__mul__") [.ref at_, .int 1 tok]) (EP X pins σ Q) X.xe s :=
      call_meets F.slot_tuple_mul typed F.entry_tuple_mul (F.args_tuple_mul_2 (.ref at_) (.int 1 tok)) tup_once ⟨here, .ref at_, H, I, rfl, asked⟩
    refine wpAny_binaryOp_repeat_ref (by decide) typed number noFill_tuple_mul F.fills_int_mul F.slot_int_rmul repeat_tuple F.slot_int_index.lookup ?_
    exact call_meets F.slot_int_rmul (number s) F.entry_int_rmul (F.args_int_rmul_2 _ _) (int_rmul_tuple 1 tok at_ _ epoch attrs slots) ⟨here, rfl, typed, last⟩
end
end Fo

namespace Px
open PySem PySem.Spec PyProof.Rows L2 Fo TL
section
variable {F F' F0 G G' H H' : Hp} {σ σ' : L2.St} {S : List PV} {v u : V} {vs us : List V} {xs ys : List PV} {x y : PV} {Qp : KP} {Q : VK}
/-! ### what stands in hand -/
theorem RepA.looks (h : RepA F G H σ S vs xs) {k : Nat} (e : xs[k]? = some x) : ∃ v f, vs[k]? = some v ∧ RV [] F H v (look S x) f := by
  obtain ⟨v, f, ev, r, _⟩ := h.at e
  cases x with
  | al i =>
    cases r with
    | al es =>
      show ∃ v f, vs[k]? = some v ∧ RV [] F H v (S.getD i .un) f
      by_cases n : S.getD i .un = .un
      · rw [n]
        exact ⟨v, [], ev, .un v⟩
      · have hi : i < S.length := by
          by_cases hi : i < S.length
          · exact hi
          · exact absurd (by rw [List.getD_eq_getElem?_getD, List.getElem?_eq_none (by omega)]; rfl) n
        have e1 : S[i]? = some (S.getD i .un) := by rw [List.getD_eq_getElem?_getD, List.getElem?_eq_getElem hi]; rfl
        obtain ⟨w, g, e2, r2, _⟩ := h.chg e1 n
        rw [es] at e2
        cases e2
        exact ⟨_, g, ev, r2⟩
  | _ => exact ⟨v, f, ev, r.other fun i z => nomatch z⟩
theorem RepA.look0 (h : RepA F G H σ S (v :: vs) (x :: xs)) : ∃ f, RV [] F H v (look S x) f := by
  obtain ⟨u, f, e, r⟩ := h.looks (k := 0) rfl
  cases e
  exact ⟨f, r⟩
theorem RepA.look1 (h : RepA F G H σ S (v :: u :: vs) (x :: y :: xs)) : ∃ f, RV [] F H u (look S y) f := by
  obtain ⟨w, f, e, r⟩ := h.looks (k := 1) rfl
  cases e
  exact ⟨f, r⟩
def asList : PV → Option (List PyData)
  | .l a => some a
  | .d (.list a) => some a
  | _ => none
theorem RV.lst {f : List Addr} {a : List PyData} (r : RV [] F H v x f) (s : Same F H) (e : asList x = some a) : ∃ p ws, v = .ref p ∧ H p = some (.lst ws) ∧ LvA F ws a := by
  cases r with
  | l h1 h2 => cases e; exact ⟨_, _, rfl, h1, h2⟩
  | d h =>
    cases h with
    | lst h1 h2 => cases e; exact ⟨_, _, rfl, s _ _ h1, h2⟩
    | _ => cases e
  | _ => cases e
theorem RV.tup {f : List Addr} {a : List PyData} (r : RV [] F H v (.d (.tuple a)) f) (s : Same F H) : ∃ p ws, v = .ref p ∧ H p = some (.tup ws) ∧ LvA F ws a := by
  cases r with
  | d h =>
    cases h with
    | tup h1 h2 => exact ⟨_, _, rfl, s _ _ h1, h2⟩
theorem RV.dat {f : List Addr} {a : PyData} (r : RV [] F H v (.d a) f) : Lv F v a := by
  cases r with
  | d h => exact h
theorem LvA.appd {F : Hp} : ∀ {ds es : List PyData} {us ws : List V}, LvA F us ds → LvA F ws es → LvA F (us ++ ws) (ds ++ es)
  | [], _, _, _, h, k => by cases h; exact k
  | _ :: _, _, _, _, h, k => by
    cases h with
    | cons h1 h2 => exact .cons h1 (LvA.appd h2 k)
theorem LvA.takes {F : Hp} : ∀ {ds : List PyData} {us : List V} (n : Nat), LvA F us ds → LvA F (us.take n) (ds.take n)
  | _, _, 0, _ => .nil
  | [], _, n + 1, h => by cases h; exact .nil
  | _ :: _, _, n + 1, h => by
    cases h with
    | cons h1 h2 => exact .cons h1 (LvA.takes n h2)
theorem LvA.drops {F : Hp} : ∀ {ds : List PyData} {us : List V} (n : Nat), LvA F us ds → LvA F (us.drop n) (ds.drop n)
  | _, _, 0, h => h
  | [], _, n + 1, h => by cases h; exact .nil
  | _ :: _, _, n + 1, h => by
    cases h with
    | cons h1 h2 => exact LvA.drops n h2
theorem LvA.nthd {F : Hp} : ∀ {ds : List PyData} {us : List V} {i : Nat} {d : PyData}, LvA F us ds → ds[i]? = some d → ∃ x, us[i]? = some x ∧ Lv F x d
  | [], _, i, d, _, e => by simp at e
  | _ :: _, _, i, d, h, e => by
    cases h with
    | cons h1 h2 =>
      cases i with
      | zero => simp at e; subst e; exact ⟨_, rfl, h1⟩
      | succ i =>
        obtain ⟨x, e1, e2⟩ := LvA.nthd (i := i) h2 (by simpa using e)
        exact ⟨x, by simpa using e1, e2⟩
/-! the answers -/
theorem Fin.dat {z : PyData} (k : Fin F G σ Qp Q) (h : RepA F G H σ S vs xs) (l : Lv F v z) (q : Qp (.d z) S) : Q v H := k _ _ _ _ _ (Rep.withD h.rep l) (Same.refl _) q
theorem Fin.lst {ws : List V} {ds : List PyData} (k : Fin F G σ Qp Q) (h : RepA F G H σ S vs xs) (l : LvA F ws ds) (q : Qp (.l ds) S) : New (.lst ws) H Q := fun p H' n s e =>
  k _ _ _ _ _ (RepA.new (f := [p]) h.rep s (fun a m => by rw [List.mem_singleton.mp m]; exact n) (List.nodup_cons.mpr ⟨fun m => (nomatch m), .nil⟩) (.l e l)) (Same.refl _) q
theorem Fin.tup {ws : List V} {ds : List PyData} (k : Fin F G σ Qp Q) (h : RepA F G H σ S vs xs) (l : LvA F ws ds) (q : Qp (.d (.tuple ds)) S) : Got (.tup ws) H Q := fun p H' s e => by
  obtain ⟨F', s', e', r'⟩ := RepA.tup h.rep s e
  exact k _ _ _ _ _ (Rep.withD r' (.tup e' (LvA.sm s' _ _ l))) s' q
theorem line_eq : (16777216 : Nat) = sizeLine := sizeLine_eq.symm
/-! ### + -/
def pAdd : P2 := fun S x y Q => match look S x, look S y with
  | .d (.int i), .d (.int j) => Q (.d (.int (i + j))) S
  | .d (.str a), .d (.str b) => (tl a).length + (tl b).length ≤ 16777216 ∧ Q (.d (.str (tx (tl a ++ tl b)))) S
  | .d (.tuple a), .d (.tuple b) => a.length + b.length ≤ 16777216 ∧ Q (.d (.tuple (a ++ b))) S
  | .l a, .l b => a.length + b.length ≤ 16777216 ∧ Q (.l (a ++ b)) S
  | .l a, .d (.list b) => a.length + b.length ≤ 16777216 ∧ Q (.l (a ++ b)) S
  | .d (.list a), .l b => a.length + b.length ≤ 16777216 ∧ Q (.l (a ++ b)) S
  | .d (.list a), .d (.list b) => a.length + b.length ≤ 16777216 ∧ Q (.l (a ++ b)) S
  | _, _ => False
theorem sim_add : Sim2 rAddG pAdd := by
  intro F G H σ S v u x y Qp Q r hp k
  obtain ⟨f1, r1⟩ := r.look0
  obtain ⟨f2, r2⟩ := r.look1
  unfold pAdd at hp
  have lists : ∀ {a b : List PyData}, asList (look S x) = some a → asList (look S y) = some b → a.length + b.length ≤ 16777216 ∧ Qp (.l (a ++ b)) S → rAddG v u H Q := fun {a b} ea eb h => by
    obtain ⟨p, ws, rfl, e1, l1⟩ := r1.lst r.lf ea
    obtain ⟨q, zs, rfl, e2, l2⟩ := r2.lst r.lf eb
    exact .inr (.inr (.inl ⟨p, q, ws, zs, rfl, rfl, e1, e2, by rw [l1.len, l2.len, ← line_eq]; exact h.1, k.lst r (LvA.appd l1 l2) h.2⟩))
  split at hp
  · rename_i i j e1 e2
    rw [e1] at r1
    rw [e2] at r2
    cases r1.dat
    cases r2.dat
    exact .inl ⟨i, j, rfl, rfl, k.dat r (.int _) hp⟩
  · rename_i a b e1 e2
    rw [e1] at r1
    rw [e2] at r2
    cases r1.dat
    cases r2.dat
    refine .inr (.inl ⟨a, b, rfl, rfl, by rw [len_tl, len_tl, ← line_eq]; exact hp.1, ?_⟩)
    rw [show a ++ b = tx (tl a ++ tl b) by rw [← tx_app, tx_tl, tx_tl]]
    exact k.dat r (.str _) hp.2
  · rename_i a b e1 e2
    rw [e1] at r1
    rw [e2] at r2
    obtain ⟨p, ws, rfl, e1, l1⟩ := r1.tup r.lf
    obtain ⟨q, zs, rfl, e2, l2⟩ := r2.tup r.lf
    exact .inr (.inr (.inr ⟨p, q, ws, zs, rfl, rfl, e1, e2, by rw [l1.len, l2.len, ← line_eq]; exact hp.1, k.tup r (LvA.appd l1 l2) hp.2⟩))
  · rename_i a b e1 e2; exact lists (by rw [e1]; rfl) (by rw [e2]; rfl) hp
  · rename_i a b e1 e2; exact lists (by rw [e1]; rfl) (by rw [e2]; rfl) hp
  · rename_i a b e1 e2; exact lists (by rw [e1]; rfl) (by rw [e2]; rfl) hp
  · rename_i a b e1 e2; exact lists (by rw [e1]; rfl) (by rw [e2]; rfl) hp
  · exact hp.elim
/-! ### ints -/
def asInt : PV → Option Int
  | .d (.int i) => some i
  | _ => none
/-- two ints, a condition, an answer -/
def pInt (C : Int → Int → Prop) (f : Int → Int → PyData) : P2 := fun S x y Q => match look S x, look S y with
  | .d (.int i), .d (.int j) => C i j ∧ Q (.d (f i j)) S
  | _, _ => False
def pInt0 (f : Int → Int → PyData) : P2 := fun S x y Q => match look S x, look S y with
  | .d (.int i), .d (.int j) => Q (.d (f i j)) S
  | _, _ => False
theorem sim_int {C : Int → Int → Prop} {g : Int → Int → V} {f : Int → Int → PyData} {r : R2} (hr : ∀ i j H Q, C i j → Q (g i j) H → r (.int i) (.int j) H Q) (hg : ∀ i j, Cv (g i j) (f i j)) : Sim2 r (pInt C f) := by
  intro F G H σ S v u x y Qp Q r hp k
  obtain ⟨f1, r1⟩ := r.look0
  obtain ⟨f2, r2⟩ := r.look1
  unfold pInt at hp
  split at hp
  · rename_i i j e1 e2
    rw [e1] at r1
    rw [e2] at r2
    cases r1.dat
    cases r2.dat
    exact hr i j H Q hp.1 (k.dat r (hg i j).lv hp.2)
  · exact hp.elim
theorem sim_int0 {g : Int → Int → V} {f : Int → Int → PyData} {r : R2} (hr : ∀ i j H Q, Q (g i j) H → r (.int i) (.int j) H Q) (hg : ∀ i j, Cv (g i j) (f i j)) : Sim2 r (pInt0 f) := by
  intro F G H σ S v u x y Qp Q r hp k
  obtain ⟨f1, r1⟩ := r.look0
  obtain ⟨f2, r2⟩ := r.look1
  unfold pInt0 at hp
  split at hp
  · rename_i i j e1 e2
    rw [e1] at r1
    rw [e2] at r2
    cases r1.dat
    cases r2.dat
    exact hr i j H Q (k.dat r (hg i j).lv hp)
  · exact hp.elim
abbrev pSub : P2 := pInt0 fun i j => .int (i - j)
theorem sim_sub : Sim2 (rI0 fun i j => .int (i - j)) pSub := sim_int0 (fun i j H Q q => ⟨i, j, rfl, rfl, q⟩) fun _ _ => .int _
abbrev pMod : P2 := pInt (fun _ j => j ≠ 0) fun i j => .int (i.fmod j)
theorem sim_mod : Sim2 (rI (fun _ j => j ≠ 0) fun i j => .int (i.fmod j)) pMod := sim_int (fun i j H Q c q => ⟨i, j, rfl, rfl, c, q⟩) fun _ _ => .int _
abbrev pDiv : P2 := pInt CDivN fun i j => .int (i.fdiv j)
theorem sim_div : Sim2 (rI CDivN fun i j => .int (i.fdiv j)) pDiv := sim_int (fun i j H Q c q => ⟨i, j, rfl, rfl, c, q⟩) fun _ _ => .int _
abbrev pPow : P2 := pInt CPow fun i j => .int (i ^ j.toNat)
theorem sim_pow : Sim2 (rI CPow fun i j => .int (i ^ j.toNat)) pPow := sim_int (fun i j H Q c q => ⟨i, j, rfl, rfl, c, q⟩) fun _ _ => .int _
end
end Px

namespace Px
open PySem PySem.Spec PyProof.Rows L2 Fo TL
section
variable {F F' F0 G G' H H' : Hp} {σ σ' : L2.St} {S : List PV} {v u : V} {vs us : List V} {xs ys : List PV} {x y : PV} {Qp : KP} {Q : VK}
/-! ### own lists in hand become data -/
def frz1 (S : List PV) : PV → PV × List PV
  | .l ds => (.d (.list ds), S)
  | .al i => match S.getD i .un with
    | .l ds => (.d (.list ds), S.set i (.d (.list ds)))
    | .d z => (.d z, S)
    | _ => (.al i, S)
  | x => (x, S)
def frzA : List PV → List PV → List PV × List PV
  | S, [] => ([], S)
  | S, x :: xs => ((frz1 S x).1 :: (frzA (frz1 S x).2 xs).1, (frzA (frz1 S x).2 xs).2)
theorem RepA.frz (h : RepA F G H σ S (v :: vs) (x :: xs)) : ∃ F', Same F F' ∧ RepA F' G H σ (frz1 S x).2 (v :: vs) ((frz1 S x).1 :: xs) := by
  cases x with
  | l ds =>
    obtain ⟨p, ws, rfl, _, _, sf, r⟩ := h.freeze
    exact ⟨_, sf, r⟩
  | al i =>
    have ev : σ[i]? = some (some v) := by
      obtain ⟨f, r⟩ := h.hd
      cases r with
      | al e => exact e
    show ∃ F', Same F F' ∧ RepA F' G H σ (match S.getD i .un with | .l ds => (PV.d (.list ds), S.set i (.d (.list ds))) | .d z => (.d z, S) | _ => (.al i, S)).2 (v :: vs) ((match S.getD i .un with | .l ds => (PV.d (.list ds), S.set i (.d (.list ds))) | .d z => (.d z, S) | _ => (.al i, S)).1 :: xs)
    have hm := h.moved
    cases es : S.getD i .un with
    | l ds =>
      rw [es] at hm
      obtain ⟨p, ws, rfl, _, _, sf, r⟩ := hm.freeze
      have r4 := r.back ev
      rw [List.set_set] at r4
      exact ⟨_, sf, r4⟩
    | d z =>
      rw [es] at hm
      have r4 := hm.back ev
      rw [List.set_set] at r4
      have eS : S.set i (.d z) = S := by
        refine List.ext_getElem? fun j => ?_
        by_cases e : i = j
        · subst e
          by_cases hi : i < S.length
          · rw [List.getElem?_set_self hi, ← es, List.getD_eq_getElem?_getD, List.getElem?_eq_getElem hi]
            rfl
          · rw [List.getElem?_eq_none (by rw [List.length_set]; omega), List.getElem?_eq_none (by omega)]
        · rw [List.getElem?_set_ne e]
      rw [eS] at r4
      exact ⟨F, Same.refl _, r4⟩
    | _ => exact ⟨F, Same.refl _, h⟩
  | _ => exact ⟨F, Same.refl _, h⟩
theorem RepA.frzN : ∀ {xs : List PV} {vs dv : List V} {done S : List PV} {F : Hp}, vs.length = xs.length → RepA F G H σ S (vs ++ dv) (xs ++ done) → ∃ F', Same F F' ∧ RepA F' G H σ (frzA S xs).2 (dv ++ vs) (done ++ (frzA S xs).1)
  | [], [], dv, done, S, F, _, h => ⟨F, Same.refl _, by
    have e0 : (frzA S []).1 = [] := rfl
    rw [e0, List.append_nil, List.append_nil]
    exact h⟩
  | [], _ :: _, _, _, _, _, e, _ => nomatch e
  | _ :: _, [], _, _, _, _, e, _ => nomatch e
  | x :: xs, v :: vs, dv, done, S, F, e, h => by
    obtain ⟨F1, s1, h1⟩ := RepA.frz (vs := vs ++ dv) (xs := xs ++ done) h
    have h2 := RepA.turn (vs := [v]) (xs := [(frz1 S x).1]) (us := vs ++ dv) (ys := xs ++ done) h1 rfl
    rw [List.append_assoc, List.append_assoc] at h2
    obtain ⟨F2, s2, h3⟩ := RepA.frzN (Nat.succ.inj e) h2
    rw [List.append_assoc, List.append_assoc] at h3
    exact ⟨F2, s1.trans s2, h3⟩
theorem RepA.frzs (h : RepA F G H σ S vs xs) : ∃ F', Same F F' ∧ RepA F' G H σ (frzA S xs).2 vs (frzA S xs).1 := by
  have hl : vs.length = xs.length := by obtain ⟨_, _, r⟩ := h; exact r.vl.len
  have := RepA.frzN (dv := []) (done := []) hl (by rw [List.append_nil, List.append_nil]; exact h)
  rw [List.nil_append, List.nil_append] at this
  exact this
/-- all of them data -/
def allD : List PV → Option (List PyData)
  | [] => some []
  | .d x :: r => match allD r with
    | some ds => some (x :: ds)
    | none => none
  | _ :: _ => none
theorem allD_lv : ∀ {xs : List PV} {vs : List V} {f : List Addr} {ds : List PyData}, RVs σ F H vs xs f → allD xs = some ds → LvA F vs ds
  | [], _, _, _, h, e => by cases h; cases e; exact .nil
  | x :: xs, _, _, ds, h, e => by
    cases h with
    | cons h1 h2 =>
      cases x with
      | d z =>
        unfold allD at e
        cases q : allD xs with
        | none => rw [q] at e; cases e
        | some es =>
          rw [q] at e
          cases e
          cases h1 with
          | d h1 => exact .cons h1 (allD_lv h2 q)
      | _ => cases e
theorem RepA.datA {ds : List PyData} (h : RepA F G H σ S vs xs) (e : allD xs = some ds) : LvA F vs ds := by
  obtain ⟨_, _, h⟩ := h
  exact allD_lv h.vl e
/-! ### displays -/
/-- (a, b, ..): data, or a pack of own things -/
def tupX (t : TXA) : TX := fun S Q => t S fun xs S1 => xs.length ≤ 16777216 ∧ match allD xs with
  | some ds => Q (.d (.tuple ds)) S1
  | none => Q (.t (takeX S1 xs).1) (takeX S1 xs).2
def lstX (t : TXA) : TX := fun S Q => t S fun xs S1 => xs.length ≤ 16777216 ∧ ∃ ds, allD (frzA S1 xs).1 = some ds ∧ Q (.l ds) (frzA S1 xs).2
variable {X : Cx} {e : Expr} {tr : TXA}
theorem x_tup (h : PE X e (tTupN (rwA tr))) : PE X e (rw (tupX tr)) := PE_imp h fun σ H Q q => by
  obtain ⟨F, G, S, Qp, hr, ht, k⟩ := q
  refine ⟨F, G, S, _, hr, ht, fun vs xs S1 F1 H1 r1 s1 h1 => ?_⟩
  obtain ⟨few, h1⟩ := h1
  have hl : vs.length = xs.length := by obtain ⟨_, _, r⟩ := r1; exact r.vl.len
  refine ⟨by rw [hl, ← line_eq]; exact few, ?_⟩
  cases ea : allD xs with
  | some ds =>
    rw [ea] at h1
    exact ((k.up s1).tup r1 (r1.datA ea) h1).new
  | none =>
    rw [ea] at h1
    intro p H' n s e
    have hm := RepA.takeAll (dv := []) (done := []) hl (by rw [List.append_nil, List.append_nil]; exact r1) (fun _ m => nomatch m)
    rw [List.nil_append, List.nil_append] at hm
    obtain ⟨F2, s2, e2, r2⟩ := RepA.tup hm.1 s e
    obtain ⟨f, fs, r2⟩ := r2
    refine k _ _ _ _ _ ⟨f ++ [], fs, r2.lf, r2.lg, r2.sl, RVs.cons (.t e2 (r2.vl.others hm.2)) .nil, by rw [List.append_nil]; exact r2.nd, by rw [List.append_nil]; exact r2.off, r2.dj⟩ (s1.trans s2) h1
theorem x_lst (h : PE X e (tLstN (rwA tr))) : PE X e (rw (lstX tr)) := PE_imp h fun σ H Q q => by
  obtain ⟨F, G, S, Qp, hr, ht, k⟩ := q
  refine ⟨F, G, S, _, hr, ht, fun vs xs S1 F1 H1 r1 s1 h1 => ?_⟩
  obtain ⟨few, ds, ed, h1⟩ := h1
  have hl : vs.length = xs.length := by obtain ⟨_, _, r⟩ := r1; exact r.vl.len
  obtain ⟨F2, s2, r2⟩ := r1.frzs
  exact ⟨by rw [hl, ← line_eq]; exact few, (k.up (s1.trans s2)).lst r2 (r2.datA ed) h1⟩
/-! ### * -/
def pMul : P2 := fun S x y Q => match look S x, look S y with
  | .d (.int i), .d (.int j) => CMul i j ∧ Q (.d (.int (i * j))) S
  | .l a, .d (.int j) => 0 ≤ j ∧ j ≤ 50000 ∧ a.length * j.toNat ≤ 50000 ∧ Q (.l (List.replicate j.toNat a).flatten) S
  | .d (.tuple a), .d (.int j) => a ≠ [] ∧ 1 ≤ j ∧ j ≤ 1000 ∧ a.length ≤ 1000 ∧ Q (.d (.tuple (List.replicate j.toNat a).flatten)) S
  | _, _ => False
theorem LvA.reps {F : Hp} {ds : List PyData} {us : List V} (h : LvA F us ds) : ∀ n : Nat, LvA F (List.replicate n us).flatten (List.replicate n ds).flatten
  | 0 => .nil
  | n + 1 => LvA.appd h (LvA.reps h n)
def rMulP : R2 := fun x y H Q => rMulN x y H Q ∨ rMulT x y H Q
theorem op_mulP {X : Cx} : OpR X (binaryOp .Mult) rMulP := op_mulN.or op_mulT
theorem sim_mul : Sim2 rMulP pMul := by
  intro F G H σ S v u x y Qp Q r hp k
  obtain ⟨f1, r1⟩ := r.look0
  obtain ⟨f2, r2⟩ := r.look1
  unfold pMul at hp
  split at hp
  · rename_i i j e1 e2
    rw [e1] at r1
    rw [e2] at r2
    cases r1.dat
    cases r2.dat
    exact .inl (.inl ⟨i, j, rfl, rfl, hp.1, k.dat r (.int _) hp.2⟩)
  · rename_i a j e1 e2
    obtain ⟨p, ws, rfl, g1, l1⟩ := r1.lst r.lf (by rw [e1]; rfl)
    rw [e2] at r2
    cases r2.dat
    obtain ⟨h1, h2, h3, h4⟩ := hp
    obtain ⟨n, rfl⟩ : ∃ n : Nat, j = (n : Int) := ⟨j.toNat, by omega⟩
    rw [Int.toNat_natCast] at h3 h4
    exact .inl (.inr ⟨p, n, ws, rfl, rfl, g1, by omega, by rw [l1.len]; exact h3, k.lst r (LvA.reps l1 n) h4⟩)
  · rename_i a j e1 e2
    rw [e1] at r1
    rw [e2] at r2
    cases r2.dat
    obtain ⟨p, ws, rfl, g1, l1⟩ := r1.tup r.lf
    obtain ⟨h0, h1, h2, h3, h4⟩ := hp
    refine .inr ⟨p, j, ws, rfl, rfl, g1, fun z => h0 ?_, h1, h2, by rw [l1.len]; exact h3, k.tup r (LvA.reps l1 _) h4⟩
    have := l1.len
    rw [z] at this
    exact List.length_eq_zero_iff.mp this.symm
  · exact hp.elim
/-! ### comparisons -/
def pCmp (fi : Int → Int → Bool) (fs : Cs → Cs → Bool) : P2 := fun S x y Q => match look S x, look S y with
  | .d (.int i), .d (.int j) => Q (.d (.bool (fi i j))) S
  | .d (.str a), .d (.str b) => Q (.d (.bool (fs (tl a) (tl b)))) S
  | _, _ => False
def rCmpP (fi : Int → Int → Bool) (fs : Cs → Cs → Bool) : R2 := fun x y H Q => (∃ i j, x = .int i ∧ y = .int j ∧ Q (.bl (fi i j)) H) ∨ ∃ a b : Str, x = .str a ∧ y = .str b ∧ Q (.bl (fs (tl a) (tl b))) H
theorem sim_cmp {fi : Int → Int → Bool} {fs : Cs → Cs → Bool} : Sim2 (rCmpP fi fs) (pCmp fi fs) := by
  intro F G H σ S v u x y Qp Q r hp k
  obtain ⟨f1, r1⟩ := r.look0
  obtain ⟨f2, r2⟩ := r.look1
  unfold pCmp at hp
  split at hp
  · rename_i i j e1 e2
    rw [e1] at r1
    rw [e2] at r2
    cases r1.dat
    cases r2.dat
    exact .inl ⟨i, j, rfl, rfl, k.dat r (.bl _) hp⟩
  · rename_i i j e1 e2
    rw [e1] at r1
    rw [e2] at r2
    cases r1.dat
    cases r2.dat
    exact .inr ⟨i, j, rfl, rfl, k.dat r (.bl _) hp⟩
  · exact hp.elim
abbrev pLt := pCmp (fun i j => decide (i < j)) fun a b => decide (a < b)
abbrev pLe := pCmp (fun i j => decide (i ≤ j)) fun a b => !decide (b < a)
abbrev pGt := pCmp (fun i j => decide (j < i)) fun a b => decide (b < a)
abbrev pGe := pCmp (fun i j => decide (j ≤ i)) fun a b => !decide (a < b)
theorem op_ltP {X : Cx} : OpR X (compareOp .Lt) (rCmpP (fun i j => decide (i < j)) fun a b => decide (a < b)) := OpR.or op_lt op_lt_str
theorem op_leP {X : Cx} : OpR X (compareOp .LtE) (rCmpP (fun i j => decide (i ≤ j)) fun a b => !decide (b < a)) := OpR.or op_le op_le_str
theorem op_gtP {X : Cx} : OpR X (compareOp .Gt) (rCmpP (fun i j => decide (j < i)) fun a b => decide (b < a)) := OpR.or op_gt op_gt_str
theorem op_geP {X : Cx} : OpR X (compareOp .GtE) (rCmpP (fun i j => decide (j ≤ i)) fun a b => !decide (a < b)) := OpR.or op_ge op_ge_str
/-- what == compares -/
def asD : PV → Option PyData
  | .d x => some x
  | .l ds => some (.list ds)
  | _ => none
/-- == of flat data of like kinds -/
def eqP : PyData → PyData → Option Bool
  | .int i, .int j => some (decide (i = j))
  | .str a, .str b => some (decide (tl a = tl b))
  | .bool a, .bool b => some (a == b)
  | .none, .none => some true
  | _, _ => none
def pEqB (neg : Bool) : P2 := fun S x y Q => match asD (look S x), asD (look S y) with
  | some a, some b => match eqP a b with
    | some k => Q (.d (.bool (neg ^^ k))) S
    | none => SeqAt.shaped a = true ∧ SeqAt.shaped b = true ∧ Q (.d (.bool (neg ^^ PyData.eqv a b))) S
  | _, _ => False
abbrev pEq := pEqB false
abbrev pNe := pEqB true
mutual
theorem lv_dp {K : PySem.W.Frag} {H : Hp} : ∀ (d : PyData) (v : V), d.hasDict = false → Lv H v d → Dp K H v d
  | .none, _, _, h => by cases h; exact .non
  | .bool b, _, _, h => by cases h; exact .bl b
  | .int i, _, _, h => by cases h; exact .int i
  | .str x, _, _, h => by cases h; exact .str x
  | .tuple ds, _, e, h => by
    cases h with
    | tup h1 h2 => exact .tup (SqT.of h1) (lva_dp ds _ (by simpa only [PyData.hasDict] using e) h2)
  | .list ds, _, e, h => by
    cases h with
    | lst h1 h2 => exact .lst (SqL.of h1) (lva_dp ds _ (by simpa only [PyData.hasDict] using e) h2)
  | .dict _, _, e, _ => by simp only [PyData.hasDict] at e; cases e
theorem lva_dp {K : PySem.W.Frag} {H : Hp} : ∀ (ds : List PyData) (vs : List V), PyData.hasDictAll ds = false → LvA H vs ds → DpAll K H vs ds
  | [], _, _, h => by cases h; exact .nil
  | d :: ds, _, e, h => by
    cases h with
    | cons h1 h2 =>
      have e : d.hasDict = false ∧ PyData.hasDictAll ds = false := by simpa only [PyData.hasDictAll, Bool.or_eq_false_iff] using e
      exact .cons (lv_dp d _ e.1 h1) (lva_dp ds _ e.2 h2)
end
theorem no_dict {d : PyData} (h : SeqAt.shaped d = true) : d.hasDict = false := by
  have h : (d.canLay0 && decide (d.depth ≤ 64)) = true := h
  rw [Bool.and_eq_true] at h
  exact PyData.hasDict_of_canLay d h.1
theorem eqP_flat {a b : PyData} {k : Bool} (e : eqP a b = some k) : a.hasDict = false ∧ b.hasDict = false := by
  cases a <;> cases b <;> first | (cases e; done) | exact ⟨by simp only [PyData.hasDict], by simp only [PyData.hasDict]⟩
theorem RV.dp {K : PySem.W.Frag} {f : List Addr} {a : PyData} (r : RV [] F H v x f) (s : Same F H) (e : asD x = some a) (nd : a.hasDict = false) : Dp K H v a := by
  have go : ∀ (d : PyData) (v : V), d.hasDict = false → Lv F v d → Dp K H v d := fun d v z h => lv_dp d v z (Lv.sm s _ _ h)
  cases r with
  | d h => cases e; exact go _ _ nd h
  | l h1 h2 =>
    cases e
    exact .lst (SqL.of h1) (lva_dp _ _ (by simpa only [PyData.hasDict] using nd) (LvA.sm s _ _ h2))
  | _ => cases e
theorem sim_eq {K : PySem.W.Frag} : Sim2 (rEqG K) pEq := by
  intro F G H σ S v u x y Qp Q r hp k
  obtain ⟨f1, r1⟩ := r.look0
  obtain ⟨f2, r2⟩ := r.look1
  unfold pEq pEqB at hp
  split at hp
  · rename_i a b e1 e2
    split at hp
    · rename_i k' e
      have d1 := r1.dp (K := K) r.lf e1 (eqP_flat e).1
      have d2 := r2.dp (K := K) r.lf e2 (eqP_flat e).2
      have fin : ∀ c : Bool, c = k' → Q (.bl c) H := fun c z => by
        subst z
        rw [Bool.false_xor] at hp
        exact k.dat r (.bl _) hp
      cases d1 <;> cases d2 <;> cases e
      · exact .inl ⟨rfl, fin _ (decide_eq_true rfl)⟩
      · exact .inl ⟨rfl, fin _ (by rw [dec_bl])⟩
      · exact .inl ⟨rfl, fin _ (by rw [dec_int, Bool.beq_eq_decide_eq])⟩
      · rename_i a b
        refine .inl ⟨rfl, fin _ ?_⟩
        by_cases z : a = b
        · subst z
          rw [decide_eq_true rfl, decide_eq_true rfl]
        · rw [decide_eq_false (fun q => z (V.str.inj q)), decide_eq_false (fun q => z (ext_tl q))]
    · rw [Bool.false_xor] at hp
      exact .inr ⟨a, b, r1.dp (K := K) r.lf e1 (no_dict hp.1), r2.dp (K := K) r.lf e2 (no_dict hp.2.1), hp.1, hp.2.1, k.dat r (.bl _) hp.2.2⟩
  · exact hp.elim
theorem sim_ne {K : PySem.W.Frag} : Sim2 (rNeG K) pNe := by
  intro F G H σ S v u x y Qp Q r hp k
  obtain ⟨f1, r1⟩ := r.look0
  obtain ⟨f2, r2⟩ := r.look1
  unfold pNe pEqB at hp
  split at hp
  · rename_i a b e1 e2
    split at hp
    · rename_i k' e
      have d1 := r1.dp (K := K) r.lf e1 (eqP_flat e).1
      have d2 := r2.dp (K := K) r.lf e2 (eqP_flat e).2
      have fin : ∀ c : Bool, (!c) = !k' → Q (.bl (!c)) H := fun c z => by
        rw [z]
        rw [Bool.true_xor] at hp
        exact k.dat r (.bl _) hp
      cases d1 <;> cases d2 <;> cases e
      · exact .inl ⟨rfl, fin _ (by rw [decide_eq_true rfl])⟩
      · exact .inl ⟨rfl, fin _ (by rw [dec_bl])⟩
      · exact .inl ⟨rfl, fin _ (by rw [dec_int, Bool.beq_eq_decide_eq])⟩
      · rename_i a b
        refine .inl ⟨rfl, fin _ ?_⟩
        by_cases z : a = b
        · subst z
          rw [decide_eq_true rfl, decide_eq_true rfl]
        · rw [decide_eq_false (fun q => z (V.str.inj q)), decide_eq_false (fun q => z (ext_tl q))]
    · rw [Bool.true_xor] at hp
      exact .inr ⟨a, b, r1.dp (K := K) r.lf e1 (no_dict hp.1), r2.dp (K := K) r.lf e2 (no_dict hp.2.1), hp.1, hp.2.1, k.dat r (.bl _) hp.2.2⟩
  · exact hp.elim
/-! is None, is True, in -/
def isNon : PV → Option Bool
  | .d .none => some true
  | .d _ => some false
  | .l _ => some false
  | .t _ => some false
  | _ => none
def pIsN (neg : Bool) : P2 := fun S x y Q => match look S y with
  | .d .none => ∃ b, isNon (look S x) = some b ∧ Q (.d (.bool (neg ^^ b))) S
  | _ => False
theorem RV.non {f : List Addr} {b : Bool} (r : RV [] F H v x f) (e : isNon x = some b) : decide (v = .non) = b := by
  cases r with
  | d h => cases h <;> cases e <;> rfl
  | l h1 h2 => cases e; rfl
  | t h1 h2 => cases e; rfl
  | _ => cases e
theorem sim_isN : Sim2 (fun x y H Q => y = .non ∧ Q (.bl (decide (x = .non))) H) (pIsN false) := by
  intro F G H σ S v u x y Qp Q r hp k
  obtain ⟨f1, r1⟩ := r.look0
  obtain ⟨f2, r2⟩ := r.look1
  unfold pIsN at hp
  split at hp
  · rename_i e2
    rw [e2] at r2
    cases r2.dat
    obtain ⟨b, eb, hp⟩ := hp
    rw [Bool.false_xor] at hp
    rw [r1.non eb]
    exact ⟨rfl, k.dat r (.bl _) hp⟩
  · exact hp.elim
theorem sim_notN : Sim2 (fun x y H Q => y = .non ∧ Q (.bl (!decide (x = .non))) H) (pIsN true) := by
  intro F G H σ S v u x y Qp Q r hp k
  obtain ⟨f1, r1⟩ := r.look0
  obtain ⟨f2, r2⟩ := r.look1
  unfold pIsN at hp
  split at hp
  · rename_i e2
    rw [e2] at r2
    cases r2.dat
    obtain ⟨b, eb, hp⟩ := hp
    rw [Bool.true_xor] at hp
    rw [r1.non eb]
    exact ⟨rfl, k.dat r (.bl _) hp⟩
  · exact hp.elim
def pIsB (neg : Bool) : P2 := fun S x y Q => match look S x, look S y with
  | .d (.bool a), .d (.bool b) => Q (.d (.bool (neg ^^ (a == b)))) S
  | _, _ => False
theorem sim_isB : Sim2 rIsB (pIsB false) := by
  intro F G H σ S v u x y Qp Q r hp k
  obtain ⟨f1, r1⟩ := r.look0
  obtain ⟨f2, r2⟩ := r.look1
  unfold pIsB at hp
  split at hp
  · rename_i a b e1 e2
    rw [e1] at r1
    rw [e2] at r2
    cases r1.dat
    cases r2.dat
    rw [Bool.false_xor, Bool.beq_eq_decide_eq] at hp
    exact ⟨a, b, rfl, rfl, k.dat r (.bl _) hp⟩
  · exact hp.elim
theorem sim_notB : Sim2 rNotB (pIsB true) := by
  intro F G H σ S v u x y Qp Q r hp k
  obtain ⟨f1, r1⟩ := r.look0
  obtain ⟨f2, r2⟩ := r.look1
  unfold pIsB at hp
  split at hp
  · rename_i a b e1 e2
    rw [e1] at r1
    rw [e2] at r2
    cases r1.dat
    cases r2.dat
    rw [Bool.true_xor, Bool.beq_eq_decide_eq] at hp
    exact ⟨a, b, rfl, rfl, k.dat r (.bl _) hp⟩
  · exact hp.elim
/-- flat data -/
def flatD : PyData → Bool
  | .none => true
  | .bool _ => true
  | .int _ => true
  | .str _ => true
  | _ => false
theorem flat_lv {d : PyData} (h : Lv F v d) (e : flatD d = true) : flatV v = true := by cases h <;> first | rfl | cases e
theorem eqv_lv {d z : PyData} (h : Lv F v d) (k : Lv F u z) (e : flatD d = true) (e' : flatD z = true) : eqV v u = PyData.eqv d z := by
  cases h <;> first | cases e; done | (cases k <;> first | (cases e'; done) | simp [eqV, PyData.eqv])
def inD (x : PyData) (ds : List PyData) : Bool := ds.any fun z => PyData.eqv z x
theorem inV_lv {d : PyData} (h : Lv F v d) (e : flatD d = true) : ∀ {ds : List PyData} {ws : List V}, LvA F ws ds → ds.all flatD = true → inV v ws = inD d ds ∧ ws.all flatV = true
  | [], _, l, _ => by cases l; exact ⟨rfl, rfl⟩
  | z :: ds, _, l, f => by
    cases l with
    | cons l1 l2 =>
      rw [List.all_cons, Bool.and_eq_true] at f
      obtain ⟨i1, i2⟩ := inV_lv h e l2 f.2
      refine ⟨?_, ?_⟩
      · show (eqV _ v || inV v _) = (PyData.eqv z d || inD d ds)
        rw [i1, eqv_lv l1 h f.1 e]
      · rw [List.all_cons, i2, flat_lv l1 f.1]
        rfl
def asSeq : PV → Option (List PyData)
  | .l a => some a
  | .d (.list a) => some a
  | .d (.tuple a) => some a
  | _ => none
def pIn (neg : Bool) : P2 := fun S x y Q => match look S y with
  | .d (.str z) => ∃ c, look S x = .d (.str (tx [c])) ∧ Q (.d (.bool (neg ^^ decide (c ∈ tl z)))) S
  | w => ∃ a ds, look S x = .d a ∧ asSeq w = some ds ∧ flatD a = true ∧ ds.all flatD = true ∧ Q (.d (.bool (neg ^^ inD a ds))) S
theorem RV.seq {K : PySem.W.Frag} {f : List Addr} {a : List PyData} (r : RV [] F H v x f) (s : Same F H) (e : asSeq x = some a) : ∃ p ws, v = .ref p ∧ (SqL K H p ws ∨ SqT K H p ws) ∧ LvA F ws a := by
  cases r with
  | l h1 h2 => cases e; exact ⟨_, _, rfl, .inl (SqL.of h1), h2⟩
  | d h =>
    cases h with
    | lst h1 h2 => cases e; exact ⟨_, _, rfl, .inl (SqL.of (s _ _ h1)), h2⟩
    | tup h1 h2 => cases e; exact ⟨_, _, rfl, .inr (SqT.of (s _ _ h1)), h2⟩
    | _ => cases e
  | _ => cases e
theorem sim_in {K : PySem.W.Frag} : Sim2 (rInG K) (pIn false) := by
  intro F G H σ S v u x y Qp Q r hp k
  obtain ⟨f1, r1⟩ := r.look0
  obtain ⟨f2, r2⟩ := r.look1
  unfold pIn at hp
  split at hp
  · rename_i z e2
    obtain ⟨c, e1, hp⟩ := hp
    rw [e1] at r1
    rw [e2] at r2
    cases r1.dat
    cases r2.dat
    rw [Bool.false_xor] at hp
    exact .inl ⟨c, z, rfl, rfl, k.dat r (.bl _) hp⟩
  · obtain ⟨a, ds, e1, e2, f1, f2, hp⟩ := hp
    rw [e1] at r1
    obtain ⟨p, ws, rfl, hs, l⟩ := r2.seq (K := K) r.lf e2
    obtain ⟨i1, i2⟩ := inV_lv r1.dat f1 l f2
    rw [Bool.false_xor] at hp
    refine .inr ⟨p, ws, rfl, hs, flat_lv r1.dat f1, i2, ?_⟩
    rw [if_neg Bool.false_ne_true, i1]
    exact k.dat r (.bl _) hp
theorem sim_nin {K : PySem.W.Frag} : Sim2 (rNinG K) (pIn true) := by
  intro F G H σ S v u x y Qp Q r hp k
  obtain ⟨f1, r1⟩ := r.look0
  obtain ⟨f2, r2⟩ := r.look1
  unfold pIn at hp
  split at hp
  · rename_i z e2
    obtain ⟨c, e1, hp⟩ := hp
    rw [e1] at r1
    rw [e2] at r2
    cases r1.dat
    cases r2.dat
    rw [Bool.true_xor] at hp
    exact .inl ⟨c, z, rfl, rfl, k.dat r (.bl _) hp⟩
  · obtain ⟨a, ds, e1, e2, f1, f2, hp⟩ := hp
    rw [e1] at r1
    obtain ⟨p, ws, rfl, hs, l⟩ := r2.seq (K := K) r.lf e2
    obtain ⟨i1, i2⟩ := inV_lv r1.dat f1 l f2
    rw [Bool.true_xor] at hp
    refine .inr ⟨p, ws, rfl, hs, flat_lv r1.dat f1, i2, ?_⟩
    rw [if_pos rfl, i1]
    exact k.dat r (.bl _) hp
/-! a chain -/
def chainX (p p' : P2) (ta tb tc : TX) : TX := fun S Q => ta S fun x S1 => tb S1 fun y S2 => ∃ z, y = .d z ∧ p S2 x y fun w S3 => ∃ b, isTr w = some b ∧ pick b (tc S3 fun w' S4 => p' S4 (.d z) w' Q) (Q (.d (.bool false)) S3)
theorem chain_sim {r r' : R2} {p p' : P2} (sim : Sim2 r p) (sim' : Sim2 r' p') {ta tb tc : TX} {σ : L2.St} {H : Hp} {Q : VK} (q : rw (chainX p p' ta tb tc) σ H Q) : tChain r r' (rw ta) (rw tb) (rw tc) σ H Q := by
  obtain ⟨F, G, S, Qp, hr, ht, k⟩ := q
  refine ⟨F, G, S, _, hr, ht, fun v x S1 F1 H1 r1 s1 h1 => ?_⟩
  obtain ⟨G1, sg, r2, more⟩ := r1.aside
  refine ⟨F1, G1, S1, _, r2, h1, fun u y S2 F2 H2 r3 s2 h2 => ?_⟩
  have r4 := more _ _ _ _ _ r3 s2
  obtain ⟨z, rfl, h2⟩ := h2
  have dz := r4.tl.dat
  refine sim _ _ _ _ _ _ _ _ _ _ _ r4 h2 (fun w w' S3 F3 H3 r5 s3 h3 => ?_)
  obtain ⟨b, eb, h3⟩ := h3
  cases tr_dat eb
  cases r5.dat
  refine ⟨b, rfl, ?_⟩
  have s13 := (s1.trans s2).trans s3
  cases b with
  | true =>
    rw [if_pos rfl]
    have r6 := Rep.withD r5.rep (Lv.sm s3 _ _ dz)
    obtain ⟨G2, sg2, r7, more2⟩ := r6.aside
    exact ⟨F3, G2, S3, _, r7, h3, fun w2 y2 S4 F4 H4 r8 s4 h4 => sim' _ _ _ _ _ _ _ _ _ _ _ (more2 _ _ _ _ _ r8 s4) h4 (k.up (s13.trans s4))⟩
  | false =>
    rw [if_neg Bool.false_ne_true]
    exact k _ _ _ _ _ r5 s13 h3
theorem x_chain {r r' : R2} {p p' : P2} (sim : Sim2 r p) (sim' : Sim2 r' p') {ta tb tc : TX} (h : PE X e (tChain r r' (rw ta) (rw tb) (rw tc))) : PE X e (rw (chainX p p' ta tb tc)) := PE_imp h fun _ _ _ q => chain_sim sim sim' q
theorem xt_chain {r r' : R2} {p p' : P2} (sim : Sim2 r p) (sim' : Sim2 r' p') {ta tb tc : TX} (h : PT X e (tTest (tChain r r' (rw ta) (rw tb) (rw tc)))) : PT X e (rwT (testX (chainX p p' ta tb tc))) := PT_imp h fun _ _ _ q => chain_sim sim sim' (test_sim q)
end
end Px

namespace Px
open PySem PySem.Spec PyProof.Rows L2 Fo TL
section
variable {F F' F0 G G' H H' : Hp} {σ σ' : L2.St} {S : List PV} {v u : V} {vs us : List V} {xs ys : List PV} {x y : PV} {Qp : KP} {Q : VK} {X : Cx} {e : Expr} {tr : TXA} {K : PySem.W.Frag}
/-! ### subscripts -/
theorem at_lv {ds : List PyData} {ws : List V} {i : Int} {z : PyData} (l : LvA F ws ds) (e : atI ds i = some z) : ∃ w, atI ws i = some w ∧ Lv F w z := by
  unfold atI at e ⊢
  rw [l.len]
  cases h : ixN ds.length i with
  | none => rw [h] at e; cases e
  | some j =>
    rw [h] at e
    exact LvA.nthd l e
def pIx : P2 := fun S x y Q => match look S x, look S y with
  | .d (.tuple a), .d (.int i) => ∃ z, atI a i = some z ∧ Q (.d z) S
  | .d (.list a), .d (.int i) => ∃ z, atI a i = some z ∧ Q (.d z) S
  | .l a, .d (.int i) => ∃ z, atI a i = some z ∧ Q (.d z) S
  | .d (.str a), .d (.int i) => ∃ c, atI (tl a) i = some c ∧ (tl a).length ≤ 16777216 ∧ Q (.d (.str (tx [c]))) S
  | _, _ => False
theorem sim_ix : Sim2 (rIx K) pIx := by
  intro F G H σ S v u x y Qp Q r hp k
  obtain ⟨f1, r1⟩ := r.look0
  obtain ⟨f2, r2⟩ := r.look1
  unfold pIx at hp
  have lst : ∀ {a : List PyData} {i : Int}, asList (look S x) = some a → look S y = .d (.int i) → (∃ z, atI a i = some z ∧ Qp (.d z) S) → rIx K v u H Q := fun {a i} ea ei h => by
    obtain ⟨z, ez, h⟩ := h
    obtain ⟨p, ws, rfl, g1, l1⟩ := r1.lst r.lf ea
    rw [ei] at r2
    cases r2.dat
    obtain ⟨w, ew, lw⟩ := at_lv l1 ez
    exact .inl ⟨p, ws, i, w, rfl, rfl, SqL.of g1, ew, k.dat r lw h⟩
  split at hp
  · rename_i a i e1 e2
    rw [e1] at r1
    rw [e2] at r2
    cases r2.dat
    obtain ⟨z, ez, h⟩ := hp
    obtain ⟨p, ws, rfl, g1, l1⟩ := r1.tup r.lf
    obtain ⟨w, ew, lw⟩ := at_lv l1 ez
    exact .inr (.inl ⟨p, ws, i, w, rfl, rfl, SqT.of g1, ew, k.dat r lw h⟩)
  · rename_i a i e1 e2; exact lst (by rw [e1]; rfl) e2 hp
  · rename_i a i e1 e2; exact lst (by rw [e1]; rfl) e2 hp
  · rename_i a i e1 e2
    rw [e1] at r1
    rw [e2] at r2
    cases r1.dat
    cases r2.dat
    obtain ⟨c, ec, few, h⟩ := hp
    exact .inr (.inr ⟨a, i, c, rfl, rfl, by rw [len_tl, ← line_eq]; exact few, ec, k.dat r (.str (tx [c])) h⟩)
  · exact hp.elim
theorem x_ix {ta tb : TX} (h : PE X e (tOp (rIx K) (rw ta) (rw tb))) : PE X e (rw (binX pIx ta tb)) := PE_imp h fun _ _ _ q => bin_sim sim_ix q
/-! slices -/
abbrev TXO := List PV → (Option Int → List PV → Prop) → Prop
def rwO (t : TXO) : TO := fun σ H Q => ∃ F G S Qp, Rep F G H σ S ∧ t S Qp ∧ ∀ o S' F' H', Rep F' G H' σ S' → Same F F' → Qp o S' → Q o H'
def noO : TXO := fun S Q => Q none S
def someO (t : TX) : TXO := fun S Q => t S fun x S1 => ∃ i, asInt x = some i ∧ Q (some i) S1
theorem PO_imp {X : Cx} {e : Option Expr} {t t' : TO} (h : PO X e t) (i : ∀ σ H Q, t' σ H Q → t σ H Q) : PO X e t' := ⟨fun pins s σ H Q I q => h.run pins s σ H Q I (i _ _ _ q)⟩
theorem xo_none : PO X none (rwO noO) := PO_imp po_none fun σ H Q q => by
  obtain ⟨F, G, S, Qp, hr, ht, k⟩ := q
  exact k _ _ _ _ hr (Same.refl _) ht
theorem int_dat {x : PV} {i : Int} (h : asInt x = some i) : x = .d (.int i) := by
  cases x with
  | d x => cases x <;> cases h; rfl
  | _ => cases h
theorem xo_some {te : TX} (h : PE X e (rw te)) : PO X (some e) (rwO (someO te)) := PO_imp (po_some h) fun σ H Q q => by
  obtain ⟨F, G, S, Qp, hr, ht, k⟩ := q
  refine ⟨F, G, S, _, hr, ht, fun v x S1 F1 H1 r1 s1 h1 => ?_⟩
  obtain ⟨i, ei, h1⟩ := h1
  cases int_dat ei
  cases r1.dat
  exact ⟨i, rfl, k _ _ _ _ r1.rep s1 h1⟩
def cutD {α : Type} (xs : List α) (lo hi : Option Int) : List α := (xs.drop (HT.sIx xs.length 0 lo)).take (HT.sIx xs.length xs.length hi - HT.sIx xs.length 0 lo)
def pSl (S : List PV) (x : PV) (lo hi : Option Int) (Q : KP) : Prop := match look S x with
  | .d (.tuple a) => Q (.d (.tuple (cutD a lo hi))) S
  | .d (.list a) => Q (.l (cutD a lo hi)) S
  | .l a => Q (.l (cutD a lo hi)) S
  | .d (.str a) => (tl a).length ≤ 16777216 ∧ Q (.d (.str (tx (cutD (tl a) lo hi)))) S
  | _ => False
def slX (te : TX) (tlo thi : TXO) : TX := fun S Q => te S fun x S1 => tlo S1 fun lo S2 => thi S2 fun hi S3 => pSl S3 x lo hi Q
theorem cut_lv {ds : List PyData} {ws : List V} (l : LvA F ws ds) (lo hi : Option Int) : LvA F (cutV ws lo hi) (cutD ds lo hi) := by
  unfold cutV cutD
  rw [l.len]
  exact LvA.takes _ (LvA.drops _ l)
theorem x_slice {te : TX} {tlo thi : TXO} (h : PE X e (tSl (rSlG K) (rw te) (rwO tlo) (rwO thi))) : PE X e (rw (slX te tlo thi)) := PE_imp h fun σ H Q q => by
  obtain ⟨F, G, S, Qp, hr, ht, k⟩ := q
  refine ⟨F, G, S, _, hr, ht, fun v x S1 F1 H1 r1 s1 h1 => ?_⟩
  obtain ⟨G1, sg, r2, more⟩ := r1.aside
  refine ⟨F1, G1, S1, _, r2, h1, fun lo S2 F2 H2 r3 s2 h2 => ⟨F2, G1, S2, _, r3, h2, fun hi S3 F3 H3 r4 s3 h3 => ?_⟩⟩
  have r5 := more _ _ _ _ _ r4 (s2.trans s3)
  rw [List.append_nil, List.append_nil] at r5
  obtain ⟨f, rv⟩ := r5.look0
  have k' := k.up (s1.trans (s2.trans s3))
  have h3 : pSl S3 x lo hi Qp := h3
  unfold pSl at h3
  have lst : ∀ {a : List PyData}, asList (look S3 x) = some a → Qp (.l (cutD a lo hi)) S3 → rSlG K v lo hi H3 Q := fun {a} ea h => by
    obtain ⟨p, ws, rfl, g1, l1⟩ := rv.lst r5.lf ea
    exact .inl ⟨p, ws, rfl, SqL.of g1, k'.lst r5 (cut_lv l1 lo hi) h⟩
  split at h3
  · rename_i a e1
    rw [e1] at rv
    obtain ⟨p, ws, rfl, g1, l1⟩ := rv.tup r5.lf
    exact .inr (.inl ⟨p, ws, rfl, g1, k'.tup r5 (cut_lv l1 lo hi) h3⟩)
  · rename_i a e1; exact lst (by rw [e1]; rfl) h3
  · rename_i a e1; exact lst (by rw [e1]; rfl) h3
  · rename_i a e1
    rw [e1] at rv
    cases rv.dat
    refine .inr (.inr ⟨a, rfl, by rw [len_tl, ← line_eq]; exact h3.1, ?_⟩)
    have ec : cutS a lo hi = tx (cutD (tl a) lo hi) := by
      unfold cutS cutD tx
      rw [len_tl]
    rw [ec]
    exact k'.dat r5 (.str _) h3.2
  · exact h3.elim
def backX (te ts : TX) : TX := fun S Q => te S fun x S1 => ts S1 fun s S2 => asInt s = some (-1) ∧ match look S2 x with
  | .d (.tuple a) => Q (.d (.tuple a.reverse)) S2
  | _ => False
theorem LvA.rev {F : Hp} : ∀ {ds : List PyData} {us : List V}, LvA F us ds → LvA F us.reverse ds.reverse
  | [], _, h => by cases h; exact .nil
  | d :: ds, _, h => by
    cases h with
    | cons h1 h2 =>
      rw [List.reverse_cons, List.reverse_cons]
      exact LvA.appd (LvA.rev h2) (.cons h1 .nil)
theorem x_back {te ts : TX} (h : PE X e (tBack (rw te) (tPart (rw ts)))) : PE X e (rw (backX te ts)) := PE_imp h fun σ H Q q => by
  obtain ⟨F, G, S, Qp, hr, ht, k⟩ := q
  refine ⟨F, G, S, _, hr, ht, fun v x S1 F1 H1 r1 s1 h1 => ?_⟩
  obtain ⟨G1, sg, r2, more⟩ := r1.aside
  refine ⟨F1, G1, S1, _, r2, h1, fun u y S2 F2 H2 r3 s2 h2 => ?_⟩
  have r4 := more _ _ _ _ _ r3 s2
  obtain ⟨ei, h2⟩ := h2
  cases int_dat ei
  cases r4.tl.dat
  obtain ⟨f, rv⟩ := r4.look0
  refine ⟨-1, rfl, rfl, ?_⟩
  split at h2
  · rename_i a e1
    rw [e1] at rv
    obtain ⟨p, ws, rfl, g1, l1⟩ := rv.tup r4.lf
    exact ⟨p, ws, rfl, g1, ((k.up (s1.trans s2)).tup r4 (LvA.rev l1) h2).new⟩
  · exact h2.elim
/-! ### built-ins -/
/-- of one argument -/
def one1 (p : List PV → PV → KP → Prop) : PC' := fun S xs Q => match xs with
  | [x] => p S x Q
  | _ => False
def Sim1 (r : List V → Hp → VK → Prop) (p : List PV → PV → KP → Prop) : Prop := ∀ F G H σ S v x Qp Q, RepA F G H σ S [v] [x] → p S x Qp → Fin F G σ Qp Q → r [v] H Q
theorem sim_one {r : List V → Hp → VK → Prop} {p : List PV → PV → KP → Prop} (sim : Sim1 r p) : SimC r (one1 p) := by
  intro F G H σ S vs xs Qp Q r hp k
  have hl : vs.length = xs.length := by obtain ⟨_, _, r⟩ := r; exact r.vl.len
  match xs, vs, hl, hp with
  | [x], [v], _, hp => exact sim _ _ _ _ _ _ _ _ _ r hp k
def two2 (p : P2) : PC' := fun S xs Q => match xs with
  | [x, y] => p S x y Q
  | _ => False
theorem sim_two {r : List V → Hp → VK → Prop} {p : P2} (sim : Sim2 (fun x y => r [x, y]) p) : SimC r (two2 p) := by
  intro F G H σ S vs xs Qp Q r hp k
  have hl : vs.length = xs.length := by obtain ⟨_, _, r⟩ := r; exact r.vl.len
  match xs, vs, hl, hp with
  | [x, y], [v, u], _, hp => exact sim _ _ _ _ _ _ _ _ _ _ _ r hp k
def pLen (S : List PV) (x : PV) (Q : KP) : Prop := match look S x with
  | .d (.tuple a) => Q (.d (.int (a.length : Nat))) S
  | .d (.list a) => Q (.d (.int (a.length : Nat))) S
  | .l a => Q (.d (.int (a.length : Nat))) S
  | .d (.str a) => (tl a).length ≤ 16777216 ∧ Q (.d (.int ((tl a).length : Nat))) S
  | _ => False
theorem sim_len : Sim1 (rLenN K) pLen := by
  intro F G H σ S v x Qp Q r hp k
  obtain ⟨f, rv⟩ := r.look0
  unfold pLen at hp
  have lst : ∀ {a : List PyData}, asList (look S x) = some a → Qp (.d (.int (a.length : Nat))) S → rLenN K [v] H Q := fun {a} ea h => by
    obtain ⟨p, ws, rfl, g1, l1⟩ := rv.lst r.lf ea
    exact ⟨_, _, rfl, .inl ⟨ws, SqL.of g1, rfl⟩, k.dat r (.int _) (by rw [l1.len]; exact h)⟩
  split at hp
  · rename_i a e1
    rw [e1] at rv
    obtain ⟨p, ws, rfl, g1, l1⟩ := rv.tup r.lf
    exact ⟨_, _, rfl, .inr ⟨ws, SqT.of g1, rfl⟩, k.dat r (.int _) (by rw [l1.len]; exact hp)⟩
  · rename_i a e1; exact lst (by rw [e1]; rfl) hp
  · rename_i a e1; exact lst (by rw [e1]; rfl) hp
  · rename_i a e1
    rw [e1] at rv
    cases rv.dat
    exact ⟨_, _, rfl, ⟨by rw [len_tl, ← line_eq]; exact hp.1, rfl⟩, k.dat r (.int _) (by rw [len_tl]; exact hp.2)⟩
  · exact hp.elim
/-- what kind of thing it is -/
def tyP : PV → Option String
  | .d .none => some "NoneType"
  | .d (.bool _) => some "bool"
  | .d (.int _) => some "int"
  | .d (.str _) => some "str"
  | .d (.tuple _) => some "tuple"
  | .d (.list _) => some "list"
  | .d (.dict _) => some "dict"
  | .l _ => some "list"
  | .t _ => some "tuple"
  | _ => none
def kits (T : String) : List PV → Option Bool
  | [] => some false
  | .ty s :: r => match kitB T s, kits T r with
    | some a, some b => some (a || b)
    | _, _ => none
  | _ :: _ => none
def pIsi : P2 := fun S x c Q => match c with
  | .ty s => ∃ T b, tyP (look S x) = some T ∧ kitB T s = some b ∧ Q (.d (.bool b)) S
  | .t cs => ∃ T b, tyP (look S x) = some T ∧ kits T cs = some b ∧ Q (.d (.bool b)) S
  | _ => False
theorem RV.tyx {f : List Addr} {T : String} (r : RV [] F H v x f) (s : Same F H) (e : tyP x = some T) : TyX K H v (.type T) := by
  cases r with
  | d h =>
    cases h with
    | non => cases e; exact .base .non
    | bl b => cases e; exact .base (.bl b)
    | int i => cases e; exact .base (.int i)
    | str z => cases e; exact .base (.str z)
    | tup h1 h2 => cases e; exact .base (.tup (s _ _ h1))
    | lst h1 h2 => cases e; exact .base (.lst (s _ _ h1))
    | dct h1 h2 => cases e; exact .base (.dK (s _ _ h1))
  | l h1 h2 => cases e; exact .base (.lst h1)
  | t h1 h2 => cases e; exact .base (.tup (s _ _ h1))
  | _ => cases e
theorem kits_any {T : String} : ∀ {cs : List PV} {ws : List V} {f : List Addr} {b : Bool}, RVs [] F H ws cs f → kits T cs = some b → ∃ us, Paired ClsV ws us ∧ PySem.W.kitAny K (.type T) us = some b
  | [], _, _, _, h, e => by
    cases h
    cases e
    exact ⟨[], .nil, kitAny_nil⟩
  | c :: cs, _, _, b, h, e => by
    cases h with
    | cons h1 h2 =>
      cases c with
      | ty s =>
        cases h1
        unfold kits at e
        cases e1 : kitB T s with
        | none => rw [e1] at e; cases e
        | some a =>
          cases e2 : kits T cs with
          | none => rw [e1, e2] at e; cases e
          | some b' =>
            rw [e1, e2] at e
            cases e
            obtain ⟨us, p, q⟩ := kits_any h2 e2
            refine ⟨.type s :: us, .cons (.ty s) p, kitAny_cons (kit_ty e1) (fun z => ?_) (fun z => ?_)⟩
            · rw [q, z]
              rfl
            · rw [z]
              rfl
      | _ => cases e
theorem sim_isi : Sim2 (fun x y => rIsiG K [x, y]) pIsi := by
  intro F G H σ S v u x y Qp Q r hp k
  obtain ⟨f1, r1⟩ := r.look0
  unfold pIsi at hp
  split at hp
  · rename_i s
    obtain ⟨T, b, eT, eb, hp⟩ := hp
    obtain ⟨f2, r2⟩ := r.tl.hd
    cases r2
    exact .inl ⟨v, .ty s, .type T, .type s, b, rfl, .ty s, r1.tyx r.lf eT, kit_ty eb, k.dat r (.bl _) hp⟩
  · rename_i cs
    obtain ⟨T, b, eT, eb, hp⟩ := hp
    obtain ⟨f2, r2⟩ := r.tl.hd
    cases r2 with
    | t h1 h2 =>
      obtain ⟨us, p, q⟩ := kits_any (K := K) h2 eb
      exact .inr ⟨v, _, _, .type T, us, b, rfl, r.lf _ _ h1, p, r1.tyx r.lf eT, q, k.dat r (.bl _) hp⟩
  · exact hp.elim
def pListOf (S : List PV) (x : PV) (Q : KP) : Prop := match look S x with
  | .d (.tuple a) => Q (.l a) S
  | .d (.list a) => Q (.l a) S
  | .l a => Q (.l a) S
  | .d (.str a) => (tl a).length ≤ 16777216 ∧ Q (.l ((tl a).map fun c => .str (tx [c]))) S
  | _ => False
theorem sgs_lv (l : Cs) : LvA F (sgs l) (l.map fun c => .str (tx [c])) := by
  unfold sgs
  induction l with
  | nil => exact .nil
  | cons c l ih => exact .cons (.str _) ih
theorem sim_list : Sim1 (rListG K) pListOf := by
  intro F G H σ S v x Qp Q r hp k
  obtain ⟨f, rv⟩ := r.look0
  unfold pListOf at hp
  have lst : ∀ {a : List PyData}, asList (look S x) = some a → Qp (.l a) S → rListG K [v] H Q := fun {a} ea h => by
    obtain ⟨p, ws, rfl, g1, l1⟩ := rv.lst r.lf ea
    exact .inl ⟨p, ws, rfl, .inl (SqL.of g1), k.lst r l1 h⟩
  split at hp
  · rename_i a e1
    rw [e1] at rv
    obtain ⟨p, ws, rfl, g1, l1⟩ := rv.tup r.lf
    exact .inl ⟨p, ws, rfl, .inr (SqT.of g1), k.lst r l1 hp⟩
  · rename_i a e1; exact lst (by rw [e1]; rfl) hp
  · rename_i a e1; exact lst (by rw [e1]; rfl) hp
  · rename_i a e1
    rw [e1] at rv
    cases rv.dat
    exact .inr ⟨a, rfl, by rw [← line_eq, show a.cps.size = (tl a).length from (Array.length_toList).symm]; exact hp.1, k.lst r (sgs_lv _) hp.2⟩
  · exact hp.elim
def pTupOf (S : List PV) (x : PV) (Q : KP) : Prop := match look S x with
  | .d (.tuple a) => Q (.d (.tuple a)) S
  | .d (.list a) => Q (.d (.tuple a)) S
  | .l a => Q (.d (.tuple a)) S
  | _ => False
theorem sim_tuple : Sim1 (rTupN K) pTupOf := by
  intro F G H σ S v x Qp Q r hp k
  obtain ⟨f, rv⟩ := r.look0
  unfold pTupOf at hp
  have lst : ∀ {a : List PyData}, asList (look S x) = some a → Qp (.d (.tuple a)) S → rTupN K [v] H Q := fun {a} ea h => by
    obtain ⟨p, ws, rfl, g1, l1⟩ := rv.lst r.lf ea
    exact ⟨p, ws, rfl, .inl ⟨SqL.of g1, (k.tup r l1 h).new⟩⟩
  split at hp
  · rename_i a e1
    rw [e1] at rv
    obtain ⟨p, ws, rfl, g1, l1⟩ := id (rv.tup r.lf)
    exact ⟨p, ws, rfl, .inr ⟨SqT.of g1, k.dat r rv.dat hp⟩⟩
  · rename_i a e1; exact lst (by rw [e1]; rfl) hp
  · rename_i a e1; exact lst (by rw [e1]; rfl) hp
  · exact hp.elim
/-- a list of ints, of truths, of texts -/
def intsOf : List PyData → Option (List Int)
  | [] => some []
  | .int i :: r => match intsOf r with
    | some l => some (i :: l)
    | none => none
  | _ :: _ => none
def truthsOf : List PyData → Option (List Bool)
  | [] => some []
  | .bool i :: r => match truthsOf r with
    | some l => some (i :: l)
    | none => none
  | _ :: _ => none
def textsOf : List PyData → Option (List Str)
  | [] => some []
  | .str i :: r => match textsOf r with
    | some l => some (i :: l)
    | none => none
  | _ :: _ => none
theorem ints_lv : ∀ {ds : List PyData} {ws : List V} {l : List Int}, LvA F ws ds → intsOf ds = some l → ws = l.map V.int
  | [], _, _, h, e => by cases h; cases e; rfl
  | d :: ds, _, l, h, e => by
    cases h with
    | cons h1 h2 =>
      cases d with
      | int i =>
        have e : (match intsOf ds with | some l => some (i :: l) | none => none) = some l := e
        cases q : intsOf ds with
        | none => rw [q] at e; cases e
        | some m =>
          rw [q] at e
          cases e
          cases h1
          rw [ints_lv h2 q]
          rfl
      | _ => cases e
theorem truths_lv : ∀ {ds : List PyData} {ws : List V} {l : List Bool}, LvA F ws ds → truthsOf ds = some l → ws = l.map V.bl
  | [], _, _, h, e => by cases h; cases e; rfl
  | d :: ds, _, l, h, e => by
    cases h with
    | cons h1 h2 =>
      cases d with
      | bool i =>
        have e : (match truthsOf ds with | some l => some (i :: l) | none => none) = some l := e
        cases q : truthsOf ds with
        | none => rw [q] at e; cases e
        | some m =>
          rw [q] at e
          cases e
          cases h1
          rw [truths_lv h2 q]
          rfl
      | _ => cases e
theorem texts_lv : ∀ {ds : List PyData} {ws : List V} {l : List Str}, LvA F ws ds → textsOf ds = some l → ws = l.map V.str
  | [], _, _, h, e => by cases h; cases e; rfl
  | d :: ds, _, l, h, e => by
    cases h with
    | cons h1 h2 =>
      cases d with
      | str i =>
        have e : (match textsOf ds with | some l => some (i :: l) | none => none) = some l := e
        cases q : textsOf ds with
        | none => rw [q] at e; cases e
        | some m =>
          rw [q] at e
          cases e
          cases h1
          rw [texts_lv h2 q]
          rfl
      | _ => cases e
def pSum (S : List PV) (x : PV) (Q : KP) : Prop := ∃ ds l, asList (look S x) = some ds ∧ intsOf ds = some l ∧ Q (.d (.int l.sum)) S
theorem sim_sum : Sim1 (rSum K) pSum := by
  intro F G H σ S v x Qp Q r hp k
  obtain ⟨f, rv⟩ := r.look0
  obtain ⟨ds, l, e1, e2, hp⟩ := hp
  obtain ⟨p, ws, rfl, g1, l1⟩ := rv.lst r.lf e1
  cases ints_lv l1 e2
  exact ⟨p, l, rfl, SqL.of g1, k.dat r (.int _) hp⟩
def pAll (S : List PV) (x : PV) (Q : KP) : Prop := ∃ ds l, asList (look S x) = some ds ∧ truthsOf ds = some l ∧ Q (.d (.bool (l.all id))) S
def pAny (S : List PV) (x : PV) (Q : KP) : Prop := ∃ ds l, asList (look S x) = some ds ∧ truthsOf ds = some l ∧ Q (.d (.bool (l.any id))) S
theorem sim_all : Sim1 (rAll K) pAll := by
  intro F G H σ S v x Qp Q r hp k
  obtain ⟨f, rv⟩ := r.look0
  obtain ⟨ds, l, e1, e2, hp⟩ := hp
  obtain ⟨p, ws, rfl, g1, l1⟩ := rv.lst r.lf e1
  cases truths_lv l1 e2
  exact ⟨p, l, rfl, SqL.of g1, k.dat r (.bl _) hp⟩
theorem sim_any : Sim1 (rAny K) pAny := by
  intro F G H σ S v x Qp Q r hp k
  obtain ⟨f, rv⟩ := r.look0
  obtain ⟨ds, l, e1, e2, hp⟩ := hp
  obtain ⟨p, ws, rfl, g1, l1⟩ := rv.lst r.lf e1
  cases truths_lv l1 e2
  exact ⟨p, l, rfl, SqL.of g1, k.dat r (.bl _) hp⟩
def pSorted (S : List PV) (x : PV) (Q : KP) : Prop := ∃ ds l, asList (look S x) = some ds ∧ textsOf ds = some l ∧ l.length < 64 ∧ ∀ ys : List Str, ys.Perm l → sortedS ys = true → Q (.l (ys.map .str)) S
theorem sim_sorted : Sim1 (rSortN K) pSorted := by
  intro F G H σ S v x Qp Q r hp k
  obtain ⟨f, rv⟩ := r.look0
  obtain ⟨ds, l, e1, e2, few, hp⟩ := hp
  obtain ⟨p, ws, rfl, g1, l1⟩ := rv.lst r.lf e1
  cases texts_lv l1 e2
  refine ⟨p, l, rfl, SqL.of g1, few, fun ys pm so => k.lst r ?_ (hp ys pm so)⟩
  clear pm so
  induction ys with
  | nil => exact .nil
  | cons y ys ih => exact .cons (.str y) ih
def pMin : P2 := fun S x y Q => match look S x, look S y with
  | .d (.int i), .d (.int j) => Q (.d (.int (if j < i then j else i))) S
  | _, _ => False
def pMax : P2 := fun S x y Q => match look S x, look S y with
  | .d (.int i), .d (.int j) => Q (.d (.int (if j > i then j else i))) S
  | _, _ => False
theorem sim_min : Sim2 (fun x y H Q => ∃ i j, [x, y] = [V.int i, .int j] ∧ Q (.int (if j < i then j else i)) H) pMin := by
  intro F G H σ S v u x y Qp Q r hp k
  obtain ⟨f1, r1⟩ := r.look0
  obtain ⟨f2, r2⟩ := r.look1
  unfold pMin at hp
  split at hp
  · rename_i i j e1 e2
    rw [e1] at r1
    rw [e2] at r2
    cases r1.dat
    cases r2.dat
    exact ⟨i, j, rfl, k.dat r (.int _) hp⟩
  · exact hp.elim
theorem sim_max : Sim2 (fun x y H Q => ∃ i j, [x, y] = [V.int i, .int j] ∧ Q (.int (if j > i then j else i)) H) pMax := by
  intro F G H σ S v u x y Qp Q r hp k
  obtain ⟨f1, r1⟩ := r.look0
  obtain ⟨f2, r2⟩ := r.look1
  unfold pMax at hp
  split at hp
  · rename_i i j e1 e2
    rw [e1] at r1
    rw [e2] at r2
    cases r1.dat
    cases r2.dat
    exact ⟨i, j, rfl, k.dat r (.int _) hp⟩
  · exact hp.elim
def pIntOf (S : List PV) (x : PV) (Q : KP) : Prop := match look S x with
  | .d (.int i) => Q (.d (.int i)) S
  | .d (.bool b) => Q (.d (.int (if b then 1 else 0))) S
  | _ => False
theorem sim_intOf : Sim1 (fun xs H Q => (∃ i, xs = [V.int i] ∧ Q (.int i) H) ∨ ∃ k, xs = [.bl k] ∧ Q (.int (if k then 1 else 0)) H) pIntOf := by
  intro F G H σ S v x Qp Q r hp k
  obtain ⟨f, rv⟩ := r.look0
  unfold pIntOf at hp
  split at hp
  · rename_i i e1
    rw [e1] at rv
    cases rv.dat
    exact .inl ⟨i, rfl, k.dat r (.int _) hp⟩
  · rename_i i e1
    rw [e1] at rv
    cases rv.dat
    exact .inr ⟨i, rfl, k.dat r (.int _) hp⟩
  · exact hp.elim
/-- repr of data -/
def pRepr (S : List PV) (x : PV) (Q : KP) : Prop := ∃ d, asD (look S x) = some d ∧ (match d with | .tuple _ => True | .list _ => True | _ => False) ∧ RP d 60 1000000 ∧ Q (.d (.str d.shown)) S
theorem sim_repr : Sim1 (rRepr K) pRepr := by
  intro F G H σ S v x Qp Q r hp k
  obtain ⟨f, rv⟩ := r.look0
  obtain ⟨d, e1, kind, rp, hp⟩ := hp
  have dp := rv.dp (K := K) r.lf e1 (PyData.hasDict_of_canLay d rp.lay)
  have er : ∃ a, v = .ref a := by
    cases dp <;> first | exact ⟨_, rfl⟩ | exact kind.elim
  obtain ⟨a, rfl⟩ := er
  exact ⟨a, d, rfl, dp, rp, k.dat r (.str _) hp⟩
end
end Px

namespace Px
open PySem PySem.Spec PyProof.Rows L2 Fo TL
section
variable {F F' F0 G G' H H' : Hp} {σ σ' : L2.St} {S : List PV} {v u : V} {vs us : List V} {xs ys : List PV} {x y : PV} {Qp : KP} {Q : VK} {X : Cx} {e : Expr} {tr : TXA} {K : PySem.W.Frag}
/-! ### methods -/
/-- the receiver's kind -/
def tyM (T : String) (x : PV) : Prop := match x with
  | .l _ => T = "list"
  | .d (.list _) => T = "list"
  | .d (.str _) => T = "str"
  | _ => False
theorem RV.tym {T : String} {f : List Addr} (r : RV [] F H v x f) (s : Same F H) (e : tyM T x) : tyV K T v H := by
  unfold tyM at e
  split at e
  · cases r with
    | l h1 h2 => exact .inl ⟨e, _, SqL.of h1⟩
  · cases r.dat with
    | lst h1 h2 => exact .inl ⟨e, _, SqL.of (s _ _ h1)⟩
  · cases r.dat
    exact e
  · exact e.elim
abbrev PM := List PV → PV → List PV → KP → Prop
def SimM (r : V → List V → Hp → VK → Prop) (p : PM) : Prop := ∀ F G H σ S v x vs xs Qp Q, RepA F G H σ S (v :: vs) (x :: xs) → p S x xs Qp → Fin F G σ Qp Q → r v vs H Q
def methX (T : String) (p : PM) (to : TX) (t : TXA) : TX := fun S Q => to S fun x S1 => tyM T (look S1 x) ∧ t S1 fun xs S2 => p (frzA S2 xs).2 x (frzA S2 xs).1 Q
def methX0 (T : String) (p : PM) (to : TX) : TX := fun S Q => to S fun x S1 => tyM T (look S1 x) ∧ p S1 x [] Q
theorem RepA.frzTl (h : RepA F G H σ S (v :: vs) (x :: xs)) : ∃ F', Same F F' ∧ RepA F' G H σ (frzA S xs).2 (v :: vs) (x :: (frzA S xs).1) := by
  have h1 := RepA.turn (vs := [v]) (xs := [x]) (us := vs) (ys := xs) h rfl
  have hl : vs.length = xs.length := by obtain ⟨_, _, r⟩ := h.tl; exact r.vl.len
  obtain ⟨F', s', h2⟩ := RepA.frzN (vs := vs) (xs := xs) (dv := [v]) (done := [x]) hl h1
  exact ⟨F', s', h2⟩
theorem x_meth {T : String} {r : V → List V → Hp → VK → Prop} {p : PM} {to : TX} (sim : SimM r p) (h : PE X e (tBM K T r (rw to) (rwA tr))) : PE X e (rw (methX T p to tr)) := PE_imp h fun σ H Q q => by
  obtain ⟨F, G, S, Qp, hr, ht, k⟩ := q
  refine ⟨F, G, S, _, hr, ht, fun v x S1 F1 H1 r1 s1 h1 => ?_⟩
  obtain ⟨ty, h1⟩ := h1
  obtain ⟨f, rv⟩ := r1.look0
  obtain ⟨G1, sg, r2, more⟩ := r1.aside
  refine ⟨rv.tym r1.lf ty, F1, G1, S1, _, r2, h1, fun us ys S2 F2 H2 r3 s2 h2 => ?_⟩
  obtain ⟨F3, s3, r4⟩ := (more _ _ _ _ _ r3 s2).frzTl
  exact sim _ _ _ _ _ _ _ _ _ _ _ r4 h2 (k.up ((s1.trans s2).trans s3))
theorem x_meth0 {T : String} {r : V → List V → Hp → VK → Prop} {p : PM} {to : TX} (sim : SimM r p) (h : PE X e (tBM0 K T r (rw to))) : PE X e (rw (methX0 T p to)) := PE_imp h fun σ H Q q => by
  obtain ⟨F, G, S, Qp, hr, ht, k⟩ := q
  refine ⟨F, G, S, _, hr, ht, fun v x S1 F1 H1 r1 s1 h1 => ?_⟩
  obtain ⟨ty, h1⟩ := h1
  obtain ⟨f, rv⟩ := r1.look0
  exact ⟨rv.tym r1.lf ty, sim _ _ _ _ _ _ _ _ _ _ _ r1 h1 (k.up s1)⟩
/-- the list of a name, changed -/
theorem RepA.chgL {i : Nat} {ds : List PyData} (h : RepA F G H σ S (v :: vs) (.al i :: xs)) (e : S.getD i .un = .l ds) : ∃ p ws, v = .ref p ∧ H p = some (.lst ws) ∧ LvA F ws ds ∧ F p = none ∧ G p = none ∧
    ∀ H' ws' ds', But p H H' → H' p = some (.lst ws') → LvA F ws' ds' → RepA F G H' σ (S.set i (.l ds')) (v :: vs) (.al i :: xs) := by
  have hi : i < S.length := by
    by_cases hi : i < S.length
    · exact hi
    · rw [List.getD_eq_getElem?_getD, List.getElem?_eq_none (by omega)] at e
      cases e
  have e1 : S[i]? = some (.l ds) := by rw [← e, List.getD_eq_getElem?_getD, List.getElem?_eq_getElem hi]; rfl
  obtain ⟨w, f, ew, r, off, chg⟩ := h.chg e1 (fun z => nomatch z)
  have ev : σ[i]? = some (some v) := by
    obtain ⟨f, r⟩ := h.hd
    cases r with
    | al e => exact e
  rw [ev] at ew
  cases ew
  cases r with
  | l h1 h2 =>
    rename_i p ws
    have z := off p (List.mem_singleton_self _)
    exact ⟨p, ws, rfl, h1, h2, z.1, z.2, fun H' ws' ds' b e' l' => chg H' (.l ds') [p] (fun a o n q => b a o (fun z => n (by rw [z]; exact List.mem_singleton_self _)) q) (.l e' l') (List.nodup_cons.mpr ⟨fun m => (nomatch m), .nil⟩) fun a m => .inl m⟩
/-- the same of a list in hand -/
theorem Fin.non {v' : V} (k : Fin F G σ Qp Q) (h : RepA F G H σ S vs xs) (q : Qp (.d .none) S) : Q .non H := k.dat h .non q
def pApp : PM := fun S x xs Q => match x, xs with
  | .al i, [.d z] => match S.getD i .un with
    | .l ds => ds.length < 16777216 ∧ force (S.set i (.l (ds ++ [z]))) (Q (.d .none))
    | _ => False
  | _, _ => False
theorem sim_app : SimM rAppN pApp := by
  intro F G H σ S v x vs xs Qp Q r hp k
  have hl : vs.length = xs.length := by obtain ⟨_, _, r⟩ := r.tl; exact r.vl.len
  unfold pApp at hp
  split at hp
  · rename_i i z
    match vs, hl with
    | [u], _ =>
      split at hp
      · rename_i ds e
        have dz := r.tl.dat
        obtain ⟨p, ws, rfl, g1, l1, _, _, chg⟩ := r.chgL e
        refine ⟨p, ws, u, rfl, rfl, g1, by rw [l1.len, ← line_eq]; exact hp.1, fun H' b e' => ?_⟩
        exact k.dat (chg H' _ _ b e' (LvA.snoc l1 dz)) .non (unforce hp.2)
      · exact hp.elim
  · exact hp.elim
def pPopAt : PM := fun S x xs Q => match x, xs with
  | .al i, [.d (.int j)] => match S.getD i .un with
    | .l ds => ds.length ≤ 1000000 ∧ ∃ k z, ixN ds.length j = some k ∧ ds[k]? = some z ∧ force (S.set i (.l (ds.eraseIdx k))) (Q (.d z))
    | _ => False
  | _, _ => False
theorem LvA.erase {F : Hp} : ∀ {ds : List PyData} {us : List V} (n : Nat), LvA F us ds → LvA F (us.eraseIdx n) (ds.eraseIdx n)
  | [], _, _, h => by cases h; exact .nil
  | _ :: _, _, 0, h => by
    cases h with
    | cons h1 h2 => exact h2
  | _ :: _, _, n + 1, h => by
    cases h with
    | cons h1 h2 => exact .cons h1 (LvA.erase n h2)
theorem LvA.sets {F : Hp} {d : PyData} {u : V} (k : Lv F u d) : ∀ {ds : List PyData} {us : List V} (n : Nat), LvA F us ds → LvA F (us.set n u) (ds.set n d)
  | [], _, _, h => by cases h; exact .nil
  | _ :: _, _, 0, h => by
    cases h with
    | cons h1 h2 => exact .cons k h2
  | _ :: _, _, n + 1, h => by
    cases h with
    | cons h1 h2 => exact .cons h1 (LvA.sets k n h2)
theorem LvA.inserts {F : Hp} {d : PyData} {u : V} (k : Lv F u d) : ∀ {ds : List PyData} {us : List V} (n : Nat), LvA F us ds → LvA F (us.insertIdx n u) (ds.insertIdx n d)
  | ds, us, 0, h => .cons k h
  | [], us, n + 1, h => by cases h; exact .nil
  | _ :: _, _, n + 1, h => by
    cases h with
    | cons h1 h2 => exact .cons h1 (LvA.inserts k n h2)
theorem sim_popAt : SimM rPopN pPopAt := by
  intro F G H σ S v x vs xs Qp Q r hp k
  have hl : vs.length = xs.length := by obtain ⟨_, _, r⟩ := r.tl; exact r.vl.len
  unfold pPopAt at hp
  split at hp
  · rename_i i j
    match vs, hl with
    | [u], _ =>
      split at hp
      · rename_i ds e
        obtain ⟨few, n, z, e1, e2, hp⟩ := hp
        cases r.tl.dat
        obtain ⟨p, ws, rfl, g1, l1, _, _, chg⟩ := r.chgL e
        obtain ⟨w, ew, lw⟩ := LvA.nthd l1 e2
        obtain ⟨q1, q2, q3, q4⟩ := ixN_seq e1
        refine ⟨p, ws, j, n, w, rfl, rfl, g1, by omega, by omega, by rw [l1.len]; exact q1, ew, fun H' b e' => ?_⟩
        exact k.dat (chg H' _ _ b e' (LvA.erase n l1)) lw (unforce hp)
      · exact hp.elim
  · exact hp.elim
def pPop : PM := fun S x xs Q => match x, xs with
  | .al i, [] => match S.getD i .un with
    | .l ds => ∃ z, ds[ds.length - 1]? = some z ∧ force (S.set i (.l ds.dropLast)) (Q (.d z))
    | _ => False
  | _, _ => False
theorem LvA.dropLasts {F : Hp} {ds : List PyData} {us : List V} (h : LvA F us ds) : LvA F us.dropLast ds.dropLast := by
  rw [List.dropLast_eq_take, List.dropLast_eq_take, h.len]
  exact LvA.takes _ h
theorem sim_pop : SimM rPop pPop := by
  intro F G H σ S v x vs xs Qp Q r hp k
  have hl : vs.length = xs.length := by obtain ⟨_, _, r⟩ := r.tl; exact r.vl.len
  unfold pPop at hp
  split at hp
  · rename_i i
    match vs, hl with
    | [], _ =>
      split at hp
      · rename_i ds e
        obtain ⟨z, e2, hp⟩ := hp
        obtain ⟨p, ws, rfl, g1, l1, _, _, chg⟩ := r.chgL e
        obtain ⟨w, ew, lw⟩ := LvA.nthd l1 e2
        exact ⟨p, ws, w, rfl, rfl, g1, by rw [l1.len]; exact ew, k.dat (chg _ _ _ But.upd upd_same (LvA.dropLasts l1)) lw (unforce hp)⟩
      · exact hp.elim
  · exact hp.elim
def pInsert : PM := fun S x xs Q => match x, xs with
  | .al i, [.d (.int j), .d z] => match S.getD i .un with
    | .l ds => ds.length < 16777216 ∧ 0 ≤ j ∧ j < 1000000 ∧ force (S.set i (.l (ds.take j.toNat ++ [z] ++ ds.drop j.toNat))) (Q (.d .none))
    | _ => False
  | _, _ => False
theorem sim_insert : SimM (fun x vs H Q => ∃ (l : Addr) (xs : List V) (i : Int) (y : V), x = .ref l ∧ vs = [.int i, y] ∧ H l = some (.lst xs) ∧ xs.length < sizeLine ∧ 0 ≤ i ∧ i < 2 ^ 63 ∧ Q .non (upd H l (.lst (xs.take i.toNat ++ [y] ++ xs.drop i.toNat)))) pInsert := by
  intro F G H σ S v x vs xs Qp Q r hp k
  have hl : vs.length = xs.length := by obtain ⟨_, _, r⟩ := r.tl; exact r.vl.len
  unfold pInsert at hp
  split at hp
  · rename_i i j z
    match vs, hl with
    | [u, w], _ =>
      split at hp
      · rename_i ds e
        obtain ⟨h1, h2, h3, hp⟩ := hp
        have r2 := r.tl
        cases r2.dat
        have dz := r2.tl.dat
        obtain ⟨p, ws, rfl, g1, l1, _, _, chg⟩ := r.chgL e
        exact ⟨p, ws, j, w, rfl, rfl, g1, by rw [l1.len, ← line_eq]; exact h1, h2, by omega, k.dat (chg _ _ _ But.upd upd_same (LvA.appd (LvA.appd (LvA.takes _ l1) (.cons dz .nil)) (LvA.drops _ l1))) .non (unforce hp)⟩
      · exact hp.elim
  · exact hp.elim
def pExtend : PM := fun S x xs Q => match x, xs with
  | .al i, [.d (.list zs)] => match S.getD i .un with
    | .l ds => ds.length + zs.length ≤ 16777216 ∧ force (S.set i (.l (ds ++ zs))) (Q (.d .none))
    | _ => False
  | _, _ => False
theorem sim_extend : SimM rExtend pExtend := by
  intro F G H σ S v x vs xs Qp Q r hp k
  have hl : vs.length = xs.length := by obtain ⟨_, _, r⟩ := r.tl; exact r.vl.len
  unfold pExtend at hp
  split at hp
  · rename_i i zs
    match vs, hl with
    | [u], _ =>
      split at hp
      · rename_i ds e
        have dz := r.tl.dat
        obtain ⟨p, ws, rfl, g1, l1, _, _, chg⟩ := r.chgL e
        cases dz with
        | lst h1 h2 =>
          exact ⟨p, _, ws, _, rfl, rfl, g1, r.lf _ _ h1, by rw [l1.len, h2.len, ← line_eq]; exact hp.1, k.dat (chg _ _ _ But.upd upd_same (LvA.appd l1 h2)) .non (unforce hp.2)⟩
      · exact hp.elim
  · exact hp.elim
/-- the first place of a flat thing -/
def pIndex : PM := fun S x xs Q => match xs with
  | [.d z] => ∃ ds j, asList (look S x) = some ds ∧ flatD z = true ∧ ds.all flatD = true ∧ ds.findIdx? (fun w => PyData.eqv w z) = some j ∧ Q (.d (.int (j : Nat))) S
  | _ => False
theorem sim_index : SimM (rIndex K) pIndex := by
  intro F G H σ S v x vs xs Qp Q r hp k
  have hl : vs.length = xs.length := by obtain ⟨_, _, r⟩ := r.tl; exact r.vl.len
  unfold pIndex at hp
  split at hp
  · rename_i z
    match vs, hl with
    | [u], _ =>
      obtain ⟨ds, j, e1, f1, f2, ej, hp⟩ := hp
      obtain ⟨f, rv⟩ := r.look0
      have dz := r.tl.dat
      obtain ⟨p, ws, rfl, g1, l1⟩ := rv.lst r.lf e1
      obtain ⟨hj, e3, e4⟩ := List.findIdx?_eq_some_iff_getElem.mp ej
      obtain ⟨w, ew, lw⟩ := LvA.nthd l1 (List.getElem?_eq_getElem hj)
      have fl : ∀ d ∈ ds, flatD d = true := List.all_eq_true.mp f2
      refine ⟨p, ws, u, j, w, rfl, rfl, SqL.of g1, flat_lv dz f1, (inV_lv dz f1 l1 f2).2, ew, by rw [eqv_lv lw dz (fl _ (List.getElem_mem hj)) f1]; exact e3, fun m z' hm e' => ?_, k.dat r (.int _) hp⟩
      obtain ⟨d, ed, ld⟩ := LvA.nth l1 e'
      obtain ⟨hm2, ed2⟩ := List.getElem?_eq_some_iff.mp ed
      rw [eqv_lv ld dz (fl _ (ed2 ▸ List.getElem_mem hm2)) f1, ← ed2]
      have := e4 m hm
      simpa using this
  · exact hp.elim
/-- a text's sign by its place -/
def sIxX (to te : TX) : TX := fun S Q => to S fun x S1 => (∃ a, x = .d (.str a)) ∧ te S1 fun y S2 => ∃ a c, x = .d (.str a) ∧ y = .d (.str (tx [c])) ∧ c ∈ tl a ∧ Q (.d (.int ((tl a).idxOf c : Nat))) S2
theorem x_sIx {to te : TX} (h : PE X e (tM1 (fun x xs H Q => ∃ a b i rest, x = .str a ∧ xs = [.str b] ∧ Builtin.Str.occurrences a b 0 a.length 1 = i :: rest ∧ Q (.int (i : Nat)) H) (rw to) (rw te))) : PE X e (rw (sIxX to te)) := PE_imp h fun σ H Q q => by
  obtain ⟨F, G, S, Qp, hr, ht, k⟩ := q
  refine ⟨F, G, S, _, hr, ht, fun v x S1 F1 H1 r1 s1 h1 => ?_⟩
  obtain ⟨⟨a, ea⟩, h1⟩ := h1
  subst ea
  obtain ⟨G1, sg, r2, more⟩ := r1.aside
  cases r1.dat
  refine ⟨⟨a, rfl⟩, F1, G1, S1, _, r2, h1, fun u y S2 F2 H2 r3 s2 h2 => ?_⟩
  have r4 := more _ _ _ _ _ r3 s2
  obtain ⟨a', c, ea, ey, hc, h2⟩ := h2
  cases ea
  subst ey
  cases r4.tl.dat
  obtain ⟨rest, eo⟩ := occ_sign (l := tl a) hc
  rw [tx_tl] at eo
  exact ⟨a, one c, _, rest, rfl, rfl, eo, (k.up (s1.trans s2)).dat r4 (.int _) h2⟩
/-- texts put together -/
def joinX (to te : TX) : TX := fun S Q => to S fun x S1 => x = .d (.str (tx [])) ∧ te S1 fun y S2 => ∃ ds parts, asSeq (look S2 y) = some ds ∧ textsOf ds = some (List.map tx parts) ∧ parts.flatten.length ≤ 16777216 ∧ Q (.d (.str (tx parts.flatten))) S2
theorem x_join {to te : TX} (h : PE X e (tM1 (rJoin K) (rw to) (rw te))) : PE X e (rw (joinX to te)) := PE_imp h fun σ H Q q => by
  obtain ⟨F, G, S, Qp, hr, ht, k⟩ := q
  refine ⟨F, G, S, _, hr, ht, fun v x S1 F1 H1 r1 s1 h1 => ?_⟩
  obtain ⟨ea, h1⟩ := h1
  subst ea
  obtain ⟨G1, sg, r2, more⟩ := r1.aside
  cases r1.dat
  refine ⟨⟨_, rfl⟩, F1, G1, S1, _, r2, h1, fun u y S2 F2 H2 r3 s2 h2 => ?_⟩
  have r4 := more _ _ _ _ _ r3 s2
  obtain ⟨ds, parts, ed, et, few, h2⟩ := h2
  obtain ⟨f, rv⟩ := r3.look0
  obtain ⟨p, ws, rfl, hs, l1⟩ := rv.seq (K := K) r3.lf ed
  cases texts_lv l1 et
  refine ⟨tx [], p, parts.map tx, rfl, rfl, hs, ?_, ?_⟩
  · rw [flat_len, tx_len, List.length_nil, Nat.mul_zero, Nat.add_zero]
    exact few
  · rw [← tx_nil, join_tx]
    exact (k.up (s1.trans s2)).dat r4 (.str _) h2
/-! ### stores -/
variable {kp : Nat → Bool}
def subG (to ti : TX) : TXG := fun x S Q => to (finX S x).2 fun o S1 => ti S1 fun i S2 => match o, i with
  | .al k, .d (.int j) => match S2.getD k .un with
    | .l ds => ∃ n z, ixN ds.length j = some n ∧ (finX S x).1 = .d z ∧ force (S2.set k (.l (ds.set n z))) Q
    | _ => False
  | _, _ => False
theorem xg_sub {to ti : TX} {tg : Expr} (h : PG X tg (gSub (rw to) (rw ti) rSetN)) : PG X tg (rwG kp (subG to ti)) := PG_imp h fun v σ H Q q => by
  obtain ⟨F, G, S, x, Qp, hr, ht, k⟩ := q
  have r0 := hr.finished
  obtain ⟨G1, sg, r1, more1⟩ := r0.aside
  refine ⟨F, G1, _, _, r1, ht, fun vo o S1 F1 H1 r2 s1 h1 => ?_⟩
  obtain ⟨G2, sg2, r3, more2⟩ := r2.aside
  refine ⟨F1, G2, S1, _, r3, h1, fun vi i S2 F2 H2 r4 s2 h2 => ?_⟩
  have r5 := more1 _ _ _ _ _ (more2 _ _ _ _ _ r4 s2) (s1.trans s2)
  -- in hand: the value, the list, the place
  split at h2
  · rename_i kk j
    split at h2
    · rename_i ds e
      obtain ⟨n, z, e1, e2, h2⟩ := h2
      rw [e2] at r5
      have dz := r5.dat
      have r6 := r5.tl
      cases r6.tl.dat
      obtain ⟨p, ws, rfl, g1, l1, _, _, chg⟩ := r6.chgL e
      refine ⟨p, ws, j, n, rfl, rfl, g1, by rw [l1.len]; exact e1, fun H' b e' => ?_⟩
      exact k _ _ _ _ (chg H' _ _ b e' (LvA.sets dz n l1)).rep (s1.trans s2) (Kp.refl ..) (unforce h2)
    · exact h2.elim
  · exact h2.elim
/-- name += int -/
def augS (i : Nat) (te : TX) : TXS := fun D S => ∃ a, S[i]? = some (.d (.int a)) ∧ te S fun y S1 => ∃ b, asInt y = some b ∧ S1[i]? = some (.d (.int a)) ∧ force (S1.set i (.d (.int (a + b)))) D.nx
theorem xs_aug {i : Nat} {te : TX} {st : Stmt} (hk : kp i = false) (h : PS X st (tAug i (rw te) (ipI fun i j => i + j))) : PS X st (rwS kp (augS i te)) := PS_imp h fun D σ H q => by
  obtain ⟨F, G, S, Dp, hr, ht, k⟩ := q
  obtain ⟨a, ea, ht⟩ := ht
  obtain ⟨w, ew, rw0⟩ := hr.nameD ea
  cases rw0.dat
  refine ⟨.int a, ew, F, G, S, _, hr, ht, fun v y S1 F1 H1 r1 s1 h1 => ?_⟩
  obtain ⟨b, eb, _, h1⟩ := h1
  cases int_dat eb
  cases r1.dat
  exact ⟨a, b, rfl, rfl, k.nx _ _ _ _ ((r1.rep.withD (.int (a + b))).setv (fun j z => nomatch z) i) s1 (Kp.set hk) (unforce h1)⟩
/-- name[i] += int -/
def augIx (to ti te : TX) : TXS := fun D S => to S fun o S1 => ti S1 fun i S2 => ∃ k n ds a, o = .al k ∧ i = .d (.int ((n : Nat) : Int)) ∧ S2.getD k .un = .l ds ∧ ds[n]? = some (.int a) ∧
  te S2 fun y S3 => ∃ b, asInt y = some b ∧ S3.getD k .un = .l ds ∧ force (S3.set k (.l (ds.set n (.int (a + b))))) D.nx
theorem xs_augIx {to ti te : TX} {st : Stmt} (h : PS X st (tAugS (rw to) (rw ti) (rw te) rGetN (ipI fun i j => i + j) rSetN)) : PS X st (rwS kp (augIx to ti te)) := PS_imp h fun D σ H q => by
  obtain ⟨F, G, S, Dp, hr, ht, kk⟩ := q
  refine ⟨F, G, S, _, hr, ht, fun vo o S1 F1 H1 r1 s1 h1 => ?_⟩
  obtain ⟨G1, sg, r2, more⟩ := r1.aside
  refine ⟨F1, G1, S1, _, r2, h1, fun vi i S2 F2 H2 r3 s2 h2 => ?_⟩
  obtain ⟨k, n, ds, a, rfl, rfl, e, ea, h2⟩ := h2
  have r4 := more _ _ _ _ _ r3 s2
  obtain ⟨p, ws, rfl, g1, l1, _, _, chg⟩ := r4.chgL e
  cases r4.tl.dat
  obtain ⟨w, ew, lw⟩ := LvA.nthd l1 ea
  cases lw
  refine ⟨p, ws, n, .int a, rfl, rfl, g1, ew, ?_⟩
  obtain ⟨G2, sg2, r5, more2⟩ := r4.aside
  refine ⟨F2, G2, S2, _, r5, h2, fun vy y S3 F3 H3 r6 s3 h3 => ?_⟩
  obtain ⟨b, eb, e3, h3⟩ := h3
  cases int_dat eb
  cases r6.dat
  have r7 := more2 _ _ _ _ _ r6 s3
  obtain ⟨p', ws', ep, g3, l3, _, _, chg3⟩ := r7.chgL e3
  cases ep
  have hn : n < ds.length := (List.getElem?_eq_some_iff.mp ea).1
  refine ⟨a, b, rfl, rfl, p, ws', (n : Int), n, rfl, rfl, g3, ?_, fun H' bb e' => ?_⟩
  · rw [l3.len]
    unfold ixN
    rw [if_pos (by omega), if_pos (by omega)]
    rfl
  · exact kk.nx _ _ _ _ (chg3 H' _ _ bb e' (LvA.sets (.int _) n l3)).rep ((s1.trans s2).trans s3) (Kp.refl ..) (unforce h3)
/-! ### range, zip, enumerate -/
def rangeD (lo : Int) (n : Nat) : List PyData := (List.range n).map fun k => .int (lo + (k : Nat))
theorem walkX_range {lo : Int} {n : Nat} : WalkX (Itr lo n) (rangeD lo n) F :=
  ⟨fun _ => True, _, by unfold rangeD; rw [List.length_map, List.length_range]; exact walk_range, fun _ _ => trivial, fun k H x H' hk s y => by
    obtain ⟨rfl, rfl⟩ := y
    unfold rangeD at hk
    rw [List.length_map, List.length_range] at hk
    refine ⟨Same.refl _, .int (lo + (k : Nat)), ?_, .inl (.int _)⟩
    unfold rangeD
    rw [List.getElem?_map, List.getElem?_range hk]
    rfl⟩
def rng1I (t : TXA) : TXI := fun S Q => t S fun xs S1 => ∃ j, xs = [.d (.int j)] ∧ (-1000000000 ≤ j ∧ j ≤ 1000000000) ∧ Q (rangeD 0 j.toNat) S1
def rng2I (t : TXA) : TXI := fun S Q => t S fun xs S1 => ∃ i j, xs = [.d (.int i), .d (.int j)] ∧ (-1000000000 ≤ i ∧ i ≤ 1000000000 ∧ -1000000000 ≤ j ∧ j ≤ 1000000000) ∧ Q (rangeD i (j - i).toNat) S1
theorem PI_imp {tg it : Expr} {w w' : TI} (h : PI X tg it w) (i : ∀ σ H R, w' σ H R → w σ H R) : PI X tg it w' := ⟨fun pins s σ H R I q => h.run pins s σ H R I (i _ _ _ q)⟩
theorem xi_rng1 {tg : Expr} (h : PI X tg e (iRng1 (rwA tr))) : PI X tg e (rwI (rng1I tr)) := PI_imp h fun σ H R q => by
  obtain ⟨F, G, S, Ip, hr, ht, k⟩ := q
  refine ⟨F, G, S, _, hr, ht, fun vs xs S1 F1 H1 r1 s1 h1 => ?_⟩
  obtain ⟨j, rfl, b, h1⟩ := h1
  have hl : vs.length = 1 := by obtain ⟨_, _, r⟩ := r1; exact r.vl.len
  match vs, hl with
  | [v], _ =>
    cases r1.dat
    exact ⟨j, rfl, by omega, by omega, k _ _ _ _ _ r1.rep s1 walkX_range h1⟩
theorem xi_rng2 {tg : Expr} (h : PI X tg e (iRng2 (rwA tr))) : PI X tg e (rwI (rng2I tr)) := PI_imp h fun σ H R q => by
  obtain ⟨F, G, S, Ip, hr, ht, k⟩ := q
  refine ⟨F, G, S, _, hr, ht, fun vs xs S1 F1 H1 r1 s1 h1 => ?_⟩
  obtain ⟨i, j, rfl, b, h1⟩ := h1
  have hl : vs.length = 2 := by obtain ⟨_, _, r⟩ := r1; exact r.vl.len
  match vs, hl with
  | [v, u], _ =>
    cases r1.dat
    cases r1.tl.dat
    exact ⟨i, j, rfl, ⟨by omega, by omega, by omega, by omega⟩, k _ _ _ _ _ r1.rep s1 walkX_range h1⟩
/-- what is walked by zip, enumerate: data -/
def seqD : PyData → Option (List PyData)
  | .tuple a => some a
  | .list a => some a
  | .str z => some ((tl z).map fun c => .str (tx [c]))
  | _ => none
theorem over_lv {d : PyData} {a : List PyData} (h : Lv F v d) (e : seqD d = some a) : ∃ (k : K3) (ws : List V), v = k.v ∧ (∀ H, Same F H → k.over K H ws) ∧ LvA F ws a := by
  cases h with
  | tup h1 h2 => cases e; exact ⟨.t _, _, rfl, fun H s => SqT.of (s _ _ h1), h2⟩
  | lst h1 h2 => cases e; exact ⟨.l _, _, rfl, fun H s => SqL.of (s _ _ h1), h2⟩
  | str z => cases e; exact ⟨.s z, _, rfl, fun H s => rfl, sgs_lv _⟩
  | _ => cases e
def pairsD (a b : List PyData) : List PyData := List.zipWith (fun x y => .tuple [x, y]) a b
def zipI (t : TXA) : TXI := fun S Q => t S fun xs S1 => ∃ d d' a b, (frzA S1 xs).1 = [.d d, .d d'] ∧ seqD d = some a ∧ seqD d' = some b ∧ Q (pairsD a b) (frzA S1 xs).2
def enumI (t : TXA) : TXI := fun S Q => t S fun xs S1 => ∃ d a, (frzA S1 xs).1 = [.d d] ∧ seqD d = some a ∧ Q (pairsD (rangeD 0 a.length) a) (frzA S1 xs).2
theorem xi_zip {tg : Expr} (h : PI X tg e (iZip2 K (rwA tr))) : PI X tg e (rwI (zipI tr)) := PI_imp h fun σ H R q => by
  obtain ⟨F, G, S, Ip, hr, ht, k⟩ := q
  refine ⟨F, G, S, _, hr, ht, fun vs xs S1 F1 H1 r1 s1 h1 => ?_⟩
  obtain ⟨d, d', a, b, ex, ea, eb, h1⟩ := h1
  obtain ⟨F2, s2, r2⟩ := r1.frzs
  rw [ex] at r2
  have hl : vs.length = 2 := by obtain ⟨_, _, r⟩ := r2; exact r.vl.len
  match vs, hl with
  | [v, u], _ =>
    obtain ⟨k1, ws1, rfl, o1, l1⟩ := over_lv (K := K) r2.dat ea
    obtain ⟨k2, ws2, rfl, o2, l2⟩ := over_lv (K := K) r2.tl.dat eb
    refine ⟨k1, k2, ws1, ws2, rfl, o1 _ r2.lf, o2 _ r2.lf, k _ _ _ _ _ r2.rep (s1.trans s2) ⟨_, _, walk_zip2 (k := k1) (m := k2) (xs := ws1) (ys := ws2) ?_, fun H s => ⟨o1 H s, o2 H s⟩, fun n H x H' hn s y => ?_⟩ h1⟩
    · unfold pairsD
      rw [List.length_zipWith, l1.len, l2.len]
    · obtain ⟨T, x1, x2, rfl, sH, eT, e1, e2⟩ := y
      obtain ⟨z1, g1, q1⟩ := LvA.nth l1 e1
      obtain ⟨z2, g2, q2⟩ := LvA.nth l2 e2
      refine ⟨sH, .tuple [z1, z2], ?_, .inr ⟨T, _, [z1, z2], rfl, eT, .cons q1 (.cons q2 .nil), rfl⟩⟩
      unfold pairsD
      rw [List.getElem?_zipWith, g1, g2]
theorem xi_enum {tg : Expr} (h : PI X tg e (iEnumA K (rwA tr))) : PI X tg e (rwI (enumI tr)) := PI_imp h fun σ H R q => by
  obtain ⟨F, G, S, Ip, hr, ht, k⟩ := q
  refine ⟨F, G, S, _, hr, ht, fun vs xs S1 F1 H1 r1 s1 h1 => ?_⟩
  obtain ⟨d, a, ex, ea, h1⟩ := h1
  obtain ⟨F2, s2, r2⟩ := r1.frzs
  rw [ex] at r2
  have hl : vs.length = 1 := by obtain ⟨_, _, r⟩ := r2; exact r.vl.len
  match vs, hl with
  | [v], _ =>
    obtain ⟨k1, ws1, rfl, o1, l1⟩ := over_lv (K := K) r2.dat ea
    have el : (pairsD (rangeD 0 a.length) a).length = ws1.length := by
      unfold pairsD rangeD
      rw [List.length_zipWith, List.length_map, List.length_range, Nat.min_self, l1.len]
    refine ⟨k1, ws1, rfl, o1 _ r2.lf, k _ _ _ _ _ r2.rep (s1.trans s2) ⟨_, _, by rw [el]; exact walk_each (k := k1) (xs := ws1), fun H s => o1 H s, fun n H x H' hn s y => ?_⟩ h1⟩
    obtain ⟨T, x1, x2, rfl, sH, eT, e1, e2⟩ := y
    cases e1
    obtain ⟨z2, g2, q2⟩ := LvA.nth l1 e2
    have hn2 := (List.getElem?_eq_some_iff.mp g2).1
    refine ⟨sH, .tuple [.int (n : Nat), z2], ?_, .inr ⟨T, _, [.int (n : Nat), z2], rfl, eT, .cons (.int _) (.cons q2 .nil), rfl⟩⟩
    unfold pairsD rangeD
    rw [List.getElem?_zipWith, List.getElem?_map, List.getElem?_range hn2, g2]
    simp
end
end Px


namespace Px
open PySem PySem.Spec PyProof.Rows L2 Fo TL
section
variable {X : Cx} {e : Expr} {pos : Pos} {kp : Nat → Bool}
/-- a written text, by its codes -/
theorem x_str {x : Str} {j : Nat ⊕ Unit} {cs : Cs} {t : TE} (h : PE X e t) (ht : t = tC (.str x)) (hx : x = tx cs) : PE X e (rw (valX (.d (.str (tx cs))))) := by
  subst ht
  subst hx
  exact x_val h (.str _)
theorem x_strC {x : Str} {cs : Cs} (h : PE X e (tC (.str x))) (hx : x = tx cs) : PE X e (rw (valX (.d (.str (tx cs))))) := by
  subst hx
  exact x_val h (.str _)
theorem pe_globI {x : Str} {n : Int} (hg : Gl X x) (hm : ∃ t, X.mg x = some (.int n t)) (hd : (x == ("__debug__" : Str)) = false := by decide) : PE X (.Name x pos) (tC (.int n)) := by
  obtain ⟨t, h⟩ := hm
  exact pe_glob hg h ⟨t, rfl⟩ hd
theorem pe_globS {x z : Str} (hg : Gl X x) (hm : ∃ t, X.mg x = some (.str z t)) (hd : (x == ("__debug__" : Str)) = false := by decide) : PE X (.Name x pos) (tC (.str z)) := by
  obtain ⟨t, h⟩ := hm
  exact pe_glob hg h ⟨t, rfl⟩ hd
def negX (t : TX) : TX := fun S Q => t S fun x S1 => ∃ i, asInt x = some i ∧ Q (.d (.int (-i))) S1
theorem x_neg {ta : TX} (h : PE X e (tUn (rU fun i => .int (-i)) (rw ta))) : PE X e (rw (negX ta)) := PE_imp h fun σ H Q q => by
  obtain ⟨F, G, S, Qp, hr, ht, k⟩ := q
  refine ⟨F, G, S, _, hr, ht, fun v x S1 F1 H1 r1 s1 h1 => ?_⟩
  obtain ⟨i, ei, h1⟩ := h1
  cases int_dat ei
  cases r1.dat
  exact ⟨i, rfl, k _ _ _ _ _ (r1.rep.withD (.int (-i))) s1 h1⟩
theorem kMt (K : PySem.W.Frag) (e : X.K = K) {id : String} {r : PySem.W.Frag → V → List V → Hp → VK → Prop} (h : MtR X id (r X.K)) : MtR X id (r K) := e ▸ h
/-! comprehensions -/
theorem x_lc {ti : TXI} {g : TXG} {tt : TXT} {te : TX} {ws : List Nat} (h : PE X e (tLc (rwI ti) (rwG (kpOf ws) g) (rwT tt) (rw te) ws)) : PE X e (rw (lcX ti g tt te ws)) := PE_imp h fun _ _ _ q => lc_sim (fun _ _ _ z => z) q
theorem x_lc0 {ti : TXI} {g : TXG} {te : TX} {ws : List Nat} (h : PE X e (tLc (rwI ti) (rwG (kpOf ws) g) tYes (rw te) ws)) : PE X e (rw (lcX ti g yesT te ws)) := PE_imp h fun _ _ _ q => lc_sim (fun _ _ _ z => yes_sim z) q
theorem xs_setLc {ti : TXI} {g : TXG} {tt : TXT} {te : TX} {ws : List Nat} {i : Nat} {st : Stmt} (hk : kp i = false) (h : PS X st (tAsg (tLc (rwI ti) (rwG (kpOf ws) g) (rwT tt) (rw te) ws) (gName i))) : PS X st (rwS kp (setS i (lcX ti g tt te ws))) :=
  PS_imp h fun _ _ _ q => lc_sim (fun _ _ _ z => z) (set_sim hk q)
theorem xs_setLc0 {ti : TXI} {g : TXG} {te : TX} {ws : List Nat} {i : Nat} {st : Stmt} (hk : kp i = false) (h : PS X st (tAsg (tLc (rwI ti) (rwG (kpOf ws) g) tYes (rw te) ws) (gName i))) : PS X st (rwS kp (setS i (lcX ti g yesT te ws))) :=
  PS_imp h fun _ _ _ q => lc_sim (fun _ _ _ z => yes_sim z) (set_sim hk q)
/-! calls of defs -/
theorem x_call {c : Ct} {dv : List V} {dx : List PV} {ta : TXA} {E : XK} (cd : CvA dv dx) (h : PE X e (tCall (spP c) dv E (rwA ta))) : PE X e (rw (callF c dx ta)) := PE_imp h fun _ _ _ q => callF_sim cd q
/-- by keywords behind places -/
def callK (c : Ct) (t tk : TXA) : TX := fun S Q => t S fun xs S1 => tk S1 fun ys S2 => c (takeX S2 (xs ++ ys)).1 fun r as' => force (giveX (takeX S2 (xs ++ ys)).2 (xs ++ ys) as') (Q r)
theorem callK_sim {c : Ct} {ta tk : TXA} {gV : List V → List V → List V} (hg : ∀ vs zs, gV vs zs = vs ++ zs) {E : XK} {σ : L2.St} {H : Hp} {Q : VK} (q : rw (callK c ta tk) σ H Q) : tCallK (spP c) gV E (rwA ta) (rwA tk) σ H Q := by
  obtain ⟨F, G, S, Qp, hr, ht, k⟩ := q
  refine ⟨F, G, S, _, hr, ht, fun vs xs S1 F1 H1 r1 s1 h1 => ?_⟩
  obtain ⟨G1, sg, r2, more⟩ := r1.aside
  refine ⟨F1, G1, S1, _, r2, h1, fun us ys S2 F2 H2 r3 s2 h2 => ?_⟩
  have r4 := more _ _ _ _ _ r3 s2
  obtain ⟨G2, rc, back⟩ := r4.callee
  show spP c (gV vs us) H2 Q E
  rw [hg]
  exact ⟨F2, G2, _, _, rc, h2, fun v r as' F' H' r5 s3 q2 => k _ _ _ _ _ (back _ _ _ _ _ r5 s3) ((s1.trans s2).trans s3) (unforce q2)⟩
theorem x_callK {c : Ct} {ta tk : TXA} {E : XK} (h : PE X e (tCallK (spP c) (fun vs zs => vs ++ zs) E (rwA ta) (rwA tk))) : PE X e (rw (callK c ta tk)) := PE_imp h fun _ _ _ q => callK_sim (fun _ _ => rfl) q
theorem xk_nil : PK X [] (rwA nilA) := ⟨fun pos pins s σ H Q I q => (pk_nil (X := X)).run pos pins s σ H Q I (by
  obtain ⟨F, G, S, Qp, hr, ht, k⟩ := q
  exact k [] [] _ _ _ hr (Same.refl _) ht)⟩
theorem xk_cons {nm : Option Str} {kpos : Pos} {kws : List Keyword} {te : TX} {t : TXA} (ha : PE X e (rw te)) (hr : PK X kws (rwA t)) : PK X (⟨nm, e, kpos⟩ :: kws) (rwA (consA te t)) := ⟨fun pos pins s σ H Q I q => (pk_cons ha hr).run pos pins s σ H Q I (by
  obtain ⟨F, G, S, Qp, hr, ht, k⟩ := q
  refine ⟨F, G, S, _, hr, ht, fun v x S1 F1 H1 r1 s1 h1 => ?_⟩
  obtain ⟨G1, sg, r2, more⟩ := r1.aside
  exact ⟨F1, G1, S1, _, r2, h1, fun us ys S2 F2 H2 r3 s2 h2 => k _ _ _ _ _ (more _ _ _ _ _ r3 s2) (s1.trans s2) h2⟩)⟩
/-! two names at once -/
def parS (i j : Nat) (ta : TXA) : TXS := fun D S => ta S fun xs S1 => match (takeX S1 xs).1 with
  | [x, y] => force (((takeX S1 xs).2.set i x).set j y) D.nx
  | _ => False
theorem xs_par {i j : Nat} {ta : TXA} {st : Stmt} (hi : kp i = false) (hj : kp j = false) (h : PS X st (tPar i j (rwA ta))) : PS X st (rwS kp (parS i j ta)) := PS_imp h fun D σ H q => by
  obtain ⟨F, G, S, Dp, hr, ht, k⟩ := q
  refine ⟨F, G, S, _, hr, ht, fun vs xs S1 F1 H1 r1 s1 h1 => ?_⟩
  have hl : vs.length = xs.length := by obtain ⟨_, _, r⟩ := r1; exact r.vl.len
  have hm := RepA.takeAll (dv := []) (done := []) hl (by rw [List.append_nil, List.append_nil]; exact r1) (fun _ m => nomatch m)
  rw [List.nil_append, List.nil_append] at hm
  generalize (takeX S1 xs).1 = as at hm h1
  generalize (takeX S1 xs).2 = S2 at hm h1
  obtain ⟨r2, na⟩ := hm
  have hl2 : vs.length = as.length := by obtain ⟨_, _, r⟩ := r2; exact r.vl.len
  split at h1
  · rename_i x y
    match vs, hl2 with
    | [v, w], _ =>
      obtain ⟨G1, sg, r3, more⟩ := RepA.aside2 (vs := [v]) (xs := [x]) r2 rfl
      have r4 := r3.setv (fun m z => na x (List.mem_cons_self ..) m z) i
      have r5 := more _ _ _ _ [] [] r4 (Same.refl _) (.inr fun z m => na z (List.mem_cons_of_mem _ m))
      rw [List.append_nil, List.append_nil] at r5
      have r6 := r5.setv (fun m z => na y (List.mem_cons_of_mem _ (List.mem_cons_self ..)) m z) j
      exact ⟨v, w, rfl, k.nx _ _ _ _ r6 s1 ((Kp.set hi).trans (Kp.set hj)) (unforce h1)⟩
  · exact h1.elim
end
/-! ### a def, whole -/
section
variable {P : Program} {w : World} {K : PySem.W.Frag} {mg : Str → Option Value} {base : Heap}
theorem okP {x qual : Str} {st : Stmt} {f : Addr} {fd : FuncData} {N ps : List Str} {k : Nat} {c : Ct} (F : Fun K x qual st f fd) (S : FnScope N ps (defScope st)) (mask : List Bool) (hm : mask.length = ps.length) (hN : mask.length ≤ N.length) (len : ∀ as Q, c as Q → as.length = ps.length)
    (body : ∀ (cdv : Value) (A : Around) (outer : List Env) (s : Shared) (H : Hp) (E : XK), Room k (A.deeper (envOfC qual (defScope st) s.heap.objs.size f cdv)) →
      ∃ t : TXS, PSs (cxOf CX0 P w K mg base N qual (defScope st) f cdv A outer s H E).nox (defBody st) (rwS (kpM mask) t) ∧ ∀ as Qc, c as Qc → force (as ++ List.replicate (N.length - mask.length) .un) (t (dnC mask Qc))) :
    FnOk P w K mg base CX0 (k + 1) f fd ps (spP c) := by
  refine F.ok S (fun vs H Q E h => spP_len len h) (fun cdv A outer s H vs Q E hr h => ?_)
  obtain ⟨t, ht, hb⟩ := body cdv A outer s H E hr
  exact ⟨_, ht, enter h ((spP_len len h).trans hm.symm) hN fun as Qc hc _ => unforce (hb as Qc hc)⟩
end
end Px

namespace Px
open PySem PySem.Spec PyProof.Rows L2 Fo TL
section
variable {F F' F0 G G' H H' : Hp} {σ σ' : L2.St} {S : List PV} {v u : V} {vs us : List V} {xs ys : List PV} {x y : PV}
theorem pickT {b : Bool} {A B : Prop} (e : b = true) (h : A) : pick b A B := by subst e; exact h
theorem pickF {b : Bool} {A B : Prop} (e : b = false) (h : B) : pick b A B := by subst e; exact h
theorem nYes {b : Bool} (e : b = true) : (!b) = false := by subst e; rfl
theorem nNo {b : Bool} (e : b = false) : (!b) = true := by subst e; rfl
theorem yesD {p : Prop} {h : Decidable p} (e : p) : @decide p h = true := decide_eq_true e
theorem noD {p : Prop} {h : Decidable p} (e : ¬p) : @decide p h = false := decide_eq_false e
theorem okT {Q : KP} {b : Bool} {as : List PV} (e : b = true) (q : Q (.d (.bool true)) as) : Q (.d (.bool b)) as := e ▸ q
theorem pairs_in {α β : Type} {f : α → PyData} {g : β → PyData} {A : List α} {B : List β} {x : PyData} (h : x ∈ pairsD (A.map f) (B.map g)) : ∃ (k : Nat) (a : α) (b : β), A[k]? = some a ∧ B[k]? = some b ∧ x = .tuple [f a, g b] := by
  obtain ⟨k, e⟩ := List.getElem?_of_mem h
  unfold pairsD at e
  rw [List.getElem?_zipWith, List.getElem?_map, List.getElem?_map] at e
  cases ea : A[k]? with
  | none => rw [ea] at e; cases e
  | some a =>
    cases eb : B[k]? with
    | none => rw [ea, eb] at e; cases e
    | some b => rw [ea, eb] at e; exact ⟨k, a, b, ea, eb, (Option.some.inj e).symm⟩
theorem pairs_zip {α β : Type} {f : α → PyData} {g : β → PyData} (A : List α) (B : List β) : pairsD (A.map f) (B.map g) = (A.zip B).map fun p => .tuple [f p.1, g p.2] := by
  unfold pairsD
  rw [List.zipWith_map, List.zip, List.map_zipWith]
theorem pairs_few {a b : List PyData} {n : Nat} (h : a.length < n) : (pairsD a b).length < n := by
  unfold pairsD
  rw [List.length_zipWith]
  omega
theorem cut_from {α : Type} (xs : List α) (n : Nat) : cutD xs (some (n : Int)) none = xs.drop n := by
  unfold cutD
  rw [HT.sIx_nat, HT.sIx_none]
  by_cases h : n ≤ xs.length
  · rw [Nat.min_eq_left h, List.take_of_length_le (by rw [List.length_drop]; exact Nat.le_refl _)]
  · rw [Nat.min_eq_right (by omega), Nat.sub_self, List.take_zero, List.drop_of_length_le (by omega)]
theorem cut_mid {α : Type} (xs : List α) {a b : Nat} (h : a ≤ b) (hb : b ≤ xs.length) : cutD xs (some (a : Int)) (some (b : Int)) = (xs.take b).drop a := by
  unfold cutD
  rw [HT.sIx_nat, HT.sIx_nat, Nat.min_eq_left (show a ≤ xs.length by omega), Nat.min_eq_left hb, List.drop_take]
theorem cut_to {α : Type} (xs : List α) (n : Nat) : cutD xs none (some (n : Int)) = xs.take n := by
  unfold cutD
  rw [HT.sIx_nat, HT.sIx_none, List.drop_zero, Nat.sub_zero]
  by_cases h : n ≤ xs.length
  · rw [Nat.min_eq_left h]
  · rw [Nat.min_eq_right (by omega), List.take_of_length_le (Nat.le_refl _), List.take_of_length_le (by omega)]
/-- of mapped things the k-th -/
theorem at_map {α : Type} {f : α → PyData} {l : List α} {k : Nat} {x : PyData} (e : (l.map f)[k]? = some x) : ∃ a, l[k]? = some a ∧ x = f a := by
  rw [List.getElem?_map] at e
  cases h : l[k]? with
  | none => rw [h] at e; cases e
  | some a => rw [h] at e; exact ⟨a, rfl, (Option.some.inj e).symm⟩
theorem range_map {n : Nat} : rangeD 0 n = (List.range n).map fun k => PyData.int (k : Nat) := by
  unfold rangeD
  refine List.map_congr_left fun k _ => ?_
  rw [Int.zero_add]
theorem sgs_map {t : Cs} : ((tl (tx t)).map fun c => PyData.str (tx [c])) = t.map fun c => PyData.str (tx [c]) := by rw [tl_tx]
theorem lc_of {α : Type} {g : TXG} {te : TX} {ws : List Nat} {Q : KP} {its : List PyData} {S0 : List PV} (l : List α) (f h : α → PyData) (e : its = l.map f) (few : l.length < 16777216)
    (hs : ∀ x ∈ l, ∀ R : KP, (∀ S4, wipeX S4 ws = wipeX S0 ws → R (.d (h x)) S4) → g (.d (f x)) (wipeX S0 ws) fun S2 => te S2 R) (hd : Q (.l (l.map h)) (wipeX S0 ws)) : LcR g yesT te ws Q its S0 := by
  subst e
  refine ⟨by rw [List.length_map]; exact few, fun k acc S => S = wipeX S0 ws ∧ acc = (l.take k).map h, ⟨rfl, rfl⟩, fun k x acc S e hl q => ?_, fun acc S hl q => ?_⟩
  · obtain ⟨rfl, rfl⟩ := q
    obtain ⟨a, ea, rfl⟩ := at_map e
    exact hs a (List.mem_of_getElem? ea) (fun y S4 => ∃ z, y = .d z ∧ force (wipeX S4 ws) fun S => S = wipeX S0 ws ∧ (l.take k).map h ++ [z] = (l.take (k + 1)).map h) fun S4 e4 => ⟨_, rfl, doforce ⟨e4, by
      rw [take_snoc ea, List.map_append]
      rfl⟩⟩
  · obtain ⟨rfl, rfl⟩ := q
    rw [List.length_map, List.take_length]
    exact hd
theorem lc_fil {α : Type} {g : TXG} {tt : TXT} {te : TX} {ws : List Nat} {Q : KP} {its : List PyData} {S0 : List PV} (l : List α) (f h : α → PyData) (p : α → Bool) (e : its = l.map f) (few : l.length < 16777216)
    (hs : ∀ x ∈ l, ∀ (R : KP) (N : List PV → Prop), (p x = true → ∀ S4, wipeX S4 ws = wipeX S0 ws → R (.d (h x)) S4) → (p x = false → ∀ S4, wipeX S4 ws = wipeX S0 ws → N S4) → g (.d (f x)) (wipeX S0 ws) fun S2 => tt S2 fun b S3 => pick b (te S3 R) (N S3))
    (hd : Q (.l ((l.filter p).map h)) (wipeX S0 ws)) : LcR g tt te ws Q its S0 := by
  subst e
  refine ⟨by rw [List.length_map]; exact few, fun k acc S => S = wipeX S0 ws ∧ acc = ((l.take k).filter p).map h, ⟨rfl, rfl⟩, fun k x acc S e hl q => ?_, fun acc S hl q => ?_⟩
  · obtain ⟨rfl, rfl⟩ := q
    obtain ⟨a, ea, rfl⟩ := at_map e
    refine hs a (List.mem_of_getElem? ea) (fun y S4 => ∃ z, y = .d z ∧ force (wipeX S4 ws) fun S => S = wipeX S0 ws ∧ ((l.take k).filter p).map h ++ [z] = ((l.take (k + 1)).filter p).map h) (fun S3 => force (wipeX S3 ws) fun S => S = wipeX S0 ws ∧ ((l.take k).filter p).map h = ((l.take (k + 1)).filter p).map h) (fun pa S4 e4 => ⟨_, rfl, doforce ⟨e4, ?_⟩⟩) (fun pa S4 e4 => doforce ⟨e4, ?_⟩)
    · rw [take_snoc ea, List.filter_append, List.map_append, List.filter_cons_of_pos pa]
      rfl
    · rw [take_snoc ea, List.filter_append, List.map_append, List.filter_cons_of_neg (by rw [pa]; exact Bool.false_ne_true)]
      exact (List.append_nil _).symm
  · obtain ⟨rfl, rfl⟩ := q
    rw [List.length_map, List.take_length]
    exact hd
theorem neB {a b : Bool} (e : a = b) : (true ^^ (a == b)) = false := by subst e; cases a <;> rfl
theorem eqB {a b : Bool} (e : a = b) : (false ^^ (a == b)) = true := by subst e; cases a <;> rfl
theorem neD {p : Prop} {h : Decidable p} (e : p) : (true ^^ @decide p h) = false := by rw [decide_eq_true e]; rfl
theorem eqD {p : Prop} {h : Decidable p} (e : p) : (false ^^ @decide p h) = true := by rw [decide_eq_true e]; rfl
theorem notD {p : Prop} {h : Decidable p} (e : ¬p) : (true ^^ @decide p h) = true := by rw [decide_eq_false e]; rfl
/-- a pen from which so many more can be taken -/
def APen (n : Nat) : Asr where
  R := fun _ H v fs => ∃ p c, v = .ref p ∧ fs = [p, c] ∧ Pen H p c n
  stay := fun {F F' H H' v fs} h _ k => by
    obtain ⟨p, c, rfl, rfl, cs, n0, l, h1, h2, h3, h4, h5⟩ := h
    exact ⟨p, c, rfl, rfl, cs, n0, l, by rw [k p (by simp)]; exact h1, by rw [k c (by simp)]; exact h2, h3, h4, h5⟩
  has := fun {F H v fs} h a m => by
    obtain ⟨p, c, rfl, rfl, cs, n0, l, h1, h2, h3, h4, h5⟩ := h
    rcases List.mem_cons.mp m with rfl | m
    · exact ⟨_, h1, fun _ z => nomatch z⟩
    · rw [List.mem_singleton.mp m]
      exact ⟨_, h2, fun _ z => nomatch z⟩
abbrev pen (n : Nat) : PV := .o (APen n)
/-- the script -/
def AScr (K : PySem.W.Frag) (ns : List Int) : Asr where
  R := fun F _ v fs => ∃ a, v = .ref a ∧ fs = [] ∧ SqL K F a (ns.map V.int)
  stay := fun {F F' H H' v fs} h s _ => by
    obtain ⟨a, rfl, rfl, h⟩ := h
    exact ⟨a, rfl, rfl, s.seq h⟩
  has := fun {F H v fs} h a m => by
    obtain ⟨b, rfl, rfl, h⟩ := h
    cases m
/-- an own thing in hand is changed -/
theorem RepA.chgHand {A : Asr} (h : RepA F G H [] [] (v :: vs) (.o A :: xs)) : ∃ f, A.R F H v f ∧ f.Nodup ∧ (∀ a ∈ f, F a = none ∧ G a = none) ∧ ∀ (H' : Hp) (A' : Asr), (∀ a o, a ∉ f → H a = some o → H' a = some o) → A'.R F H' v f → RepA F G H' [] [] (v :: vs) (.o A' :: xs) := by
  obtain ⟨fv, fs, h⟩ := h
  cases h.sl
  have nd := h.nd
  have off := h.off
  rw [List.append_nil] at nd off
  cases hv : h.vl with
  | cons h1 h2 =>
    rename_i f g
    cases h1 with
    | o h1 =>
      have n := List.nodup_append.mp nd
      refine ⟨f, h1, n.1, fun a m => off a (List.mem_append_left _ m), fun H' A' k r' => ?_⟩
      have keepK : ∀ {K : Hp}, Same K H → (∀ a ∈ f, K a = none) → Same K H' := fun {K} sk z a o q => k a o (fun m => by rw [z a m] at q; cases q) (sk a o q)
      have keep : ∀ a ∈ g, H' a = H a := fun a m => by
        obtain ⟨o, e, _⟩ := h2.has _ _ _ a m
        rw [e]
        exact k a o (fun z => n.2.2 a z a m rfl) e
      exact ⟨f ++ g, [], keepK h.lf fun a m => (off a (List.mem_append_left _ m)).1, keepK h.lg fun a m => (off a (List.mem_append_left _ m)).2, .nil, RVs.cons (.o r') (h2.stay (fun _ _ q => q) _ _ _ keep), by rw [List.append_nil]; exact nd, by rw [List.append_nil]; exact off, h.dj⟩
theorem RepA.consD {z : PyData} (h : RepA F G H σ S vs xs) (l : Lv F v z) : RepA F G H σ S (v :: vs) (.d z :: xs) := by
  obtain ⟨fv, fs, h⟩ := h
  exact ⟨fv, fs, h.lf, h.lg, h.sl, RVs.cons (f := []) (.d l) h.vl, h.nd, h.off, h.dj⟩
/-- a def that changes nothing and hands back data -/
theorem dat_of {F G : Hp} {vs : List V} {H : Hp} {Q : VK} {as : List PV} {Qc : KP} {z : PyData} (hr : RepA F G H [] [] vs as) (k : ∀ v r as' F' H', RepA F' G H' [] [] (v :: vs) (r :: as') → Same F F' → Qc r as' → Q v H') (q : Qc (.d z) as) {v : V} {H' : Hp} (s : Same H H') (l : Lv F v z) : Q v H' :=
  k _ _ _ _ _ (RepA.consD (RepA.same hr s) l) (Same.refl _) q
/-! new data of tuples: what it stands on is laid in F -/
end
mutual
theorem tv_laid {G H : Hp} {σ : L2.St} {S : List PV} {vs : List V} {xs : List PV} : ∀ (d : PyData) (v : V) (F : Hp), RepA F G H σ S vs xs → Tv H v d → ∃ F', Same F F' ∧ RepA F' G H σ S vs xs ∧ Lv F' v d
  | .none, _, F, r, h => by cases h; exact ⟨F, Same.refl _, r, .non⟩
  | .bool b, _, F, r, h => by cases h; exact ⟨F, Same.refl _, r, .bl b⟩
  | .int i, _, F, r, h => by cases h; exact ⟨F, Same.refl _, r, .int i⟩
  | .str x, _, F, r, h => by cases h; exact ⟨F, Same.refl _, r, .str x⟩
  | .tuple ds, _, F, r, h => by
    cases h with
    | tup h1 h2 =>
      obtain ⟨F1, s1, r1, l1⟩ := tva_laid ds _ F r h2
      obtain ⟨F2, s2, e2, r2⟩ := RepA.tup r1 (Same.refl H) h1
      exact ⟨F2, s1.trans s2, r2, .tup e2 (LvA.sm s2 _ _ l1)⟩
  | .list _, _, _, _, h => by cases h
  | .dict _, _, _, _, h => by cases h
theorem tva_laid {G H : Hp} {σ : L2.St} {S : List PV} {vs : List V} {xs : List PV} : ∀ (ds : List PyData) (us : List V) (F : Hp), RepA F G H σ S vs xs → TvA H us ds → ∃ F', Same F F' ∧ RepA F' G H σ S vs xs ∧ LvA F' us ds
  | [], _, F, r, h => by cases h; exact ⟨F, Same.refl _, r, .nil⟩
  | d :: ds, _, F, r, h => by
    cases h with
    | cons h1 h2 =>
      obtain ⟨F1, s1, r1, l1⟩ := tv_laid d _ F r h1
      obtain ⟨F2, s2, r2, l2⟩ := tva_laid ds _ F1 r1 h2
      exact ⟨F2, s1.trans s2, r2, .cons (Lv.sm s2 _ _ l1) l2⟩
end
/-! data without lists, as data of tuples -/
mutual
def flatT : PyData → Bool
  | .tuple ds => flatTA ds
  | .list _ => false
  | .dict _ => false
  | _ => true
def flatTA : List PyData → Bool
  | [] => true
  | d :: ds => flatT d && flatTA ds
end
mutual
theorem lv_tv {H : Hp} : ∀ (d : PyData) (v : V), flatT d = true → Lv H v d → Tv H v d
  | .none, _, _, h => by cases h; exact .non
  | .bool b, _, _, h => by cases h; exact .bl b
  | .int i, _, _, h => by cases h; exact .int i
  | .str x, _, _, h => by cases h; exact .str x
  | .tuple ds, _, e, h => by
    cases h with
    | tup h1 h2 => exact .tup h1 (lva_tva ds _ e h2)
  | .list _, _, e, _ => by cases e
  | .dict _, _, e, _ => by cases e
theorem lva_tva {H : Hp} : ∀ (ds : List PyData) (us : List V), flatTA ds = true → LvA H us ds → TvA H us ds
  | [], _, _, h => by cases h; exact .nil
  | d :: ds, _, e, h => by
    cases h with
    | cons h1 h2 =>
      have e' : (flatT d && flatTA ds) = true := e
      rw [Bool.and_eq_true] at e'
      exact .cons (lv_tv d _ e'.1 h1) (lva_tva ds _ e'.2 h2)
end
section
variable {F G H : Hp} {σ : L2.St} {S : List PV} {v : V} {vs : List V} {xs : List PV}
theorem RepA.tv {d : PyData} (h : RepA F G H σ S (v :: vs) (.d d :: xs)) (e : flatT d = true) : Tv H v d := lv_tv d v e (Lv.sm h.lf _ _ h.dat)
end
end Px

namespace Px
open PySem PySem.Spec PyProof.Rows L2 Fo TL
section
variable {X : Cx} {K : PySem.W.Frag}
/-- sorted of a list of data of one form -/
def rSortD (K : PySem.W.Frag) : List V → Hp → VK → Prop := fun vs H Q => ∃ (a : Addr) (ps : List (V × PyData)), vs = [.ref a] ∧ SqL K H a (ps.map Prod.fst) ∧ (∀ p ∈ ps, Dp K H p.1 p.2) ∧ PySem.W.AllAlike (ps.map Prod.snd) ∧ PySem.W.Sortable (ps.map Prod.snd) ∧ (∀ p ∈ ps, p.2.depth ≤ 60) ∧
  ∀ (qs : List (V × PyData)) (p : Addr), qs.Perm ps → qs.Pairwise (fun a b => PySem.W.dataLt b.2 a.2 = false) → H p = none → Q (.ref p) (upd H p (.lst (qs.map Prod.fst)))
theorem vals_each : ∀ {its : List Value} {ps : List (V × PyData)}, Vals (ps.map Prod.fst) its → PySem.W.EachIs (fun v b => RelV b.1 v) its ps
  | _, [], h => by
    cases h
    exact .nil
  | _, p :: ps, h => by
    cases h with
    | cons h1 h2 => exact .cons h1 (vals_each h2)
theorem each_vals : ∀ {its : List Value} {ps : List (V × PyData)}, PySem.W.EachIs (fun v b => RelV b.1 v) its ps → Vals (ps.map Prod.fst) its
  | _, _, .nil => .nil
  | _, _, .cons h1 h2 => .cons h1 (each_vals h2)
theorem each_more {α β : Type} {R S : α → β → Prop} (k : ∀ a b, R a b → S a b) {as : List α} {bs : List β} (h : PySem.W.EachIs R as bs) : PySem.W.EachIs S as bs := by
  induction h with
  | nil => exact .nil
  | cons h1 _ ih => exact .cons (k _ _ h1) ih
theorem each_in {α β : Type} {R S : α → β → Prop} : ∀ {as : List α} {bs : List β}, (∀ a b, b ∈ bs → R a b → S a b) → PySem.W.EachIs R as bs → PySem.W.EachIs S as bs
  | _, _, _, .nil => .nil
  | _, _, k, .cons h1 h2 => .cons (k _ _ (List.mem_cons_self ..) h1) (each_in (fun a b m => k a b (List.mem_cons_of_mem _ m)) h2)
theorem kSortD (e : X.K = K) (hu : X.A.units + 64 < cLine) : CallR X (.builtin "sorted") (rSortD K) := by
  subst e
  rintro pins s σ H _ us Q I r ⟨a, ps, rfl, hs, dp, al, so, dep, goal⟩
  obtain ⟨its, rv, hl, hz⟩ := I.list hs
  rw [Vals.ref1 r]
  have ea := vals_each rv
  have er : PySem.W.EachIs (fun v b => ∃ as, Reads s.heap v b.2 as) its ps := each_in (fun v b m h => Dp.reads I b.2 b.1 v (dp b m) h) ea
  rw [List.length_map] at hz
  refine PySem.W.sorted_data (R := fun v b => RelV b.1 v) (enc := Prod.snd) hl.isList ea er al so hz (fun b hb => by have := dep b hb; omega) fun out el eo => ?_
  obtain ⟨ep, he'⟩ := PyProof.Rows.sortedAll_at s.heap its out.toArray
  have T := PySem.W.sortLe_total (listOrd itemOrd) false fun b : V × PyData => PySem.W.keyToks b.2
  have pm := List.mergeSort_perm ps (PySem.W.dataLe false Prod.snd)
  refine ⟨.ref _, upd H (s.heap.objs.size + 1) (.lst ((ps.mergeSort (PySem.W.dataLe false Prod.snd)).map Prod.fst)), I.laid (t' := s.toks) (fun _ _ => PyProof.Rows.sortedAll_old) (Nat.le_succ _) ⟨by rw [List.length_map, pm.length_eq]; exact hz, out, ep, each_vals eo, he'⟩, rfl, goal _ _ pm ?_ (I.hok.fresh (Nat.le_succ _))⟩
  refine List.Pairwise.imp (fun {a b} h => ?_) (List.pairwise_mergeSort (le := PySem.W.dataLe false Prod.snd) (fun a b c h1 h2 => T.trans a b c h1 h2) (fun a b => Bool.or_eq_true_iff.mpr (T.total a b)) ps)
  have h : (!PySem.W.dataLt b.2 a.2) = true := h
  rw [Bool.not_eq_true'] at h
  exact h
end
mutual
theorem like_flat : ∀ d : PyData, PySem.W.alike d d = true → d.hasDict = false
  | .none, _ => by simp only [PyData.hasDict]
  | .bool _, _ => by simp only [PyData.hasDict]
  | .int _, _ => by simp only [PyData.hasDict]
  | .str _, _ => by simp only [PyData.hasDict]
  | .list xs, h => by
    simp only [PyData.hasDict]
    exact like_flatA xs (by simpa only [PySem.W.alike] using h)
  | .tuple xs, h => by
    simp only [PyData.hasDict]
    exact like_flatA xs (by simpa only [PySem.W.alike] using h)
  | .dict _, h => by simp [PySem.W.alike] at h
theorem like_flatA : ∀ xs : List PyData, PySem.W.alikeAll xs xs = true → PyData.hasDictAll xs = false
  | [], _ => by simp only [PyData.hasDictAll]
  | x :: xs, h => by
    obtain ⟨a, b⟩ := PySem.W.alike_all_cons h
    simp only [PyData.hasDictAll, like_flat x a, like_flatA xs b, Bool.or_self]
end
section
variable {K : PySem.W.Frag} {F : Hp}
def pSortD (S : List PV) (x : PV) (Q : KP) : Prop := ∃ ds, asList (look S x) = some ds ∧ PySem.W.AllAlike ds ∧ PySem.W.Sortable ds ∧ (∀ d ∈ ds, d.depth ≤ 60) ∧ ∀ ys : List PyData, ys.Perm ds → ys.Pairwise (fun a b => PySem.W.dataLt b a = false) → Q (.l ys) S
theorem lva_zip : ∀ {ws : List V} {ds : List PyData}, LvA F ws ds → ∀ p ∈ ws.zip ds, Lv F p.1 p.2
  | [], _, _, p, m => by
    rw [List.zip_nil_left] at m
    cases m
  | w :: ws, _, h, p, m => by
    cases h with
    | cons h1 h2 =>
      rw [List.zip_cons_cons] at m
      rcases List.mem_cons.mp m with rfl | m
      · exact h1
      · exact lva_zip h2 p m
theorem lva_of : ∀ {qs : List (V × PyData)}, (∀ p ∈ qs, Lv F p.1 p.2) → LvA F (qs.map Prod.fst) (qs.map Prod.snd)
  | [], _ => .nil
  | q :: qs, h => .cons (h q (List.mem_cons_self ..)) (lva_of fun p m => h p (List.mem_cons_of_mem _ m))
theorem sim_sortD : Sim1 (rSortD K) pSortD := by
  intro F G H σ S v x Qp Q r hp k
  obtain ⟨f, rv⟩ := r.look0
  obtain ⟨ds, e1, al, so, dep, hp⟩ := hp
  obtain ⟨p, ws, rfl, g1, l1⟩ := rv.lst r.lf e1
  have e2 : (ws.zip ds).map Prod.fst = ws := List.map_fst_zip (by rw [l1.len]; exact Nat.le_refl _)
  have e3 : (ws.zip ds).map Prod.snd = ds := List.map_snd_zip (by rw [l1.len]; exact Nat.le_refl _)
  refine ⟨p, ws.zip ds, rfl, by rw [e2]; exact SqL.of g1, fun q m => lv_dp _ _ (like_flat _ (al _ (List.of_mem_zip m).2 _ (List.of_mem_zip m).2)) (Lv.sm r.lf _ _ (lva_zip l1 q m)), by rw [e3]; exact al, by rw [e3]; exact so, fun q m => dep _ (List.of_mem_zip m).2, fun qs d pm pw hd => ?_⟩
  have pm' := pm.map Prod.snd
  rw [e3] at pm'
  exact (k.lst r (lva_of fun q m => lva_zip l1 q (pm.mem_iff.mp m)) (hp (qs.map Prod.snd) pm' (List.pairwise_map.mpr pw))).at d hd
end
end Px

namespace Px
open PySem PySem.Spec PyProof.Rows L2 Fo TL
theorem flatTA_map {α : Type} {f : α → PyData} : ∀ {l : List α}, (∀ x ∈ l, flatT (f x) = true) → flatTA (l.map f) = true
  | [], _ => rfl
  | x :: l, h => by
    show (flatT (f x) && flatTA (l.map f)) = true
    rw [h x (List.mem_cons_self ..), flatTA_map fun y m => h y (List.mem_cons_of_mem _ m)]
    rfl
theorem flat_dN (w : Option Nat) : flatT (dN w) = true := by cases w <;> rfl
theorem flat_dO (w : Option Cs) : flatT (dO w) = true := by cases w <;> rfl
theorem flat_dLs (s : LSt) : flatT (dLs s) = true := by
  show (flatTA (s.ways.map dN) && (true && true)) = true
  rw [flatTA_map fun w _ => flat_dN w]
  rfl
theorem flat_dLot (l : Lot) : flatT (dLot l) = true := by
  show (true && (flatTA (l.states.map dLs) && true)) = true
  rw [flatTA_map fun s _ => flat_dLs s]
  rfl
/-! lists and tuples of scalars -/
def okD : PyData → Bool
  | .str x => PyData.strOk x
  | d => flatD d
theorem flat_shape : ∀ {ds : List PyData}, ds.all okD = true → PyData.canLayAll0 ds = true ∧ PyData.depthAll ds = 0
  | [], _ => ⟨by simp [PyData.canLayAll0], by simp [PyData.depthAll]⟩
  | d :: ds, h => by
    rw [List.all_cons, Bool.and_eq_true] at h
    obtain ⟨a, b⟩ := flat_shape h.2
    have k : PyData.canLay0 d = true ∧ PyData.depth d = 0 := by
      have h1 := h.1
      cases d with
      | none => exact ⟨by simp [PyData.canLay0], by simp [PyData.depth]⟩
      | bool _ => exact ⟨by simp [PyData.canLay0], by simp [PyData.depth]⟩
      | int _ => exact ⟨by simp [PyData.canLay0], by simp [PyData.depth]⟩
      | str _ => exact ⟨by simp only [PyData.canLay0]; exact h1, by simp [PyData.depth]⟩
      | tuple _ => cases h1
      | list _ => cases h1
      | dict _ => cases h1
    exact ⟨by simp only [PyData.canLayAll0, a, k.1, Bool.and_self], by simp only [PyData.depthAll, b, k.2, Nat.max_self]⟩
theorem list_shape {ds : List PyData} (h : ds.all okD = true) : SeqAt.shaped (.list ds) = true := by
  obtain ⟨a, b⟩ := flat_shape h
  unfold SeqAt.shaped
  simp only [PyData.canLay0, PyData.depth, a, b, Bool.true_and]
  decide
theorem tuple_shape {ds : List PyData} (h : ds.all okD = true) : SeqAt.shaped (.tuple ds) = true := by
  obtain ⟨a, b⟩ := flat_shape h
  unfold SeqAt.shaped
  simp only [PyData.canLay0, PyData.depth, a, b, Bool.true_and]
  decide
theorem eqv_nil (ds : List PyData) : PyData.eqv (.list ds) (.list []) = ds.isEmpty := by
  cases ds <;> simp [PyData.eqv, PyData.eqvAll]
theorem ok_text {t : Cs} (h : ∀ c ∈ t, c < 1114112) : okD (.str (tx t)) = true := by
  show t.toArray.all (· < 0x110000) = true
  rw [List.all_toArray, List.all_eq_true]
  intro c hc
  exact decide_eq_true (h c hc)
theorem text_shape {t : Cs} (h : ∀ c ∈ t, c < 1114112) : SeqAt.shaped (.str (tx t)) = true := by
  have k : PyData.strOk (tx t) = true := ok_text h
  unfold SeqAt.shaped
  simp [PyData.canLay0, PyData.depth, k]
theorem ok_map {α : Type} {f : α → PyData} (l : List α) (h : ∀ x ∈ l, okD (f x) = true) : (l.map f).all okD = true := by
  rw [List.all_eq_true]
  intro x hx
  obtain ⟨a, m, rfl⟩ := List.mem_map.mp hx
  exact h a m
theorem eqI {a b : Nat} : (false ^^ decide ((a : Int) = (b : Int))) = decide (a = b) := by
  by_cases h : a = b
  · subst h
    simp
  · have : ¬ (a : Int) = (b : Int) := by omega
    simp [h, this]
theorem eqv_selfA : ∀ {ds : List PyData}, ds.all okD = true → PyData.eqvAll ds ds = true
  | [], _ => by simp [PyData.eqvAll]
  | d :: ds, h => by
    rw [List.all_cons, Bool.and_eq_true] at h
    have k : PyData.eqv d d = true := by
      have h1 := h.1
      cases d with
      | none => simp [PyData.eqv]
      | bool _ => simp [PyData.eqv]
      | int _ => simp [PyData.eqv]
      | str _ => simp [PyData.eqv]
      | tuple _ => cases h1
      | list _ => cases h1
      | dict _ => cases h1
    simp only [PyData.eqvAll, k, eqv_selfA h.2, Bool.and_self]
theorem eqv_self {ds : List PyData} (h : ds.all okD = true) : PyData.eqv (.list ds) (.list ds) = true := by
  have := eqv_selfA h
  simpa [PyData.eqv] using this
theorem truths_map {α : Type} (f : α → Bool) : ∀ (l : List α), truthsOf (l.map fun x => PyData.bool (f x)) = some (l.map f)
  | [] => rfl
  | x :: l => by
    have h := truths_map f l
    show (match truthsOf (l.map fun x => PyData.bool (f x)) with | some l => some (f x :: l) | none => none) = _
    rw [h]
    rfl
theorem texts_mapN {α : Type} (f : α → Str) : ∀ (l : List α), textsOf (l.map fun x => PyData.str (f x)) = some (l.map f)
  | [] => rfl
  | x :: l => by
    have h := texts_mapN f l
    show (match textsOf (l.map fun x => PyData.str (f x)) with | some l => some (f x :: l) | none => none) = _
    rw [h]
    rfl
theorem flat_ones (u : Cs) : (u.map fun c => [c]).flatten = u := by
  induction u with
  | nil => rfl
  | cons c u ih => rw [List.map_cons, List.flatten_cons, ih]; rfl
theorem ints_mapN {α : Type} (f : α → Int) : ∀ (l : List α), intsOf (l.map fun x => PyData.int (f x)) = some (l.map f)
  | [] => rfl
  | x :: l => by
    have h := ints_mapN f l
    show (match intsOf (l.map fun x => PyData.int (f x)) with | some l => some (f x :: l) | none => none) = _
    rw [h]
    rfl
theorem deep_shape {n : Nat} : ∀ {ds : List PyData}, (∀ d ∈ ds, d.canLay0 = true ∧ d.depth ≤ n) → PyData.canLayAll0 ds = true ∧ PyData.depthAll ds ≤ n
  | [], _ => ⟨by simp [PyData.canLayAll0], by simp [PyData.depthAll]⟩
  | d :: ds, h => by
    obtain ⟨a, b⟩ := deep_shape fun x m => h x (List.mem_cons_of_mem _ m)
    obtain ⟨c, e⟩ := h d (List.mem_cons_self ..)
    exact ⟨by simp only [PyData.canLayAll0, a, c, Bool.and_self], by simp only [PyData.depthAll]; omega⟩
theorem tup_lay {ds : List PyData} (h : ds.all okD = true) : (PyData.tuple ds).canLay0 = true ∧ (PyData.tuple ds).depth ≤ 1 := by
  obtain ⟨a, b⟩ := flat_shape h
  exact ⟨by simp only [PyData.canLay0, a], by simp only [PyData.depth, b]; omega⟩
theorem shape_of {d : PyData} {n : Nat} (h : d.canLay0 = true ∧ d.depth ≤ n) (hn : n ≤ 64) : SeqAt.shaped d = true := by
  unfold SeqAt.shaped
  rw [h.1, decide_eq_true (show d.depth ≤ 64 by omega)]
  rfl
theorem list_lay {ds : List PyData} {n : Nat} (h : ∀ d ∈ ds, d.canLay0 = true ∧ d.depth ≤ n) : (PyData.list ds).canLay0 = true ∧ (PyData.list ds).depth ≤ n + 1 := by
  obtain ⟨a, b⟩ := deep_shape h
  exact ⟨by simp only [PyData.canLay0, a], by simp only [PyData.depth]; omega⟩
theorem way_shape {L : List (Nat × Cs)} (h : ∀ w ∈ L, ∀ c ∈ w.2, c < 1114112) : SeqAt.shaped (.list (L.map dW)) = true := by
  refine shape_of (list_lay (n := 1) fun d m => ?_) (by decide)
  obtain ⟨w, hw, rfl⟩ := List.mem_map.mp m
  refine tup_lay (ds := [.int w.1, .str (tx w.2)]) ?_
  show (true && (okD (.str (tx w.2)) && true)) = true
  rw [ok_text (h w hw)]
  rfl
def dPr (p : Nat × Nat) : PyData := .tuple [.int (p.1 : Nat), .int (p.2 : Nat)]
theorem pr_lay (p : Nat × Nat) : (dPr p).canLay0 = true ∧ (dPr p).depth ≤ 1 := tup_lay (ds := [.int (p.1 : Nat), .int (p.2 : Nat)]) rfl
theorem prs_shape (L : List (Nat × Nat)) : SeqAt.shaped (.list (L.map dPr)) = true := shape_of (list_lay (n := 1) fun d m => by
  obtain ⟨p, _, rfl⟩ := List.mem_map.mp m
  exact pr_lay p) (by decide)
theorem eqv_pr (p q : Nat × Nat) : PyData.eqv (dPr q) (dPr p) = decide (q = p) := by
  show PyData.eqv (.tuple [.int _, .int _]) (.tuple [.int _, .int _]) = _
  simp only [PyData.eqv, PyData.eqvAll]
  rw [Bool.eq_iff_iff]
  simp only [Bool.and_eq_true, Bool.and_true, beq_iff_eq, decide_eq_true_eq]
  constructor
  · rintro ⟨h1, h2⟩
    exact Prod.ext (by omega) (by omega)
  · rintro rfl
    exact ⟨rfl, rfl⟩
theorem in_prs (p : Nat × Nat) (L : List (Nat × Nat)) : inD (dPr p) (L.map dPr) = decide (p ∈ L) := by
  unfold inD
  rw [Bool.eq_iff_iff, List.any_eq_true, decide_eq_true_eq]
  constructor
  · rintro ⟨d, m, e⟩
    obtain ⟨q, hq, rfl⟩ := List.mem_map.mp m
    rw [eqv_pr, decide_eq_true_eq] at e
    exact e ▸ hq
  · exact fun m => ⟨_, List.mem_map.mpr ⟨p, m, rfl⟩, by rw [eqv_pr]; exact decide_eq_true rfl⟩
theorem in_nums (s : Nat) (L : List Nat) : inD (.int (s : Nat)) (L.map fun k : Nat => .int (k : Nat)) = decide (s ∈ L) := by
  unfold inD
  rw [Bool.eq_iff_iff, List.any_eq_true, decide_eq_true_eq]
  constructor
  · rintro ⟨d, m, e⟩
    obtain ⟨q, hq, rfl⟩ := List.mem_map.mp m
    have e : decide ((q : Int) = (s : Int)) = true := e
    have := of_decide_eq_true e
    have : q = s := by omega
    exact this ▸ hq
  · exact fun m => ⟨_, List.mem_map.mpr ⟨s, m, rfl⟩, by show decide ((s : Int) = (s : Int)) = true; exact decide_eq_true rfl⟩
/-- pairs of a number and a text -/
theorem lt_pair (a b : Int) (t u : Cs) : PySem.W.dataLt (.tuple [.int a, .str (tx t)]) (.tuple [.int b, .str (tx u)]) = decide (a < b ∨ (a = b ∧ t < u)) := by
  rw [PySem.W.dataLt_pair (by simp [PySem.W.alike]) (by simp [PySem.W.alike]), PySem.W.dataLt_int, PySem.W.dataLt_str]
  simp only [PyData.eqv, beq_iff_eq]
  by_cases h1 : a = b
  · subst h1
    rw [if_pos rfl]
    by_cases h2 : tx t = tx u
    · have h2 := tx_inj h2
      subst h2
      rw [if_pos rfl]
      have : ¬ t < t := List.lt_irrefl t
      simp [this]
    · rw [if_neg h2]
      show decide (t < u) = _
      have : ¬ a < a := Int.lt_irrefl a
      simp [this]
  · rw [if_neg h1]
    simp [h1]
end Px

namespace Px
open PySem PySem.Spec PyProof.Rows L2 Fo TL
section
variable {P : Program} {w : World} {K : PySem.W.Frag} {mg : Str → Option Value} {base : Heap}
/-- a law by its body, asked where nothing is being shown -/
theorem okG {x qual : Str} {st : Stmt} {f : Addr} {fd : FuncData} {N ps : List Str} {k : Nat} {c : Ct} (F : Fun K x qual st f fd) (S : FnScope N ps (defScope st)) (mask : List Bool) (hm : mask.length = ps.length) (hN : mask.length ≤ N.length) (len : ∀ as Q, c as Q → as.length = ps.length)
    (body : ∀ (cdv : Value) (A : Around) (outer : List Env) (s : Shared) (H : Hp) (E : XK), A.guards = some [] → Room k (A.deeper (envOfC qual (defScope st) s.heap.objs.size f cdv)) →
      ∃ t : TXS, PSs (cxOf CX0 P w K mg base N qual (defScope st) f cdv A outer s H E).nox (defBody st) (rwS (kpM mask) t) ∧ ∀ as Qc, c as Qc → force (as ++ List.replicate (N.length - mask.length) .un) (t (dnC mask Qc))) :
    FnG P w K mg base CX0 (k + 1) f fd ps (spP c) := by
  refine fnG F S (fun vs H Q E h => spP_len len h) (fun cdv A outer s H vs Q E hg hr h => ?_)
  obtain ⟨t, ht, hb⟩ := body cdv A outer s H E hg hr
  exact ⟨_, ht, enter h ((spP_len len h).trans hm.symm) hN fun as Qc hc _ => unforce (hb as Qc hc)⟩
theorem fnG_imp {f : Addr} {fd : FuncData} {ps : List Str} {k : Nat} {sp sp' : Sp} (h : FnG P w K mg base CX0 k f fd ps sp) (i : ∀ vs H Q E, sp' vs H Q E → sp vs H Q E) : FnG P w K mg base CX0 k f fd ps sp' :=
  ⟨fun vs H Q E q => h.len vs H Q E (i _ _ _ _ q), fun A hg outer s H args us vs Q E hr en hb r q => h.run A hg outer s H args us vs Q E hr en hb r (i _ _ _ _ q)⟩
/-- what a law is asked: a script, and it is to say True -/
def c_law (K : PySem.W.Frag) : Ct := fun as Q => ∃ ns : List Int, as = [.o (AScr K ns)] ∧ ns.length ≤ 63 ∧ ∀ as', Q (.d (.bool true)) as'
def sp_law (K : PySem.W.Frag) : Sp := fun vs H Q _ => ∃ (a : Addr) (ns : List Int), vs = [.ref a] ∧ SqL K H a (ns.map V.int) ∧ ns.length ≤ 63 ∧ ∀ H', Q (.bl true) H'
theorem c_law_len {as : List PV} {Q : KP} (h : c_law K as Q) : as.length = 1 := by
  obtain ⟨ns, rfl, _⟩ := h
  rfl
theorem law_in {vs : List V} {H : Hp} {Q : VK} {E : XK} (h : sp_law K vs H Q E) : spP (c_law K) vs H Q E := by
  obtain ⟨a, ns, rfl, hs, few, q⟩ := h
  refine ⟨H, fun _ => none, [.o (AScr K ns)], fun r _ => r = .d (.bool true), ⟨[], [], ?_⟩, ⟨ns, rfl, few, fun _ => rfl⟩, fun v r as' F' H' hr _ e => ?_⟩
  · exact ⟨Same.refl _, (fun a o e => nomatch e), .nil, RVs.cons (f := []) (.o ⟨a, rfl, rfl, hs⟩) .nil, .nil, (fun _ m => nomatch m), (fun a o e => nomatch e)⟩
  · subst e
    cases hr.dat
    exact q _
theorem law_of {f : Addr} {fd : FuncData} {k : Nat} (h : FnG P w K mg base CX0 k f fd ["script"] (spP (c_law K))) : FnG P w K mg base CX0 k f fd ["script"] (sp_law K) := fnG_imp h fun _ _ _ _ => law_in
end
end Px

namespace Fo
open PySem PySem.Spec PyProof.Rows L2
theorem short_nat : ∀ (n : Nat) (l : List Nat), l.Nodup → (∀ x ∈ l, x < n) → l.length ≤ n
  | 0, l, _, h => by
    cases l with
    | nil => exact Nat.le_refl _
    | cons a r => exact absurd (h a (List.mem_cons_self ..)) (Nat.not_lt_zero a)
  | n + 1, l, d, h => by
    have ih := short_nat n (l.erase n) (d.erase n) fun x hx => by
      have z := (List.Nodup.mem_erase_iff d).mp hx
      have := h x z.2
      have := z.1
      omega
    by_cases c : n ∈ l
    · have := List.length_erase_of_mem c
      omega
    · rw [List.erase_of_not_mem c] at ih
      omega
/-- seats by one number -/
def seatNo : List Nat → Nat
  | [] => 0
  | s :: ss => s + 3 * seatNo ss
/-! ### shorter ones ahead, equally long ones as they stand -/
def Ah (a b : Cs) : Prop := a.length < b.length ∨ (a.length = b.length ∧ a < b)
theorem lt_back : ∀ {a b : Cs}, a < b → a.length = b.length → ∀ c d : Nat, a ++ [c] < b ++ [d]
  | [], [], h, _, _, _ => absurd h (List.not_lt_nil _)
  | [], _ :: _, _, e, _, _ => by simp at e
  | _ :: _, [], _, e, _, _ => by simp at e
  | x :: a, y :: b, h, e, c, d => by
    show x :: (a ++ [c]) < y :: (b ++ [d])
    rw [List.cons_lt_cons_iff] at h ⊢
    rcases h with h | ⟨h1, h2⟩
    · exact .inl h
    · exact .inr ⟨h1, lt_back h2 (by simpa using e) c d⟩
theorem lt_end {c d : Nat} (h : c < d) : ∀ a : Cs, a ++ [c] < a ++ [d]
  | [] => by
    show [c] < [d]
    rw [List.cons_lt_cons_iff]
    exact .inl h
  | x :: a => by
    show x :: (a ++ [c]) < x :: (a ++ [d])
    rw [List.cons_lt_cons_iff]
    exact .inr ⟨rfl, lt_end h a⟩
theorem lt_thru : ∀ {a b c : Cs}, a < b → b < c → a.length = b.length → b.length = c.length → a < c
  | [], [], _, h, _, _, _ => absurd h (List.not_lt_nil _)
  | [], _ :: _, _, _, _, e, _ => by simp at e
  | _ :: _, [], _, _, _, e, _ => by simp at e
  | _ :: _, _ :: _, [], _, _, _, e => by simp at e
  | x :: a, y :: b, z :: c, h, g, e, f => by
    rw [List.cons_lt_cons_iff] at h g ⊢
    rcases h with h | ⟨rfl, h⟩
    · rcases g with g | ⟨rfl, g⟩
      · exact .inl (Nat.lt_trans h g)
      · exact .inl h
    · rcases g with g | ⟨rfl, g⟩
      · exact .inl g
      · exact .inr ⟨rfl, lt_thru h g (by simpa using e) (by simpa using f)⟩
theorem lt_self : ∀ a : Cs, ¬ a < a
  | [], h => List.not_lt_nil _ h
  | x :: a, h => by
    rw [List.cons_lt_cons_iff] at h
    rcases h with h | ⟨_, h⟩
    · exact Nat.lt_irrefl _ h
    · exact lt_self a h
theorem lt_any : ∀ {a b : Cs}, a.length = b.length → a < b ∨ a = b ∨ b < a
  | [], [], _ => .inr (.inl rfl)
  | [], _ :: _, e => by simp at e
  | _ :: _, [], e => by simp at e
  | x :: a, y :: b, e => by
    rw [List.cons_lt_cons_iff, List.cons_lt_cons_iff]
    rcases Nat.lt_trichotomy x y with h | rfl | h
    · exact .inl (.inl h)
    · rcases lt_any (a := a) (b := b) (by simpa using e) with h | rfl | h
      · exact .inl (.inr ⟨rfl, h⟩)
      · exact .inr (.inl rfl)
      · exact .inr (.inr (.inr ⟨rfl, h⟩))
    · exact .inr (.inr (.inl h))
theorem Ah.trans {a b c : Cs} (h : Ah a b) (g : Ah b c) : Ah a c := by
  rcases h with h | ⟨h, h2⟩
  · rcases g with g | ⟨g, _⟩
    · exact .inl (Nat.lt_trans h g)
    · exact .inl (g ▸ h)
  · rcases g with g | ⟨g, g2⟩
    · exact .inl (h ▸ g)
    · exact .inr ⟨h.trans g, lt_thru h2 g2 h g⟩
theorem Ah.irr {a : Cs} (h : Ah a a) : False := by
  rcases h with h | ⟨_, h⟩
  · exact Nat.lt_irrefl _ h
  · exact lt_self a h
theorem Ah.any (a b : Cs) : Ah a b ∨ a = b ∨ Ah b a := by
  rcases Nat.lt_trichotomy a.length b.length with h | h | h
  · exact .inl (.inl h)
  · rcases lt_any h with g | g | g
    · exact .inl (.inr ⟨h, g⟩)
    · exact .inr (.inl g)
    · exact .inr (.inr (.inr ⟨h.symm, g⟩))
  · exact .inr (.inr (.inl h))
theorem Ah.pre (a : Cs) (c : Nat) : Ah a (a ++ [c]) := .inl (by rw [List.length_append]; exact Nat.lt_succ_self _)
theorem Ah.back {a b : Cs} (h : Ah a b) (c d : Nat) : Ah (a ++ [c]) (b ++ [d]) := by
  rcases h with h | ⟨h, g⟩
  · exact .inl (by rw [List.length_append, List.length_append]; exact Nat.add_lt_add_right h 1)
  · exact .inr ⟨by rw [List.length_append, List.length_append, h]; rfl, lt_back g h c d⟩
theorem Ah.end {c d : Nat} (h : c < d) (a : Cs) : Ah (a ++ [c]) (a ++ [d]) := .inr ⟨by rw [List.length_append, List.length_append]; rfl, lt_end h a⟩
/-- as much, or ahead -/
def Ae (a b : Cs) : Prop := a = b ∨ Ah a b
theorem Ae.back {a b : Cs} (h : Ae a b) (c : Nat) : Ae (a ++ [c]) (b ++ [c]) := by
  rcases h with rfl | h
  · exact .inl rfl
  · exact .inr (h.back c c)
theorem Ae.trans {a b c : Cs} (h : Ae a b) (g : Ae b c) : Ae a c := by
  rcases h with rfl | h
  · exact g
  · rcases g with rfl | g
    · exact .inr h
    · exact .inr (h.trans g)
theorem Ae.thru {a b c : Cs} (h : Ae a b) (g : Ah b c) : Ah a c := by
  rcases h with rfl | h
  · exact g
  · exact h.trans g
/-- the first word -/
def Lot.First (l : Lot) : Option Cs → Prop
  | none => ∀ u, l.word u = false
  | some t => l.word t = true ∧ ∀ u, l.word u = true → Ae t u
theorem Lot.First.one {l : Lot} {r q : Option Cs} (h : l.First r) (g : l.First q) : r = q := by
  cases r with
  | none =>
    cases q with
    | none => rfl
    | some u => exact absurd ((h u).symm.trans g.1) Bool.false_ne_true
  | some t =>
    cases q with
    | none => exact absurd ((g t).symm.trans h.1) Bool.false_ne_true
    | some u =>
      rcases h.2 u g.1 with rfl | a
      · rfl
      · rcases g.2 t h.1 with rfl | b
        · rfl
        · exact absurd (a.trans b) Ah.irr
/-- texts come to as they are sorted: the ones ahead of k are gone on with, and the one at k by j signs -/
structure Bf (l : Lot) (C : List Nat) (T : List Cs) (k j : Nat) : Prop where
  len : T.length = C.length
  nd : C.Nodup
  lt : ∀ n ∈ C, n < l.states.length
  on : ∀ (i n : Nat) (t : Cs), C[i]? = some n → T[i]? = some t → l.on (some 0) t = some n
  up : ∀ (i m : Nat) (s t : Cs), i < m → T[i]? = some s → T[m]? = some t → Ah s t
  zero : C[0]? = some 0 ∧ T[0]? = some []
  few : ∀ (i : Nat) (t : Cs), T[i]? = some t → t.length ≤ i
  done : ∀ (i n : Nat) (t : Cs) (c m : Nat), (i < k ∨ i = k ∧ c ∈ l.signs.take j) → C[i]? = some n → T[i]? = some t → l.step (some n) c = some m → ∃ (q : Nat) (u : Cs), C[q]? = some m ∧ T[q]? = some u ∧ Ae u (t ++ [c])
  far : ∀ t, T[k]? = some t → ∀ (i : Nat) (u : Cs), T[i]? = some u → (∀ c ∈ l.signs.drop j, Ah u (t ++ [c])) ∧ ∃ c, Ae u (t ++ [c])
  bad : ∀ i n, i < k → C[i]? = some n → (l.sta n).good = false
theorem get_snoc {α : Type} {L : List α} {x y : α} {i : Nat} (h : (L ++ [x])[i]? = some y) : (i < L.length ∧ L[i]? = some y) ∨ (i = L.length ∧ y = x) := by
  by_cases hi : i < L.length
  · rw [List.getElem?_append_left hi] at h
    exact .inl ⟨hi, h⟩
  · have hl := (List.getElem?_eq_some_iff.mp h).1
    rw [List.length_append, List.length_singleton] at hl
    have e : i = L.length := by omega
    subst e
    rw [List.getElem?_append_right (Nat.le_refl _), Nat.sub_self] at h
    exact .inr ⟨rfl, by simpa using h.symm⟩
theorem get_left {α : Type} {L : List α} {x y : α} {i : Nat} (h : L[i]? = some y) : (L ++ [x])[i]? = some y := by
  rw [List.getElem?_append_left (List.getElem?_eq_some_iff.mp h).1]
  exact h
theorem Bf.first {l : Lot} (o : l.Ok) : Bf l [0] [[]] 0 0 where
  len := rfl
  nd := by simp
  lt := fun n h => by rw [List.mem_singleton.mp h]; exact o.ne
  on := fun i n t h g => by
    cases i with
    | zero =>
      cases h
      cases g
      rfl
    | succ i => simp at h
  up := fun i m s t h _ g => by
    cases m with
    | zero => omega
    | succ m => simp at g
  zero := ⟨rfl, rfl⟩
  few := fun i t h => by
    cases i with
    | zero =>
      cases h
      exact Nat.le_refl _
    | succ i => simp at h
  done := fun i n t c m h => by
    rcases h with h | ⟨_, h⟩
    · omega
    · simp at h
  far := fun t h i u g => by
    have e : t = [] := by simpa using h.symm
    subst e
    cases i with
    | zero =>
      cases g
      exact ⟨fun c _ => Ah.pre [] c, 0, .inr (Ah.pre [] 0)⟩
    | succ i => simp at g
  bad := fun i n h => by omega
section
variable {l : Lot} {C : List Nat} {T : List Cs} {k j n c : Nat} {t : Cs}
theorem mem_take_succ {L : List Nat} {j c x : Nat} (hc : L[j]? = some c) (h : x ∈ L.take (j + 1)) : x ∈ L.take j ∨ x = c := by
  rw [take_snoc hc] at h
  rcases List.mem_append.mp h with h | h
  · exact .inl h
  · exact .inr (List.mem_singleton.mp h)
theorem drop_mem {L : List Nat} {j c : Nat} (hc : L[j]? = some c) : c ∈ L.drop j := by
  have e : (L.drop j)[0]? = some c := by rw [List.getElem?_drop]; exact hc
  exact List.mem_of_getElem? e
theorem drop_less {L : List Nat} {j x : Nat} (h : x ∈ L.drop (j + 1)) : x ∈ L.drop j := by
  rw [← List.drop_drop] at h
  exact List.mem_of_mem_drop h
theorem Bf.skip (B : Bf l C T k j) (hn : C[k]? = some n) (hc : l.signs[j]? = some c) (hs : l.step (some n) c = none) : Bf l C T k (j + 1) where
  len := B.len
  nd := B.nd
  lt := B.lt
  on := B.on
  up := B.up
  zero := B.zero
  few := B.few
  done := fun i n' t' c' m h h1 h2 h3 => by
    rcases h with h | ⟨rfl, h⟩
    · exact B.done i n' t' c' m (.inl h) h1 h2 h3
    · rcases mem_take_succ hc h with h | rfl
      · exact B.done i n' t' c' m (.inr ⟨rfl, h⟩) h1 h2 h3
      · rw [hn] at h1
        cases h1
        rw [hs] at h3
        cases h3
  far := fun t' h i u g => ⟨fun c' hc' => (B.far t' h i u g).1 c' (drop_less hc'), (B.far t' h i u g).2⟩
  bad := B.bad
theorem Bf.there {m : Nat} (B : Bf l C T k j) (hn : C[k]? = some n) (hc : l.signs[j]? = some c) (hs : l.step (some n) c = some m) (hm : m ∈ C) : Bf l C T k (j + 1) where
  len := B.len
  nd := B.nd
  lt := B.lt
  on := B.on
  up := B.up
  zero := B.zero
  few := B.few
  done := fun i n' t' c' m' h h1 h2 h3 => by
    rcases h with h | ⟨rfl, h⟩
    · exact B.done i n' t' c' m' (.inl h) h1 h2 h3
    · rcases mem_take_succ hc h with h | rfl
      · exact B.done i n' t' c' m' (.inr ⟨rfl, h⟩) h1 h2 h3
      · rw [hn] at h1
        cases h1
        rw [hs] at h3
        cases h3
        obtain ⟨q, hq⟩ := List.mem_iff_getElem?.mp hm
        have ql := (List.getElem?_eq_some_iff.mp hq).1
        have hu : T[q]? = some (T[q]'(by rw [B.len]; exact ql)) := List.getElem?_eq_getElem _
        exact ⟨q, _, hq, hu, .inr ((B.far t' h2 q _ hu).1 c' (drop_mem hc))⟩
  far := fun t' h i u g => ⟨fun c' hc' => (B.far t' h i u g).1 c' (drop_less hc'), (B.far t' h i u g).2⟩
  bad := B.bad
theorem Bf.new {m : Nat} (B : Bf l C T k j) (sorted : l.signs.Pairwise (· < ·)) (hn : C[k]? = some n) (ht : T[k]? = some t) (hc : l.signs[j]? = some c) (hs : l.step (some n) c = some m) (hm : m ∉ C) (hml : m < l.states.length) : Bf l (C ++ [m]) (T ++ [t ++ [c]]) k (j + 1) := by
  have kl := (List.getElem?_eq_some_iff.mp ht).1
  have kc : k < C.length := (List.getElem?_eq_some_iff.mp hn).1
  have ht' : (T ++ [t ++ [c]])[k]? = some t := get_left ht
  refine ⟨by rw [List.length_append, List.length_append, B.len]; rfl, ?_, ?_, ?_, ?_, ⟨get_left B.zero.1, get_left B.zero.2⟩, ?_, ?_, ?_, ?_⟩
  · rw [List.nodup_append]
    refine ⟨B.nd, by simp, fun x hx y hy e => hm ?_⟩
    rw [List.mem_singleton.mp hy] at e
    exact e ▸ hx
  · intro x hx
    rcases List.mem_append.mp hx with h | h
    · exact B.lt x h
    · rw [List.mem_singleton.mp h]; exact hml
  · intro i n' t' h g
    rcases get_snoc h with ⟨hi, h⟩ | ⟨rfl, rfl⟩
    · rcases get_snoc g with ⟨_, g⟩ | ⟨e, _⟩
      · exact B.on i n' t' h g
      · rw [B.len] at e
        omega
    · rcases get_snoc g with ⟨e, _⟩ | ⟨_, rfl⟩
      · rw [B.len] at e
        omega
      · rw [Lot.on_snoc, B.on k n t hn ht]
        exact hs
  · intro i q s t' hi h g
    rcases get_snoc g with ⟨_, g⟩ | ⟨rfl, rfl⟩
    · rcases get_snoc h with ⟨_, h⟩ | ⟨e, _⟩
      · exact B.up i q s t' hi h g
      · omega
    · rcases get_snoc h with ⟨_, h⟩ | ⟨e, _⟩
      · exact (B.far t ht i s h).1 c (drop_mem hc)
      · omega
  · intro i t' h
    rcases get_snoc h with ⟨_, h⟩ | ⟨rfl, rfl⟩
    · exact B.few i t' h
    · have := B.few k t ht
      rw [List.length_append, List.length_singleton]
      omega
  · intro i n' t' c' m' h h1 h2 h3
    have old : ∀ (n' : Nat) (t' : Cs), (i < k ∨ i = k) → (C ++ [m])[i]? = some n' → (T ++ [t ++ [c]])[i]? = some t' → C[i]? = some n' ∧ T[i]? = some t' := fun n' t' hik h1 h2 => by
      refine ⟨?_, ?_⟩
      · rcases get_snoc h1 with ⟨_, z⟩ | ⟨e, _⟩
        · exact z
        · omega
      · rcases get_snoc h2 with ⟨_, z⟩ | ⟨e, _⟩
        · exact z
        · omega
    rcases h with h | ⟨rfl, h⟩
    · obtain ⟨a, b⟩ := old n' t' (.inl h) h1 h2
      obtain ⟨q, u, x, y, z⟩ := B.done i n' t' c' m' (.inl h) a b h3
      exact ⟨q, u, get_left x, get_left y, z⟩
    · obtain ⟨a, b⟩ := old n' t' (.inr rfl) h1 h2
      rcases mem_take_succ hc h with h | rfl
      · obtain ⟨q, u, x, y, z⟩ := B.done i n' t' c' m' (.inr ⟨rfl, h⟩) a b h3
        exact ⟨q, u, get_left x, get_left y, z⟩
      · rw [hn] at a
        rw [ht] at b
        cases a
        cases b
        rw [hs] at h3
        cases h3
        refine ⟨C.length, _, ?_, ?_, .inl rfl⟩
        · rw [List.getElem?_append_right (Nat.le_refl _), Nat.sub_self]
          rfl
        · rw [← B.len, List.getElem?_append_right (Nat.le_refl _), Nat.sub_self]
          rfl
  · intro t' h i u g
    rw [ht'] at h
    cases h
    rcases get_snoc g with ⟨_, g⟩ | ⟨_, rfl⟩
    · exact ⟨fun c' hc' => (B.far t ht i u g).1 c' (drop_less hc'), (B.far t ht i u g).2⟩
    · refine ⟨fun c' hc' => Ah.end ?_ t, c, .inl rfl⟩
      have e : l.signs.drop j = c :: l.signs.drop (j + 1) := by
        obtain ⟨hj, ej⟩ := List.getElem?_eq_some_iff.mp hc
        rw [List.drop_eq_getElem_cons hj, ej]
      have s := List.Pairwise.sublist (List.drop_sublist j l.signs) sorted
      rw [e] at s
      exact (List.pairwise_cons.mp s).1 c' hc'
  · intro i n' h g
    rcases get_snoc g with ⟨_, g⟩ | ⟨e, _⟩
    · exact B.bad i n' h g
    · omega
theorem Bf.next (B : Bf l C T k l.signs.length) (hn : C[k]? = some n) (ht : T[k]? = some t) (hb : (l.sta n).good = false) : Bf l C T (k + 1) 0 where
  len := B.len
  nd := B.nd
  lt := B.lt
  on := B.on
  up := B.up
  zero := B.zero
  few := B.few
  done := fun i n' t' c' m h h1 h2 h3 => by
    rcases h with h | ⟨_, h⟩
    · rcases Nat.lt_or_ge i k with h | h4
      · exact B.done i n' t' c' m (.inl h) h1 h2 h3
      · have e : i = k := by omega
        have hc : c' ∈ l.signs := by
          rcases Classical.em (c' ∈ l.signs) with q | q
          · exact q
          · have e : l.step (some n') c' = none := if_neg q
            rw [e] at h3
            cases h3
        exact B.done i n' t' c' m (.inr ⟨e, by rw [List.take_length]; exact hc⟩) h1 h2 h3
    · simp at h
  far := fun t' h i u g => by
    have a := B.up k (k + 1) t t' (Nat.lt_succ_self k) ht h
    obtain ⟨c', hc'⟩ := (B.far t ht i u g).2
    have z : ∀ d, Ah u (t' ++ [d]) := fun d => hc'.thru (a.back c' d)
    exact ⟨fun d _ => z d, 0, .inr (z 0)⟩
  bad := fun i n' h g => by
    rcases Nat.lt_or_ge i k with h1 | h1
    · exact B.bad i n' h1 g
    · have e : i = k := by omega
      subst e
      rw [hn] at g
      cases g
      exact hb
theorem Bf.good (B : Bf l C T k 0) (hn : C[k]? = some n) (ht : T[k]? = some t) (hg : (l.sta n).good = true) : l.First (some t) := by
  have near : ∀ (z : Nat) (u : Cs), u.length = z → Ah u t → ∀ m, l.on (some 0) u = some m → ∃ (i : Nat) (v : Cs), i < k ∧ C[i]? = some m ∧ T[i]? = some v ∧ Ae v u := by
    have kk : ∀ (i : Nat) (v : Cs), T[i]? = some v → Ah v t → i < k := fun i v hv a => by
      rcases Nat.lt_trichotomy i k with h | rfl | h
      · exact h
      · rw [ht] at hv
        cases hv
        exact absurd a Ah.irr
      · exact absurd (a.trans (B.up k i t v h ht hv)) Ah.irr
    intro z
    induction z with
    | zero =>
      intro u hu a m e
      have e0 : u = [] := List.length_eq_zero_iff.mp hu
      subst e0
      cases e
      exact ⟨0, [], kk 0 [] B.zero.2 a, B.zero.1, B.zero.2, .inl rfl⟩
    | succ z ih =>
      intro u hu a m e
      rcases List.eq_nil_or_concat u with rfl | ⟨u', c', rfl⟩
      · simp at hu
      · rw [List.concat_eq_append] at hu a e ⊢
        rw [Lot.on_snoc] at e
        cases e1 : l.on (some 0) u' with
        | none =>
          rw [e1] at e
          cases e
        | some m' =>
          rw [e1] at e
          obtain ⟨i, v, hi, h1, h2, h3⟩ := ih u' (by simpa using hu) ((Ah.pre u' c').trans a) m' e1
          obtain ⟨q, w, x, y, f⟩ := B.done i m' v c' m (.inl hi) h1 h2 e
          have g := f.trans (h3.back c')
          exact ⟨q, w, kk q w y (g.thru a), x, y, g⟩
  have on := B.on k n t hn ht
  refine ⟨?_, fun u hu => ?_⟩
  · unfold Lot.word
    rw [on]
    exact hg
  · rcases Ah.any t u with h | h | h
    · exact .inr h
    · exact .inl h
    · unfold Lot.word at hu
      cases e : l.on (some 0) u with
      | none =>
        rw [e] at hu
        cases hu
      | some m =>
        rw [e] at hu
        obtain ⟨i, v, hi, h1, _⟩ := near _ u rfl h m e
        have := B.bad i m hi h1
        exact absurd (this.symm.trans hu) Bool.false_ne_true
theorem Bf.none (B : Bf l C T C.length 0) : l.First none := by
  have near : ∀ (z : Nat) (u : Cs), u.length = z → ∀ m, l.on (some 0) u = some m → ∃ i : Nat, C[i]? = some m := by
    intro z
    induction z with
    | zero =>
      intro u hu m e
      have e0 : u = [] := List.length_eq_zero_iff.mp hu
      subst e0
      cases e
      exact ⟨0, B.zero.1⟩
    | succ z ih =>
      intro u hu m e
      rcases List.eq_nil_or_concat u with rfl | ⟨u', c', rfl⟩
      · simp at hu
      · rw [List.concat_eq_append] at hu e
        rw [Lot.on_snoc] at e
        cases e1 : l.on (some 0) u' with
        | none =>
          rw [e1] at e
          cases e
        | some m' =>
          rw [e1] at e
          obtain ⟨i, h1⟩ := ih u' (by simpa using hu) m' e1
          have il := (List.getElem?_eq_some_iff.mp h1).1
          have h2 : T[i]? = some (T[i]'(by rw [B.len]; exact il)) := List.getElem?_eq_getElem _
          obtain ⟨q, w, x, _⟩ := B.done i m' _ c' m (.inl il) h1 h2 e
          exact ⟨q, x⟩
  intro u
  unfold Lot.word
  cases e : l.on (some 0) u with
  | none => rfl
  | some m =>
    obtain ⟨i, h⟩ := near _ u rfl m e
    exact B.bad i m (List.getElem?_eq_some_iff.mp h).1 h
theorem Bf.short (B : Bf l C T k j) : C.length ≤ l.states.length := short_nat _ C B.nd B.lt
end
/-! ### whole numbers in a list -/
theorem in_nats (x : Nat) : ∀ C : List Nat, inV (.int (x : Int)) (C.map fun n : Nat => V.int (n : Int)) = decide (x ∈ C)
  | [] => by simp [inV]
  | c :: C => by
    have ih := in_nats x C
    show (eqV (.int (c : Int)) (.int (x : Int)) || inV (.int (x : Int)) (C.map fun n : Nat => V.int (n : Int))) = _
    rw [ih]
    by_cases h : c = x
    · subst h
      simp [eqV]
    · have e : eqV (.int (c : Int)) (.int (x : Int)) = false := by
        show ((c : Int) == (x : Int)) = false
        exact beq_eq_false_iff_ne.mpr (by omega)
      have h' : ¬ x = c := fun z => h z.symm
      rw [e, Bool.false_or]
      simp [h']
theorem flat_nats : ∀ C : List Nat, (C.map fun n : Nat => V.int (n : Int)).all flatV = true
  | [] => rfl
  | c :: C => by
    show (flatV (.int (c : Int)) && (C.map fun n : Nat => V.int (n : Int)).all flatV) = true
    rw [flat_nats C]
    rfl
end Fo

namespace Fo
open PySem PySem.Spec PyProof.Rows L2
/-! ### words without end -/
theorem two_alike {f : Nat → Nat} {S : Nat} (h : ∀ i, i ≤ S → f i < S) : ∃ i j, i < j ∧ j ≤ S ∧ f i = f j := by
  rcases Classical.em (∃ i j, i < j ∧ j ≤ S ∧ f i = f j) with q | q
  · exact q
  · have nd : ((List.range (S + 1)).map f).Nodup := by
      rw [List.Nodup, List.pairwise_map]
      refine List.Pairwise.imp_of_mem (fun {a b} ha hb hab e => q ⟨a, b, hab, ?_, e⟩) List.pairwise_lt_range
      have := List.mem_range.mp hb
      omega
    have := short_nat S _ nd fun x hx => by
      obtain ⟨i, hi, rfl⟩ := List.mem_map.mp hx
      have := List.mem_range.mp hi
      exact h i (by omega)
    rw [List.length_map, List.length_range] at this
    omega
section
variable {l : Lot}
theorem Lot.on_app (l : Lot) (s : Option Nat) (t u : Cs) : l.on s (t ++ u) = l.on (l.on s t) u := by
  unfold Lot.on
  rw [List.foldl_append]
theorem Lot.on_part {s : Option Nat} {t : Cs} {n : Nat} (h : l.on s t = some n) (i : Nat) : ∃ m, l.on s (t.take i) = some m := by
  cases e : l.on s (t.take i) with
  | none =>
    rw [Lot.on_stop e] at h
    cases h
  | some m => exact ⟨m, rfl⟩
theorem word_on {t : Cs} (h : l.word t = true) : ∃ n, l.on (some 0) t = some n ∧ (l.sta n).good = true := by
  unfold Lot.word at h
  cases e : l.on (some 0) t with
  | none =>
    rw [e] at h
    cases h
  | some n =>
    rw [e] at h
    exact ⟨n, rfl, h⟩
theorem word_of {t : Cs} {n : Nat} (h : l.on (some 0) t = some n) (g : (l.sta n).good = true) : l.word t = true := by
  unfold Lot.word
  rw [h]
  exact g
/-- a ring in the beginning of a long word -/
theorem ring {t : Cs} (o : l.Ok) (h : l.word t = true) (hl : l.states.length ≤ t.length) :
    ∃ i j q, i < j ∧ j ≤ l.states.length ∧ l.on (some 0) (t.take i) = some q ∧ l.on (some 0) (t.take j) = some q := by
  obtain ⟨n, on, g⟩ := word_on h
  have ne := o.ne
  have some_ := fun i => Lot.on_part on i
  obtain ⟨i, j, h1, h2, h3⟩ := two_alike (S := l.states.length) (f := fun i => (l.on (some 0) (t.take i)).getD 0) fun i _ => by
    obtain ⟨m, e⟩ := some_ i
    show (l.on (some 0) (t.take i)).getD 0 < _
    rw [e]
    exact Lot.on_lt o _ 0 m ne e
  obtain ⟨a, ea⟩ := some_ i
  obtain ⟨b, eb⟩ := some_ j
  have h3 : (l.on (some 0) (t.take i)).getD 0 = (l.on (some 0) (t.take j)).getD 0 := h3
  rw [ea, eb] at h3
  have h3 : a = b := h3
  exact ⟨i, j, a, h1, h2, ea, h3 ▸ eb⟩
theorem cut_down (o : l.Ok) : ∀ (n : Nat) (t : Cs), t.length ≤ n → l.states.length ≤ t.length → l.word t = true → ∃ u : Cs, l.states.length ≤ u.length ∧ u.length < 2 * l.states.length ∧ l.word u = true := by
  intro n
  induction n with
  | zero =>
    intro t h1 h2 _
    have := o.ne
    omega
  | succ n ih =>
    intro t h1 h2 h3
    by_cases c : t.length < 2 * l.states.length
    · exact ⟨t, h2, c, h3⟩
    · obtain ⟨i, j, q, h4, h5, h6, h7⟩ := ring o h3 h2
      obtain ⟨m, on, g⟩ := word_on h3
      have e := Lot.on_split l (some 0) t j
      rw [on, h7] at e
      refine ih (t.take i ++ t.drop j) ?_ ?_ (word_of (n := m) ?_ g)
      · rw [List.length_append, List.length_take, List.length_drop]
        omega
      · rw [List.length_append, List.length_take, List.length_drop]
        omega
      · rw [Lot.on_app, h6]
        exact e.symm
/-- some signs lead from s to n -/
def Lot.leads (l : Lot) (s n : Nat) : Prop := ∃ t : Cs, t ≠ [] ∧ l.on (some s) t = some n
def Lot.Ring (l : Lot) : Prop := ∃ q, (q = 0 ∨ l.leads 0 q) ∧ l.leads q q ∧ ∃ f, (f = q ∨ l.leads q f) ∧ (l.sta f).good = true
def Lot.Long (l : Lot) : Prop := ∃ t : Cs, l.states.length ≤ t.length ∧ t.length < 2 * l.states.length ∧ l.word t = true
def turns (v : Cs) : Nat → Cs
  | 0 => []
  | n + 1 => v ++ turns v n
theorem turns_on {v : Cs} {q : Nat} (h : l.on (some q) v = some q) : ∀ n, l.on (some q) (turns v n) = some q
  | 0 => rfl
  | n + 1 => by
    show l.on (some q) (v ++ turns v n) = _
    rw [Lot.on_app, h, turns_on h n]
theorem turns_len {v : Cs} (h : v ≠ []) : ∀ n, n ≤ (turns v n).length
  | 0 => Nat.zero_le _
  | n + 1 => by
    have := turns_len h n
    have := List.length_pos_iff.mpr h
    show _ ≤ (v ++ turns v n).length
    rw [List.length_append]
    omega
theorem maybe {s n : Nat} (h : n = s ∨ l.leads s n) : ∃ t : Cs, l.on (some s) t = some n := by
  rcases h with rfl | ⟨t, _, h⟩
  · exact ⟨[], rfl⟩
  · exact ⟨t, h⟩
theorem maybe_of {s n : Nat} {t : Cs} (h : l.on (some s) t = some n) : n = s ∨ l.leads s n := by
  cases t with
  | nil =>
    cases h
    exact .inl rfl
  | cons c t => exact .inr ⟨c :: t, List.cons_ne_nil _ _, h⟩
theorem long_ring (o : l.Ok) : l.Long ↔ l.Ring := by
  constructor
  · rintro ⟨t, h1, _, h3⟩
    obtain ⟨i, j, q, h4, h5, h6, h7⟩ := ring o h3 h1
    obtain ⟨m, on, g⟩ := word_on h3
    have e := Lot.on_split l (some 0) t j
    rw [on, h7] at e
    have e2 := Lot.on_split l (some 0) (t.take j) i
    rw [h7, List.take_take, Nat.min_eq_left (Nat.le_of_lt h4), h6] at e2
    refine ⟨q, maybe_of h6, ⟨(t.take j).drop i, fun z => ?_, e2.symm⟩, m, maybe_of e.symm, g⟩
    have := congrArg List.length z
    rw [List.length_drop, List.length_take, List.length_nil] at this
    omega
  · rintro ⟨q, h1, ⟨v, hv, h2⟩, f, h3, g⟩
    obtain ⟨u1, h1⟩ := maybe h1
    obtain ⟨u2, h3⟩ := maybe h3
    have w : l.word (u1 ++ (turns v l.states.length ++ u2)) = true := word_of (n := f) (by rw [Lot.on_app, h1, Lot.on_app, turns_on h2, h3]) g
    have len : l.states.length ≤ (u1 ++ (turns v l.states.length ++ u2)).length := by
      have := turns_len hv l.states.length
      rw [List.length_append, List.length_append]
      omega
    exact cut_down o _ _ (Nat.le_refl _) len w
/-- all texts of a length -/
theorem texts_mem (g : Cs) : ∀ (n : Nat) (t : Cs), t ∈ texts g n ↔ t.length = n ∧ ∀ c ∈ t, c ∈ g
  | 0, t => by
    show t ∈ [[]] ↔ _
    rw [List.mem_singleton]
    constructor
    · rintro rfl
      exact ⟨rfl, fun _ h => nomatch h⟩
    · rintro ⟨h, _⟩
      exact List.length_eq_zero_iff.mp h
  | n + 1, t => by
    show t ∈ longer g (texts g n) ↔ _
    unfold longer
    rw [List.mem_flatMap]
    constructor
    · rintro ⟨u, hu, h⟩
      obtain ⟨c, hc, rfl⟩ := List.mem_map.mp h
      obtain ⟨h1, h2⟩ := (texts_mem g n u).mp hu
      refine ⟨by rw [List.length_append, h1]; rfl, fun x hx => ?_⟩
      rcases List.mem_append.mp hx with h | h
      · exact h2 x h
      · rw [List.mem_singleton.mp h]
        exact hc
    · rintro ⟨h1, h2⟩
      rcases List.eq_nil_or_concat t with rfl | ⟨u, c, rfl⟩
      · simp at h1
      · rw [List.concat_eq_append] at h1 h2 ⊢
        exact ⟨u, (texts_mem g n u).mpr ⟨by simpa using h1, fun x hx => h2 x (List.mem_append_left _ hx)⟩, List.mem_map.mpr ⟨c, h2 c (List.mem_append_right _ (List.mem_singleton.mpr rfl)), rfl⟩⟩
theorem on_signs {s : Option Nat} {t : Cs} {n : Nat} (h : l.on s t = some n) : ∀ c ∈ t, c ∈ l.signs := by
  intro c hc
  obtain ⟨i, hi⟩ := List.mem_iff_getElem?.mp hc
  rcases Classical.em (c ∈ l.signs) with q | q
  · exact q
  · have e : l.on s (t.take (i + 1)) = none := by
      rw [take_snoc hi, Lot.on_snoc]
      cases l.on s (t.take i) with
      | none => rfl
      | some m => exact if_neg q
    rw [Lot.on_stop e] at h
    cases h
theorem many_pos (o : l.Ok) (n : Nat) : 0 < l.many n ↔ ∃ t : Cs, t.length = n ∧ l.word t = true := by
  rw [many_words o n]
  constructor
  · intro h
    have h : 0 < ((texts l.signs n).filter l.word).length := by omega
    obtain ⟨t, ht⟩ := List.exists_mem_of_length_pos h
    obtain ⟨h1, h2⟩ := List.mem_filter.mp ht
    exact ⟨t, ((texts_mem _ _ t).mp h1).1, h2⟩
  · rintro ⟨t, h1, h2⟩
    obtain ⟨m, on, _⟩ := word_on h2
    have : t ∈ (texts l.signs n).filter l.word := List.mem_filter.mpr ⟨(texts_mem _ _ t).mpr ⟨h1, on_signs on⟩, h2⟩
    have := List.length_pos_of_mem this
    omega
/-- as the program asks -/
theorem long_many (o : l.Ok) : l.Long ↔ ∃ k, k < l.states.length ∧ 0 < l.many (l.states.length + k) := by
  constructor
  · rintro ⟨t, h1, h2, h3⟩
    exact ⟨t.length - l.states.length, by omega, (many_pos o _).mpr ⟨t, by omega, h3⟩⟩
  · rintro ⟨k, h1, h2⟩
    obtain ⟨t, h3, h4⟩ := (many_pos o _).mp h2
    exact ⟨t, by omega, by omega, h4⟩
end
end Fo

namespace Fo
open PySem PySem.Spec PyProof.Rows L2
/-! ### lots of the same words -/
section
variable {l k : Lot}
theorem word_fine (t : Cs) : l.word t = l.fine (l.on (some 0) t) := by
  unfold Lot.word Lot.fine
  cases l.on (some 0) t <;> rfl
/-- led alike -/
theorem word_like (R : Option Nat → Option Nat → Prop) (h0 : R (some 0) (some 0)) (hs : ∀ a b c, R a b → R (l.step a c) (k.step b c)) (hg : ∀ a b, R a b → l.fine a = k.fine b) (t : Cs) : l.word t = k.word t := by
  have on : ∀ (t : Cs) (a b : Option Nat), R a b → R (l.on a t) (k.on b t) := by
    intro t
    induction t with
    | nil => exact fun a b h => h
    | cons c t ih => exact fun a b h => ih _ _ (hs a b c h)
  rw [word_fine, word_fine]
  exact hg _ _ (on t _ _ h0)
theorem first_like (h : ∀ t, l.word t = k.word t) {r : Option Cs} (f : l.First r) : k.First r := by
  cases r with
  | none => exact fun u => (h u).symm.trans (f u)
  | some t => exact ⟨(h t).symm.trans f.1, fun u g => f.2 u ((h u).trans g)⟩
theorem many_like (o : l.Ok) (p : k.Ok) (hs : l.signs = k.signs) (h : ∀ t, l.word t = k.word t) (n : Nat) : l.many n = k.many n := by
  rw [many_words o n, many_words p n, hs]
  congr 2
  exact List.filter_congr fun t _ => h t
/-- words longer than any number -/
theorem long_far (o : l.Ok) : l.Long ↔ ∀ n, ∃ t : Cs, n ≤ t.length ∧ l.word t = true := by
  constructor
  · intro h n
    obtain ⟨q, h1, ⟨v, hv, h2⟩, f, h3, g⟩ := (long_ring o).mp h
    obtain ⟨u1, h1⟩ := maybe h1
    obtain ⟨u2, h3⟩ := maybe h3
    refine ⟨u1 ++ (turns v n ++ u2), ?_, word_of (n := f) (by rw [Lot.on_app, h1, Lot.on_app, turns_on h2, h3]) g⟩
    have := turns_len hv n
    rw [List.length_append, List.length_append]
    omega
  · intro h
    obtain ⟨t, h1, h2⟩ := h l.states.length
    exact cut_down o _ t (Nat.le_refl _) h1 h2
theorem long_like (o : l.Ok) (p : k.Ok) (h : ∀ t, l.word t = k.word t) : l.Long ↔ k.Long := by
  rw [long_far o, long_far p]
  constructor
  · intro g n
    obtain ⟨t, a, b⟩ := g n
    exact ⟨t, a, (h t).symm.trans b⟩
  · intro g n
    obtain ⟨t, a, b⟩ := g n
    exact ⟨t, a, (h t).trans b⟩
/-- each text a word of just one of both: together they have all texts -/
theorem many_both (o : l.Ok) (p : k.Ok) (hs : l.signs = k.signs) (n : Nat) (h : ∀ t ∈ texts l.signs n, k.word t = !l.word t) : l.many n + k.many n = (((texts l.signs n).length : Nat) : Int) := by
  rw [many_words o n, many_words p n, ← hs, ← List.countP_eq_length_filter, ← List.countP_eq_length_filter]
  have e : (texts l.signs n).countP k.word = (texts l.signs n).countP fun t => !l.word t := List.countP_congr fun t ht => by rw [h t ht]
  rw [e]
  have z : (texts l.signs n).length = (texts l.signs n).countP l.word + (texts l.signs n).countP fun t => !l.word t := by
    rw [List.length_eq_countP_add_countP l.word]
    congr 1
    exact List.countP_congr fun t _ => by cases l.word t <;> simp
  omega
end
end Fo

namespace Fo
open PySem PySem.Spec PyProof.Rows L2
section
variable {l k : Lot}
/-- a word, so one with fewer signs than states -/
theorem cut_short (o : l.Ok) : ∀ (n : Nat) (t : Cs), t.length ≤ n → l.word t = true → ∃ u : Cs, u.length < l.states.length ∧ l.word u = true := by
  intro n
  induction n with
  | zero =>
    intro t h1 h2
    have := o.ne
    exact ⟨t, by omega, h2⟩
  | succ n ih =>
    intro t h1 h2
    by_cases c : t.length < l.states.length
    · exact ⟨t, c, h2⟩
    · obtain ⟨i, j, q, h4, h5, h6, h7⟩ := ring o h2 (by omega)
      obtain ⟨m, on, g⟩ := word_on h2
      have e := Lot.on_split l (some 0) t j
      rw [on, h7] at e
      refine ih (t.take i ++ t.drop j) ?_ (word_of (n := m) ?_ g)
      · rw [List.length_append, List.length_take, List.length_drop]
        omega
      · rw [Lot.on_app, h6]
        exact e.symm
theorem first_far {r : Option Cs} (o : l.Ok) (f : l.First r) : r = none ↔ ∀ k, k < l.states.length → l.many k = 0 := by
  have nn := fun k => (many_pos o k)
  constructor
  · rintro rfl k hk
    have z : ¬ 0 < l.many k := fun z => by
      obtain ⟨t, _, e⟩ := (nn k).mp z
      rw [f t] at e
      cases e
    rw [many_words o] at z ⊢
    omega
  · intro h
    cases r with
    | none => rfl
    | some t =>
      obtain ⟨u, hu, e⟩ := cut_short o _ t (Nat.le_refl _) f.1
      have := (nn u.length).mpr ⟨u, rfl, e⟩
      rw [h _ hu] at this
      exact absurd this (by decide)
theorem many_not (o : l.Ok) (n : Nat) : 0 ≤ l.many n := by rw [many_words o]; exact Int.natCast_nonneg _
end
/-! sums of what isn't below naught -/
theorem sum_not : ∀ (xs : List Int), (∀ x ∈ xs, 0 ≤ x) → 0 ≤ xs.sum
  | [], _ => Int.le_refl _
  | x :: xs, h => by
    rw [List.sum_cons]
    have := h x (List.mem_cons_self ..)
    have := sum_not xs fun y m => h y (List.mem_cons_of_mem _ m)
    omega
theorem sum_any : ∀ (xs : List Int), (∀ x ∈ xs, 0 ≤ x) → (0 < xs.sum ↔ ∃ x ∈ xs, 0 < x)
  | [], _ => ⟨fun h => absurd h (by decide), fun ⟨_, m, _⟩ => nomatch m⟩
  | x :: xs, h => by
    have h0 := h x (List.mem_cons_self ..)
    have h1 := fun y m => h y (List.mem_cons_of_mem x m)
    have ih := sum_any xs h1
    have nn := sum_not xs h1
    rw [List.sum_cons]
    constructor
    · intro g
      by_cases c : 0 < x
      · exact ⟨x, List.mem_cons_self .., c⟩
      · obtain ⟨y, m, e⟩ := ih.mp (by omega)
        exact ⟨y, List.mem_cons_of_mem _ m, e⟩
    · rintro ⟨y, m, e⟩
      rcases List.mem_cons.mp m with rfl | m
      · omega
      · have := ih.mpr ⟨y, m, e⟩
        omega
theorem sum_nil (xs : List Int) (h : ∀ x ∈ xs, 0 ≤ x) : xs.sum = 0 ↔ ∀ x ∈ xs, x = 0 := by
  have a := sum_any xs h
  have b := sum_not xs h
  constructor
  · intro e x m
    have := h x m
    by_cases c : 0 < x
    · have := a.mpr ⟨x, m, c⟩
      omega
    · omega
  · intro g
    by_cases c : 0 < xs.sum
    · obtain ⟨x, m, e⟩ := a.mp c
      rw [g x m] at e
      exact absurd e (by decide)
    · omega
end Fo

namespace Fo
open PySem PySem.Spec PyProof.Rows L2
/-! ### a lot told otherwise -/
/-- the states by other numbers -/
def stR (l : Lot) (ord : List Nat) (k : Nat) : LSt := ⟨(l.sta k).ways.map fun w => w.map fun n => ord.idxOf n, (l.sta k).good⟩
def renL (l : Lot) (ord : List Nat) : Lot := ⟨l.signs, ord.map fun k => stR l ord k⟩
def Ordr (m : Nat) (ord : List Nat) : Prop := ord.Perm (List.range m) ∧ ord.head? = some 0
/-- a way to a state more wherever there was none -/
def fullL (S : Nat) (s : LSt) : LSt := ⟨s.ways.map fun w => some (w.getD S), s.good⟩
def moreL (l : Lot) : Lot := ⟨l.signs, l.states.map (fullL l.states.length) ++ [⟨List.replicate l.signs.length (some l.states.length), false⟩]⟩
/-- the others good -/
def flipL (l : Lot) : Lot := ⟨l.signs, l.states.map fun s => ⟨s.ways, !s.good⟩⟩
theorem ordr_in {m i : Nat} {ord : List Nat} (h : Ordr m ord) : i ∈ ord ↔ i < m := by rw [h.1.mem_iff, List.mem_range]
theorem ordr_len {m : Nat} {ord : List Nat} (h : Ordr m ord) : ord.length = m := by rw [h.1.length_eq, List.length_range]
theorem ordr_put {m r : Nat} {ord : List Nat} (h : Ordr m ord) : Ordr (m + 1) (ord.take (r + 1) ++ [m] ++ ord.drop (r + 1)) := by
  constructor
  · rw [List.range_succ, List.append_assoc]
    refine (List.perm_middle (a := m) (l₁ := ord.take (r + 1)) (l₂ := ord.drop (r + 1))).trans ?_
    rw [List.take_append_drop]
    exact (List.perm_append_singleton m ord).symm.trans (h.1.append_right [m])
  · obtain ⟨_, h⟩ := h
    cases ord with
    | nil => cases h
    | cons a ord =>
      cases h
      rfl
theorem getD_mapD {α β : Type} {f : α → β} {d : α} {e : β} (h : f d = e) (l : List α) (i : Nat) : (l.map f).getD i e = f (l.getD i d) := by
  rw [List.getD_eq_getElem?_getD, List.getD_eq_getElem?_getD, List.getElem?_map]
  cases l[i]? with
  | none => exact h.symm
  | some x => rfl
section
variable {l : Lot} {ord : List Nat}
theorem ren_sta (t : Nat) (ht : t < ord.length) : (renL l ord).sta t = stR l ord ord[t] := by
  unfold Lot.sta renL
  rw [List.getD_eq_getElem?_getD, List.getElem?_map, List.getElem?_eq_getElem ht]
  rfl
theorem ren_ok (o : l.Ok) (h : Ordr l.states.length ord) : (renL l ord).Ok where
  ne := by
    show 0 < (ord.map fun k => stR l ord k).length
    rw [List.length_map, ordr_len h]
    exact o.ne
  ways s hs := by
    obtain ⟨k, hk, rfl⟩ := List.mem_map.mp hs
    show ((l.sta k).ways.map _).length = _
    rw [List.length_map]
    exact o.ways _ (Lot.sta_mem ((ordr_in h).mp hk))
  there s hs n hn := by
    obtain ⟨k, hk, rfl⟩ := List.mem_map.mp hs
    obtain ⟨w, hw, e⟩ := List.mem_map.mp hn
    show n < (ord.map fun k => stR l ord k).length
    rw [List.length_map]
    cases w with
    | none => cases e
    | some m =>
      cases e
      exact List.idxOf_lt_length_iff.mpr ((ordr_in h).mpr (o.there _ (Lot.sta_mem ((ordr_in h).mp hk)) m hw))
  once := o.once
theorem ren_word (o : l.Ok) (h : Ordr l.states.length ord) (t : Cs) : l.word t = (renL l ord).word t := by
  refine word_like (fun a b => (a = none ∧ b = none) ∨ ∃ s t, a = some s ∧ b = some t ∧ ord[t]? = some s) (.inr ⟨0, 0, rfl, rfl, ?_⟩) (fun a b c r => ?_) (fun a b r => ?_) t
  · rw [← List.head?_eq_getElem?]
    exact h.2
  · rcases r with ⟨rfl, rfl⟩ | ⟨s, t, rfl, rfl, e⟩
    · exact .inl ⟨rfl, rfl⟩
    · obtain ⟨ht, e⟩ := List.getElem?_eq_some_iff.mp e
      have hs : s < l.states.length := (ordr_in h).mp (e ▸ List.getElem_mem ht)
      have st : (renL l ord).step (some t) c = (l.step (some s) c).map fun n => ord.idxOf n := by
        show (if c ∈ l.signs then ((renL l ord).sta t).ways.getD (l.signs.idxOf c) none else none) = (if c ∈ l.signs then (l.sta s).ways.getD (l.signs.idxOf c) none else none).map _
        rw [ren_sta t ht, e]
        by_cases hc : c ∈ l.signs
        · rw [if_pos hc, if_pos hc]
          show ((l.sta s).ways.map fun w : Option Nat => w.map fun n => ord.idxOf n).getD _ none = _
          exact getD_mapD (f := fun w : Option Nat => w.map fun n => ord.idxOf n) (d := none) rfl _ _
        · rw [if_neg hc, if_neg hc]
          rfl
      rw [st]
      cases q : l.step (some s) c with
      | none => exact .inl ⟨rfl, rfl⟩
      | some n =>
        have hn := (ordr_in h).mpr (Lot.step_lt o hs q)
        have hi := List.idxOf_lt_length_iff.mpr hn
        refine .inr ⟨n, _, rfl, rfl, ?_⟩
        rw [List.getElem?_eq_getElem hi, List.getElem_idxOf hi]
  · rcases r with ⟨rfl, rfl⟩ | ⟨s, t, rfl, rfl, e⟩
    · rfl
    · obtain ⟨ht, e⟩ := List.getElem?_eq_some_iff.mp e
      show (l.sta s).good = ((renL l ord).sta t).good
      rw [ren_sta t ht, e]
      rfl
theorem more_sta {s : Nat} (hs : s < l.states.length) : (moreL l).sta s = fullL l.states.length (l.sta s) := by
  unfold Lot.sta moreL
  rw [List.getD_eq_getElem?_getD, List.getElem?_append_left (by rw [List.length_map]; exact hs), List.getElem?_map, List.getD_eq_getElem?_getD, List.getElem?_eq_getElem hs]
  rfl
theorem more_end : (moreL l).sta l.states.length = ⟨List.replicate l.signs.length (some l.states.length), false⟩ := by
  unfold Lot.sta moreL
  rw [List.getD_eq_getElem?_getD, List.getElem?_append_right (by rw [List.length_map]; exact Nat.le_refl _), List.length_map, Nat.sub_self]
  rfl
theorem more_len : (moreL l).states.length = l.states.length + 1 := by
  show (l.states.map _ ++ [_]).length = _
  rw [List.length_append, List.length_map]
  rfl
theorem more_ok (o : l.Ok) : (moreL l).Ok where
  ne := by
    rw [more_len]
    exact Nat.succ_pos _
  ways s hs := by
    rcases List.mem_append.mp hs with hs | hs
    · obtain ⟨k, hk, rfl⟩ := List.mem_map.mp hs
      show (k.ways.map _).length = _
      rw [List.length_map]
      exact o.ways _ hk
    · rw [List.mem_singleton.mp hs]
      exact List.length_replicate
  there s hs n hn := by
    rw [more_len]
    rcases List.mem_append.mp hs with hs | hs
    · obtain ⟨k, hk, rfl⟩ := List.mem_map.mp hs
      obtain ⟨w, hw, e⟩ := List.mem_map.mp hn
      cases e
      cases w with
      | none => exact Nat.lt_succ_self _
      | some m => exact Nat.lt_succ_of_lt (o.there _ hk m hw)
    · rw [List.mem_singleton.mp hs] at hn
      have e := List.eq_of_mem_replicate hn
      cases e
      exact Nat.lt_succ_self _
  once := o.once
theorem more_step (o : l.Ok) {s c : Nat} (hs : s < l.states.length) (hc : c ∈ l.signs) : (moreL l).step (some s) c = some ((l.step (some s) c).getD l.states.length) := by
  have w := Lot.way_at o hs hc
  show (if c ∈ l.signs then ((moreL l).sta s).ways.getD (l.signs.idxOf c) none else none) = _
  rw [if_pos hc, more_sta hs]
  show ((l.sta s).ways.map fun w => some (w.getD l.states.length)).getD _ none = _
  rw [List.getD_eq_getElem?_getD, List.getElem?_map, w]
  rfl
theorem more_sink {c : Nat} (hc : c ∈ l.signs) : (moreL l).step (some l.states.length) c = some l.states.length := by
  show (if c ∈ l.signs then ((moreL l).sta l.states.length).ways.getD (l.signs.idxOf c) none else none) = _
  rw [if_pos hc, more_end]
  show (List.replicate l.signs.length (some l.states.length)).getD _ none = _
  rw [List.getD_eq_getElem?_getD, List.getElem?_replicate_of_lt (List.idxOf_lt_length_iff.mpr hc)]
  rfl
theorem no_step {k : Lot} {a : Option Nat} {c : Nat} (hc : c ∉ k.signs) : k.step a c = none := by
  cases a with
  | none => rfl
  | some s => exact if_neg hc
theorem more_word (o : l.Ok) (t : Cs) : l.word t = (moreL l).word t := by
  refine word_like (fun a b => (a = none ∧ (b = none ∨ b = some l.states.length)) ∨ ∃ s, s < l.states.length ∧ a = some s ∧ b = some s) (.inr ⟨0, o.ne, rfl, rfl⟩) (fun a b c r => ?_) (fun a b r => ?_) t
  · by_cases hc : c ∈ l.signs
    · rcases r with ⟨rfl, rfl | rfl⟩ | ⟨s, hs, rfl, rfl⟩
      · exact .inl ⟨rfl, .inl rfl⟩
      · rw [more_sink hc]
        exact .inl ⟨rfl, .inr rfl⟩
      · rw [more_step o hs hc]
        cases q : l.step (some s) c with
        | none => exact .inl ⟨rfl, .inr rfl⟩
        | some n => exact .inr ⟨n, Lot.step_lt o hs q, rfl, rfl⟩
    · rw [no_step hc, no_step (k := moreL l) hc]
      exact .inl ⟨rfl, .inl rfl⟩
  · rcases r with ⟨rfl, rfl | rfl⟩ | ⟨s, hs, rfl, rfl⟩
    · rfl
    · show false = ((moreL l).sta l.states.length).good
      rw [more_end]
    · show (l.sta s).good = ((moreL l).sta s).good
      rw [more_sta hs]
      rfl
theorem more_on (o : l.Ok) : ∀ (t : Cs) (s : Nat), (∀ c ∈ t, c ∈ l.signs) → s < l.states.length + 1 → ∃ n, n < l.states.length + 1 ∧ (moreL l).on (some s) t = some n
  | [], s, _, hs => ⟨s, hs, rfl⟩
  | c :: t, s, h, hs => by
    have hc := h c (List.mem_cons_self ..)
    have go : ∃ m, m < l.states.length + 1 ∧ (moreL l).step (some s) c = some m := by
      by_cases e : s = l.states.length
      · subst e
        exact ⟨_, hs, more_sink hc⟩
      · refine ⟨_, ?_, more_step o (by omega) hc⟩
        cases q : l.step (some s) c with
        | none => exact Nat.lt_succ_self _
        | some n => exact Nat.lt_succ_of_lt (Lot.step_lt o (by omega) q)
    obtain ⟨m, hm, e⟩ := go
    obtain ⟨n, hn, e2⟩ := more_on o t m (fun x hx => h x (List.mem_cons_of_mem _ hx)) hm
    exact ⟨n, hn, by
      show (moreL l).on ((moreL l).step (some s) c) t = _
      rw [e]
      exact e2⟩
theorem flip_sta {s : Nat} (hs : s < l.states.length) : (flipL l).sta s = ⟨(l.sta s).ways, !(l.sta s).good⟩ := by
  unfold Lot.sta flipL
  rw [List.getD_eq_getElem?_getD, List.getElem?_map, List.getD_eq_getElem?_getD, List.getElem?_eq_getElem hs]
  rfl
theorem flip_ways (s : Nat) : ((flipL l).sta s).ways = (l.sta s).ways := by
  by_cases hs : s < l.states.length
  · rw [flip_sta hs]
  · unfold Lot.sta flipL
    rw [List.getD_eq_getElem?_getD, List.getElem?_map, List.getD_eq_getElem?_getD, List.getElem?_eq_none (by omega)]
    rfl
theorem flip_step (a : Option Nat) (c : Nat) : (flipL l).step a c = l.step a c := by
  cases a with
  | none => rfl
  | some s =>
    show (if c ∈ l.signs then ((flipL l).sta s).ways.getD (l.signs.idxOf c) none else none) = _
    rw [flip_ways]
    rfl
theorem flip_on : ∀ (t : Cs) (a : Option Nat), (flipL l).on a t = l.on a t
  | [], _ => rfl
  | c :: t, a => by
    show (flipL l).on ((flipL l).step a c) t = l.on (l.step a c) t
    rw [flip_step, flip_on t]
theorem flip_ok (o : l.Ok) : (flipL l).Ok where
  ne := by
    show 0 < (l.states.map _).length
    rw [List.length_map]
    exact o.ne
  ways s hs := by
    obtain ⟨k, hk, rfl⟩ := List.mem_map.mp hs
    exact o.ways k hk
  there s hs n hn := by
    obtain ⟨k, hk, rfl⟩ := List.mem_map.mp hs
    show n < (l.states.map _).length
    rw [List.length_map]
    exact o.there k hk n hn
  once := o.once
/-- each text a word of just one of both -/
theorem turned_word (o : l.Ok) (t : Cs) (h : ∀ c ∈ t, c ∈ l.signs) : (flipL (moreL l)).word t = !l.word t := by
  obtain ⟨n, hn, e⟩ := more_on o t 0 h (Nat.succ_pos _)
  rw [more_word o t, word_fine, word_fine, flip_on, e]
  show ((flipL (moreL l)).sta n).good = !((moreL l).sta n).good
  rw [flip_sta (by rw [more_len]; exact hn)]
theorem texts_size (g : Cs) : ∀ n, (texts g n).length = g.length ^ n
  | 0 => rfl
  | n + 1 => by
    show (longer g (texts g n)).length = _
    unfold longer
    rw [List.length_flatMap, Nat.pow_succ, ← texts_size g n]
    generalize texts g n = L
    induction L with
    | nil => simp
    | cons t L ih => rw [List.map_cons, List.sum_cons, ih, List.length_map, List.length_cons, Nat.succ_mul, Nat.add_comm]
theorem turned_many (o : l.Ok) (n : Nat) : l.many n + (flipL (moreL l)).many n = (l.signs.length : Int) ^ n := by
  rw [many_both o (flip_ok (more_ok o)) rfl n fun t ht => turned_word o t ((texts_mem _ _ _).mp ht).2, texts_size, Int.natCast_pow]
end
end Fo

namespace Fo
open PySem PySem.Spec PyProof.Rows L2
/-! ### is a tuple of ints in a set of such? -/
section
variable {P : Program} {w : World} {A : Around} {E : Value → Shared → Prop} {s : Shared} {a : Addr} {L : List (Addr × List Int)} {es : Array (Int × Value)} {ep : Nat} {t : SetTable}
/-- the c-th step of a search -/
abbrev Pb (m : Nat) (h : Int) (c : Nat) : SetTable.Probe := nth m (runAt m (SetTable.bits h % (m + 1)) (SetTable.bits h)) c
theorem pb_clean (m : Nat) (h : Int) : ∀ c, (Pb m h c).dummy = none
  | 0 => rfl
  | c + 1 => by
    have z := pb_clean m h c
    unfold Pb at z ⊢
    rw [nth_succ]
    unfold adv
    split
    · exact z
    · exact z
theorem pb_on (m : Nat) (h : Int) (c q : Nat) : nth m (Pb m h c) q = Pb m h (c + q) := (nth_add m c _ q).symm
theorem hash_row (R : SetTR P w s.heap a L es ep t) {i : Nat} {p : Addr × List Int} (e : L[i]? = some p) : (es[i]?.map (·.1)).getD 0 = thash P w p.2 := by
  have z := R.entry e
  rw [z]
  rfl
theorem row_of (R : SetTR P w s.heap a L es ep t) {i j : Nat} (e : t.place.toList[i]? = some j) : ∃ p, L[i]? = some p ∧ p ∈ L := by
  obtain ⟨lt, _⟩ := List.getElem?_eq_some_iff.mp e
  have z := R.tab.sz
  rw [List.length_map] at z
  rw [Array.length_toList, z] at lt
  exact ⟨L[i], List.getElem?_eq_getElem lt, List.getElem_mem lt⟩
theorem same_row (R : SetTR P w s.heap a L es ep t) {i i' j : Nat} (e : t.place.toList[i]? = some j) (e' : t.place.toList[i']? = some j) : i = i' := by
  have z := (slot_live R.tab.ris e).symm.trans (slot_live R.tab.ris e')
  injection z
theorem look_from (R : SetTR P w s.heap a L es ep t) {x : Addr} {k : List Int} (hx : IsT P w s.heap k x) (hu : A.units < cLine) {K : Nat} (short : K < 10 * SetTable.turns t.mask)
    (free : way t.mask (thash P w k) K ∉ t.place.toList) (full : ∀ c, c < K → way t.mask (thash P w k) c ∈ t.place.toList) {Q : SetFound → Shared → Prop}
    (yes : k ∈ L.map (·.2) → ∀ i, Q (.there (some i)) s) (no : k ∉ L.map (·.2) → ∀ j, Q (.free j false) s) (fuel : Nat) :
    ∀ (c : Nat) (st : Option SetTable.Probe), st.getD (t.probeStart (thash P w k)) = Pb t.mask (thash P w k) c → c ≤ K → K < c + fuel →
      (∀ (d i : Nat) (p : Addr × List Int), d < c → t.place.toList[i]? = some (way t.mask (thash P w k) d) → L[i]? = some p → p.2 ≠ k) → wpAny (model P w) A (setSearchFrom a (.ref x) (thash P w k) false fuel st) Q E s := by
  generalize eH : thash P w k = h at *
  induction fuel with
  | zero => exact fun c st _ h1 h2 => absurd h2 (by omega)
  | succ fuel ih =>
    intro c st est cK cf passed
    obtain ⟨ob, at_, _, data⟩ := R.ob
    rw [setSearchFrom_succ]
    refine wpAny_bind (wpAny_setState_of at_ data R.fits ?_)
    dsimp only
    rw [if_neg R.gw]
    have J : ∀ q, (nth t.mask (Pb t.mask h c) q).j = way t.mask h (c + q) := fun q => congrArg SetTable.Probe.j (pb_on t.mask h c q)
    have told := go_spec t R.tab.ris R.tab.dm (fun i => (es[i]?.map (·.1)).getD 0) h (10 * SetTable.turns t.mask) (K - c) (Pb t.mask h c) (pb_clean ..) (Nat.lt_of_le_of_lt (Nat.sub_le ..) short)
      (fun q hq => (J q).symm ▸ full _ (Nat.add_lt_of_lt_sub' hq)) (by rw [J, Nat.add_sub_cancel' cK]; exact free)
    have pr : t.probe (fun i => (es[i]?.map (·.1)).getD 0) h (st.getD (t.probeStart h)) = SetTable.probe.go t (fun i => (es[i]?.map (·.1)).getD 0) h (10 * SetTable.turns t.mask) (Pb t.mask h c) := by
      rw [est]
      rfl
    rw [pr]
    rcases told with ⟨q, i, qK, place_i, hash_i, none_before, go_is⟩ | ⟨none_at_all, go_is⟩
    · rw [go_is]
      dsimp only
      rw [J] at place_i
      obtain ⟨p, row, pL⟩ := row_of R place_i
      have pT := R.tup p pL
      have main : wpAny (model P w) A (searchRest a (.ref x) h false fuel es t (nth t.mask (Pb t.mask h c) q).j i (nth t.mask (Pb t.mask h c) (q + 1))) Q E s := by
        have live : t.slot (nth t.mask (Pb t.mask h c) q).j = .live i := by
          rw [J]
          exact slot_live R.tab.ris place_i
        unfold searchRest
        rw [R.entry row]
        dsimp only
        refine wpAny_bind (wpAny_holding (wpAny_eqBool_tuple hu pT hx (wpAny_bind (wpAny_setState_of at_ data R.fits ?_))))
        dsimp only
        rw [if_neg (show ¬ (false && decide (p.2 = k)) = true from fun z => nomatch z)]
        rw [sameMem]
        dsimp only
        rw [if_pos rfl, live]
        dsimp only
        rw [R.entry row]
        dsimp only
        refine wpAny_bind (wpAny_isSame_ref_self (wpAny_bind (wpAny_pure ?_)))
        rw [if_pos rfl]
        dsimp only
        by_cases eq : p.2 = k
        · rw [if_pos (decide_eq_true eq)]
          exact wpAny_pure (yes (List.mem_map.mpr ⟨p, pL, eq⟩) i)
        · rw [if_neg (fun z => eq (of_decide_eq_true z))]
          refine ih (c + (q + 1)) _ (pb_on t.mask h c (q + 1)) (by omega) (by omega) fun d i' p' dl pl rl => ?_
          by_cases d1 : d < c
          · exact passed d i' p' d1 pl rl
          · by_cases d2 : d = c + q
            · subst d2
              cases same_row R place_i pl
              rw [row] at rl
              cases rl
              exact eq
            · intro e
              refine none_before (d - c) i' (by omega) (by rw [J, show c + (d - c) = d by omega]; exact pl) ?_
              rw [hash_row R rl, e]
              exact eH
      by_cases led : t.led = true
      · rw [if_neg (by rw [led]; decide)]
        exact main
      · rw [if_pos (by rw [Bool.not_eq_true] at led; rw [led]; rfl)]
        refine wpAny_bind (seen_tup hx (fun y hy => ?_) ?_)
        · obtain ⟨e, me, rfl⟩ := List.mem_map.mp hy
          have me : e ∈ es.toList := Array.mem_toList_iff.mpr (Array.mem_filter.mp (Array.mem_toList_iff.mp me)).1
          rw [R.rows] at me
          obtain ⟨r, mr, rfl⟩ := List.mem_map.mp me
          exact ⟨r.2, r.1, rfl, R.tup r mr⟩
        · rw [if_neg (fun z => nomatch z)]
          exact main
    · rw [go_is]
      dsimp only
      refine wpAny_pure (no (fun m => ?_) _)
      obtain ⟨p, pL, ek⟩ := List.mem_map.mp m
      obtain ⟨i, il, ei⟩ := List.getElem_of_mem pL
      have row : L[i]? = some p := by rw [List.getElem?_eq_getElem il, ei]
      have hi : (L.map fun p => thash P w p.2)[i]? = some h := by
        rw [List.getElem?_map, row, ← eH, ← ek]
        rfl
      have lt : i < t.place.toList.length := by
        have z := R.tab.sz
        rw [List.length_map] at z
        rw [Array.length_toList, z]
        exact il
      obtain ⟨d, dK, ed⟩ := R.tab.before free hi (List.getElem?_eq_getElem lt)
      have pl : t.place.toList[i]? = some (way t.mask h d) := by rw [List.getElem?_eq_getElem lt, ed]
      by_cases d1 : d < c
      · exact passed d i p d1 pl row ek
      · refine none_at_all (d - c) i (by omega) (by rw [J, show c + (d - c) = d by omega]; exact pl) ?_
        rw [hash_row R row, ek]
        exact eH
end
end Fo

namespace Fo
open PySem PySem.Spec PyProof.Rows L2
/-! ### a set of tuples of ints: set(), add, in -/
section
variable {P : Program} {w : World} {A : Around} {E : Value → Shared → Prop} {s : Shared} {a : Addr} {L : List (Addr × List Int)} {es : Array (Int × Value)} {ep : Nat} {t : SetTable}
theorem look_at (R : SetTR P w s.heap a L es ep t) {x : Addr} {k : List Int} (hx : IsT P w s.heap k x) (hu : A.units < cLine) {Q : Option Nat → Shared → Prop}
    (yes : k ∈ L.map (·.2) → ∀ i, Q (some i) s) (no : k ∉ L.map (·.2) → Q none s) : wpAny (model P w) A (setFind a (.ref x) (thash P w k)) Q E s := by
  obtain ⟨ob, at_, _, data⟩ := R.ob
  have room := R.room
  obtain ⟨K, short, free, full⟩ := R.tab.first (by rw [List.length_map]; omega) (thash P w k)
  have turns : SetTable.turns t.mask ≤ 142 := by
    unfold SetTable.turns
    rcases R.tab.mok with e | e | e <;> omega
  unfold setFind
  rw [show (100000 : Nat) = 99999 + 1 from rfl]
  unfold setFindIn
  refine wpAny_bind (wpAny_setState_of at_ data R.fits ?_)
  dsimp only
  rw [if_neg (show ¬ byScan (.ref x) es = true from fun z => by unfold byScan at z; simp [Value.scannable] at z)]
  unfold setSearch
  refine wpAny_bind (look_from R hx hu short free full (fun m i => wpAny_pure (yes m i)) (fun m j => wpAny_pure (no m)) 100000 0 none rfl (Nat.zero_le _) (by omega) fun d _ _ z => absurd z (Nat.not_lt_zero d))
theorem in_set (R : SetTR P w s.heap a L es ep t) {x : Addr} {k : List Int} (hx : IsT P w s.heap k x) (hu : A.units + 8 < cLine) {Q : Value → Shared → Prop} (q : ∀ tk, Q (.bool (decide (k ∈ L.map (·.2)))) { s with toks := tk }) :
    wpAny (model P w) A (compareOp .In (.ref x) (.ref a)) Q E s := by
  have ty : s.TypeIs (.ref a) "set" := by
    obtain ⟨ob, at_, ex, _⟩ := R.ob
    exact ⟨ob, at_, ex.1⟩
  show wpAny _ _ (contains (.ref a) (.ref x) >>= fun b => pure (.bool b)) Q E s
  refine wpAny_bind ?_
  unfold contains
  refine wpAny_holding (wpAny_bind (wpAny_specialOf ty F.slot_set_contains.lookup ?_))
  show wpAny _ _ (ite ((some (Value.builtin "set.__contains__") == some Value.none) = true) _ _) _ E s
  rw [if_neg (fun z => by rw [beq_builtin_none] at z; cases z)]
  refine wpAny_bind (wpAny_callSpecialUnlessNone?_slot (name := Str.ofString "__contains__") ty F.slot_set_contains (wpAny_call_entry F.slot_set_contains ty entry_set_contains ?_ (F.args_set_contains_2 _ _)))
  have told : ∀ E' : Value → Shared → Prop, wpAny (model P w) A.in1 (setContains a (.ref x)) (fun b s' => b = decide (k ∈ L.map (·.2)) ∧ ∃ tk, s' = { s with toks := tk }) E' s := by
    intro E'
    unfold setContains
    refine wpAny_holding (wpAny_bind (wpAny_pyHash_tuple (knd := intKind P w) (by show A.units + 1 < cLine; omega) hx ?_))
    refine wpAny_bind (look_at (s := { s with toks := s.toks + (k.length + 1) }) ⟨R.ob, R.rows, R.tab, R.nd, R.tup, R.plain, R.led, R.room, R.few⟩ hx (by show A.units + 1 < cLine; omega) (fun m i => ?_) fun m => ?_)
    · exact wpAny_pure ⟨(decide_eq_true m).symm, _, rfl⟩
    · exact wpAny_pure ⟨(decide_eq_false m).symm, _, rfl⟩
  unfold Builtin.«frozenset.__contains__» Builtin.Frozenset.oneOther Builtin.Frozenset.addrOf Builtin.Frozenset.withSetAsKey
  simp only [bind_assoc, List.isEmpty_nil]
  iterate 2 (refine wpAny_bind (wpAny_pure ?_); try dsimp only)
  refine wpAny_bind (wpAny_tryCatch (wpAny_mono (told _) (fun b s' z => ?_) fun _ _ z => z))
  obtain ⟨rfl, tk, rfl⟩ := z
  show wpAny _ _ (ret (Value.bool _)) _ _ _
  exact wpAny_pure ⟨_, rfl, wpAny_truthy_bool (wpAny_pure (q tk))⟩
end
section
variable {X : Cx}
/-- the tuples of ints that a set holds stand in the heap -/
abbrev Laid2 (H : Hp) (L : List (Addr × List Int)) : Prop := ∀ p ∈ L, H p.1 = some (.tup (p.2.map V.int))
/-- (i, j) in s -/
def rInT (P : Program) (w : World) : V → V → Hp → VK → Prop := fun x y H Q => ∃ (t a : Addr) (k : List Int) (L : List (Addr × List Int)), x = .ref t ∧ y = .ref a ∧ H a = some (SetTO P w a L) ∧ H t = some (.tup (k.map V.int)) ∧ Laid2 H L ∧ Q (.bl (decide (k ∈ L.map (·.2)))) H
theorem op_inT (hu : X.A.units + 64 < cLine) : OpR X (compareOp .In) (rInT X.prog X.w) := by
  rintro pins s σ H x y v u Q I rx ry ⟨t, a, k, L, rfl, rfl, ha, ht, hL, q⟩
  cases rx
  cases ry
  obtain ⟨es, ep, tb, R⟩ := SetT0.full (I.hok a _ ha).1 fun p m => I.isT (SqT.of (hL p m))
  exact in_set R (I.isT (SqT.of ht)) (by omega) fun tk => ⟨.bl (decide (k ∈ L.map fun p : Addr × List Int => p.2)), H, I.tok tk, rfl, q⟩
/-- s.add((i, j)) -/
def rPutT (P : Program) (w : World) : V → List V → Hp → VK → Prop := fun x xs H Q => ∃ (t a : Addr) (k : List Int) (L : List (Addr × List Int)), x = .ref a ∧ xs = [.ref t] ∧ H a = some (SetTO P w a L) ∧ H t = some (.tup (k.map V.int)) ∧ Laid2 H L ∧ L.length + 1 < 64 ∧
  ∀ L', (k ∈ L.map (·.2) → L' = L) → (k ∉ L.map (·.2) → L'.Perm ((t, k) :: L)) → Q .non (upd H a (SetTO P w a L'))
theorem mt_addT (hu : X.A.units + 64 < cLine) : MtR X "set.add" (rPutT X.prog X.w) := by
  rintro pins s σ H x xs v us Q I rx rxs ⟨t, a, k, L, rfl, rfl, ha, ht, hL, few, q⟩
  cases rx
  rw [Vals.ref1 rxs]
  obtain ⟨es, ep, tb, R⟩ := SetT0.full (I.hok a _ ha).1 fun p m => I.isT (SqT.of (hL p m))
  have ty : s.TypeIs (.ref a) "set" := by
    obtain ⟨ob, at_, ex, _⟩ := R.ob
    exact ⟨ob, at_, ex.1⟩
  refine wpAny_call_entry F.slot_set_add ty F.entry_set_add ?_ (F.args_set_add_2 _ _)
  unfold Builtin.«set.add» Builtin.Frozenset.oneOther Builtin.Frozenset.addrOf setAdd
  simp only [bind_assoc, List.isEmpty_nil]
  iterate 2 (refine wpAny_bind (wpAny_pure ?_); try dsimp only)
  have tT := I.isT (SqT.of ht)
  refine wpAny_bind (wpAny_holding (wpAny_bind (wpAny_pyHash_tuple (knd := intKind X.prog X.w) (by show X.A.units + 1 < cLine; omega) tT ?_)))
  refine add_at (s := { s with toks := s.toks + (k.length + 1) }) ⟨R.ob, R.rows, R.tab, R.nd, R.tup, R.plain, R.led, R.room, R.few⟩ tT (by show X.A.units + 1 < cLine; omega) few fun b h' L' es' ep' t' sb R' same more => ?_
  show wpAny _ _ (ret Value.none) _ _ _
  have there : ∃ u, h'.get? a = some u := by
    obtain ⟨ob, at_, _⟩ := R'.ob
    exact ⟨ob, at_⟩
  exact wpAny_pure ⟨_, rfl, .non, upd H a (SetTO X.prog X.w a L'), I.write (e := a) (t' := s.toks + (k.length + 1)) (by rw [ha]; trivial) (.inl rfl) (fun b u hb hu => (sb.2 b hb).trans hu) there (setTO_new R'.t0), rfl, q L' same more⟩
/-- set() -/
def rNewT (P : Program) (w : World) : List V → Hp → VK → Prop := fun xs H Q => xs = [] ∧ ∀ a, H a = none → Q (.ref a) (upd H a (SetTO P w a []))
theorem cr_newT : CallR X (.type "set") (rNewT X.prog X.w) := by
  rintro pins s σ H xs us Q I r ⟨rfl, q⟩
  cases r
  refine setR_new fun _ => ?_
  have R : SetTR X.prog X.w (s.heap.push { cls := .type "set", dict := none, data := .set #[] 0 (.fresh 0 0 (!X.w.params.followText "set-order")) }) s.heap.objs.size [] #[] 0 (.fresh 0 0 (!X.w.params.followText "set-order")) := setTR_fresh (Heap.get?_push_size _ rfl)
  exact ⟨.ref s.heap.objs.size, _, I.laid (t' := s.toks) (fun _ _ e => Heap.get?_push_of_some _ e) (Nat.le_refl _) (setTO_new R.t0), rfl, q _ (I.hok.fresh (Nat.le_refl _))⟩
theorem setT_is {P : Program} {w : World} {h : Heap} {a : Addr} {L : List (Addr × List Int)} (R : SetT0 P w h a L) : ∃ ob, h.get? a = some ob ∧ ob.cls = .type "set" ∧ ob.dict = none := by
  obtain ⟨_, _, _, ⟨ob, at_, ex, _⟩, _⟩ := R.ex
  exact ⟨ob, at_, ex.1, ex.2.1⟩
/-- o.add(e), o a set of tuples of ints -/
def tPut (P : Program) (w : World) (to : TE) (t : TA) : TE := fun σ H Q => to σ H fun x H1 => (∃ a L, x = V.ref a ∧ H1 a = some (SetTO P w a L)) ∧ t σ H1 fun xs H2 => rPutT P w x xs H2 Q
variable {o e : Expr} {es : List Expr} {to : TE} {t : TA} {apos cpos : Pos}
theorem pe_put (hu : X.A.units + 64 < cLine) (ho : PE X o to) (ha : PA X (e :: es) t) (b1 : attributeBase o "add" X.env (eval o X.env) = eval o X.env := by rfl)
    (b2 : ((backTo cpos (starEach (e :: es) X.env)).all (fun x => !x.1) && (backToKw cpos (keywordEach [] X.env)).all (fun x => x.1.isSome) && decide ((e :: es).length + ([] : List Keyword).length + (if ([] : List Keyword).isEmpty then 0 else 1) < 30)) = true := by rfl)
    (b3 : (apos.endLine == cpos.line) = true := by rfl) (b4 : starEach (e :: es) X.env = (false, eval e X.env) :: starEach es X.env := by rfl) (b5 : (backTo cpos (starEach es X.env)).any (·.1) = false := by rfl) :
    PE X (.Call (.Attribute o "add" apos) (e :: es) [] cpos) (tPut X.prog X.w to t) := ⟨fun pins s σ H Q I h => by
  refine wpAny_Call_method_late b1 b2 b3 rfl (thn (ho.run pins s σ H _ I h) fun v s1 z => ?_)
  obtain ⟨x, H1, I1, rx, ⟨a, L, rfl, there⟩, z⟩ := z
  obtain ⟨ob, at_, c1, c2⟩ := setT_is (I1.hok a _ there).1
  cases rx
  refine ⟨"set", "set.add", F.plainAttrs_set, F.slot_set_add, F.type_set_add, ⟨ob, at_, c1⟩, fun b eb => by cases eb; exact ⟨ob, at_, c2⟩, ?_⟩
  have args := ha.run cpos pins s1 σ H1 _ I1 z
  rw [b4] at args ⊢
  refine Calls.callWith_builtin (show (false || (backTo cpos (starEach es X.env)).any (·.1)) = false from b5) (Calls.evalArgs_plain (thn args fun us s2 y => ?_))
  obtain ⟨vs, H2, I2, r2, q2⟩ := y
  exact mt_addT hu pins s2 σ H2 (.ref a) vs (.ref a) us Q I2 rfl r2 q2⟩
end
end Fo

namespace Px
open PySem PySem.Spec PyProof.Rows L2 Fo TL
section
variable {F F' F0 G G' H H' : Hp} {σ σ' : L2.St} {S : List PV} {v u : V} {vs us : List V} {xs ys : List PV} {x y : PV}
/-- an own set of tuples of ints -/
def ASet (P : Program) (w : World) (ks : List (List Int)) : Asr where
  R := fun F H v fs => ∃ a L, v = .ref a ∧ fs = [a] ∧ H a = some (SetTO P w a L) ∧ (∀ p ∈ L, F p.1 = some (.tup (p.2.map V.int))) ∧ (L.map fun p => p.2).Perm ks
  stay := fun {F F' H H' v fs} h s k => by
    obtain ⟨a, L, rfl, rfl, h1, h2, h3⟩ := h
    exact ⟨a, L, rfl, rfl, by rw [k a (List.mem_singleton_self _)]; exact h1, fun p m => s _ _ (h2 p m), h3⟩
  has := fun {F H v fs} h b m => by
    obtain ⟨a, L, rfl, rfl, h1, _⟩ := h
    rw [List.mem_singleton.mp m]
    exact ⟨_, h1, fun _ z => nomatch z⟩
/-- set() -/
def pNewS (P : Program) (w : World) : PC' := fun S xs Q => xs = [] ∧ Q (.o (ASet P w [])) S
theorem sim_newS {P : Program} {w : World} : SimC (rNewT P w) (pNewS P w) := by
  intro F G H σ S vs xs Qp Q r hp k
  obtain ⟨rfl, hp⟩ := hp
  have hl : vs.length = 0 := by obtain ⟨_, _, r⟩ := r; exact r.vl.len
  have ev : vs = [] := List.eq_nil_of_length_eq_zero hl
  subst ev
  refine ⟨rfl, fun a na => ?_⟩
  exact k _ _ _ _ _ (RepA.new (f := [a]) r (same_new na) (fun b m => by rw [List.mem_singleton.mp m]; exact na) (List.nodup_cons.mpr ⟨fun m => (nomatch m), .nil⟩) (.o (A := ASet P w []) ⟨a, [], rfl, rfl, upd_same, (fun _ m => nomatch m), .refl _⟩)) (Same.refl _) hp
def intsP (k : List Int) : PyData := .tuple (k.map .int)
theorem ints_v : ∀ {k : List Int} {us : List V}, LvA F us (k.map .int) → us = k.map V.int
  | [], us, h => by
    cases h
    rfl
  | i :: k, us, h => by
    cases h with
    | cons h1 h2 =>
      cases h1
      rw [ints_v h2]
      rfl
/-- k in s -/
def pInS (P : Program) (w : World) : P2 := fun S x y Q => ∃ k ks, look S x = .d (intsP k) ∧ look S y = .o (ASet P w ks) ∧ Q (.d (.bool (decide (k ∈ ks)))) S
theorem sim_inS {P : Program} {w : World} : Sim2 (rInT P w) (pInS P w) := by
  intro F G H σ S v u x y Qp Q r hp k0
  obtain ⟨k, ks, e1, e2, hp⟩ := hp
  obtain ⟨f1, r1⟩ := r.look0
  obtain ⟨f2, r2⟩ := r.look1
  rw [e1] at r1
  rw [e2] at r2
  cases r2 with
  | o h =>
    obtain ⟨a, L, rfl, rfl, h1, h2, h3⟩ := h
    have l := r1.dat
    cases l with
    | tup z1 z2 =>
      have e := ints_v z2
      subst e
      refine ⟨_, a, k, L, rfl, rfl, h1, r.lf _ _ z1, fun p m => r.lf _ _ (h2 p m), ?_⟩
      have ed : decide (k ∈ L.map (·.2)) = decide (k ∈ ks) := by
        rw [decide_eq_decide]
        exact h3.mem_iff
      rw [ed]
      exact k0.dat r (.bl _) hp
/-- s.add(k) -/
def addX (P : Program) (w : World) (to : TX) (t : TXA) : TX := fun S Q => to S fun x S1 => (∃ ks, look S1 x = .o (ASet P w ks)) ∧ t S1 fun xs S2 => ∃ i ks k, x = .al i ∧ (frzA S2 xs).1 = [.d (intsP k)] ∧ (frzA S2 xs).2.getD i .un = .o (ASet P w ks) ∧ ks.length < 63 ∧
  force ((frzA S2 xs).2.set i (.o (ASet P w (if k ∈ ks then ks else ks ++ [k])))) (Q (.d .none))
theorem x_put {X : Cx} {e : Expr} {P : Program} {w : World} {to : TX} {tr : TXA} (h : PE X e (tPut P w (rw to) (rwA tr))) : PE X e (rw (addX P w to tr)) := PE_imp h fun σ H Q q => by
  obtain ⟨F, G, S, Qp, hr, ht, k0⟩ := q
  refine ⟨F, G, S, _, hr, ht, fun v x S1 F1 H1 r1 s1 h1 => ?_⟩
  obtain ⟨⟨ks0, e0⟩, h1⟩ := h1
  obtain ⟨f, rv⟩ := r1.look0
  rw [e0] at rv
  obtain ⟨G1, sg, r2, more⟩ := r1.aside
  cases rv with
  | o rv =>
    obtain ⟨a0, L0, rfl, rfl, at0, _⟩ := rv
    refine ⟨⟨a0, L0, rfl, at0⟩, F1, G1, S1, _, r2, h1, fun us ys S2 F2 H2 r3 s2 h2 => ?_⟩
    obtain ⟨F3, s3, r4⟩ := (more _ _ _ _ _ r3 s2).frzTl
    obtain ⟨i, ks, k, rfl, e1, e2, few, h2⟩ := h2
    have r4 : RepA F3 G H2 σ (frzA S2 ys).2 (V.ref a0 :: us) (.al i :: (frzA S2 ys).1) := r4
    rw [e1] at r4
    have kk := k0.up ((s1.trans s2).trans s3)
    generalize (frzA S2 ys).2 = S3 at r4 e2 h2
    have e3 : S3[i]? = some (.o (ASet P w ks)) := by
      rw [List.getD_eq_getElem?_getD] at e2
      cases z : S3[i]? with
      | none => rw [z] at e2; cases e2
      | some y => rw [z] at e2; exact congrArg some e2
    have hl : us.length = 1 := by
      obtain ⟨_, _, r⟩ := r4
      have := r.vl.len
      simpa using this
    match us, hl with
    | [u], _ =>
      obtain ⟨w1, f1, ew, rw1, off, chg⟩ := r4.chg e3 (fun z => nomatch z)
      have ev : σ[i]? = some (some (V.ref a0)) := by
        obtain ⟨_, ra⟩ := r4.hd
        cases ra with
        | al e => exact e
      rw [ev] at ew
      cases ew
      have du := r4.tl.dat
      cases rw1 with
      | o rw1 =>
        obtain ⟨a, L, ea, rfl, at1, laid, pm⟩ := rw1
        cases ea
        cases du with
        | tup z1 z2 =>
          have e := ints_v z2
          subst e
          refine ⟨_, a0, k, L, rfl, rfl, at1, r4.lf _ _ z1, fun p m => r4.lf _ _ (laid p m), by have := pm.length_eq; rw [List.length_map] at this; omega, fun L' same more' => ?_⟩
          refine kk.dat (chg (upd H2 a0 (SetTO P w a0 L')) (.o (ASet P w (if k ∈ ks then ks else ks ++ [k]))) [a0] (fun b o n z => by rw [upd_ne (fun z => n (by rw [z]; exact List.mem_singleton_self _))]; exact z)
            (.o (A := ASet P w _) ⟨a0, L', rfl, rfl, upd_same, ?_, ?_⟩) (List.nodup_cons.mpr ⟨fun m => (nomatch m), .nil⟩) fun b m => .inl m) .non (unforce h2)
          · by_cases c : k ∈ L.map (·.2)
            · rw [same c]
              exact laid
            · intro p m
              rcases List.mem_cons.mp ((more' c).mem_iff.mp m) with e | m
              · rw [e]
                exact z1
              · exact laid p m
          · by_cases c : k ∈ L.map (·.2)
            · rw [same c, if_pos (pm.mem_iff.mp c)]
              exact pm
            · rw [if_neg (fun z => c (pm.mem_iff.mpr z))]
              refine ((more' c).map fun p => p.2).trans ?_
              rw [List.map_cons]
              exact (List.perm_append_singleton k _).symm.trans (pm.append_right [k])
theorem x_cb0 {X : Cx} {e : Expr} {r : List V → Hp → VK → Prop} {p : PC'} (sim : SimC r p) (h : PE X e (fun _ H Q => r [] H Q)) : PE X e (rw (callX p nilA)) := PE_imp h fun σ H Q q => by
  obtain ⟨F, G, S, Qp, hr, ht, k⟩ := q
  exact sim _ _ _ _ _ [] [] _ _ hr ht k
/-- what Python takes for true -/
def trP (S : List PV) (x : PV) : Option Bool := match look S x with
  | .d (.bool b) => some b
  | .d .none => some false
  | .d (.list ds) => some (!ds.isEmpty)
  | .d (.tuple ds) => some (!ds.isEmpty)
  | .l ds => some (!ds.isEmpty)
  | _ => none
def truX (t : TX) : TXT := fun S Q => t S fun x S1 => ∃ b, trP S1 x = some b ∧ Q b S1
theorem empty_lv {ds : List PyData} {ws : List V} (l : LvA F ws ds) : (!ds.isEmpty) = !ws.isEmpty := by cases l <;> rfl
theorem trp_v {K : PySem.W.Frag} {f : List Addr} {b : Bool} (r : RV [] F H v (look S x) f) (s : Same F H) (e : trP S x = some b) : TruV K v H b := by
  unfold trP at e
  split at e
  · rename_i h
    rw [h] at r
    cases r.dat
    cases e
    exact rfl
  · rename_i h
    rw [h] at r
    cases r.dat
    cases e
    exact rfl
  · rename_i h
    rw [h] at r
    cases e
    cases r.dat with
    | lst z1 z2 => exact .inl ⟨_, SqL.of (s _ _ z1), empty_lv z2⟩
  · rename_i h
    rw [h] at r
    cases e
    cases r.dat with
    | tup z1 z2 => exact .inr (.inl ⟨_, SqT.of (s _ _ z1), empty_lv z2⟩)
  · rename_i h
    rw [h] at r
    cases e
    cases r with
    | l z1 z2 => exact .inl ⟨_, SqL.of z1, empty_lv z2⟩
  · cases e
theorem xt_tru {X : Cx} {K : PySem.W.Frag} {e : Expr} {t : TX} (eK : X.K = K) (h : PE X e (rw t)) (he : ∀ whole, isTrue e X.env whole = (do let v ← whole; standAt e.pos; holding [v] (truthy v)) := by intro _; rfl) : PT X e (rwT (truX t)) := by
  subst eK
  refine PT_imp (pt_truth h he) fun σ H Q q => ?_
  obtain ⟨F, G, S, Qp, hr, ht, k⟩ := q
  refine ⟨F, G, S, _, hr, ht, fun v x S1 F1 H1 r1 s1 h1 => ?_⟩
  obtain ⟨b, eb, h1⟩ := h1
  obtain ⟨f, rv⟩ := r1.look0
  exact ⟨b, trp_v rv r1.lf eb, k _ _ _ _ r1.rep s1 h1⟩
/-- a datum in a list of data -/
def pInD (neg : Bool) : P2 := fun S x y Q => ∃ d ds, look S x = .d d ∧ asList (look S y) = some ds ∧ SeqAt.shaped d = true ∧ SeqAt.shaped (.list ds) = true ∧ Q (.d (.bool (neg ^^ inD d ds))) S
theorem sim_inD2 {K : PySem.W.Frag} (neg : Bool) {Qp : KP} {Q : VK} (r : RepA F G H σ S [v, u] [x, y]) (hp : pInD neg S x y Qp) (k : Fin F G σ Qp Q) : ∃ d ds, Dp K H v d ∧ Dp K H u (.list ds) ∧ SeqAt.shaped d = true ∧ SeqAt.shaped (.list ds) = true ∧ Q (.bl (neg ^^ inD d ds)) H := by
  obtain ⟨d, ds, e1, e2, s1, s2, hp⟩ := hp
  obtain ⟨f1, r1⟩ := r.look0
  obtain ⟨f2, r2⟩ := r.look1
  rw [e1] at r1
  obtain ⟨p, ws, rfl, z1, l1⟩ := r2.lst r.lf e2
  refine ⟨d, ds, lv_dp d v (no_dict s1) (Lv.sm r.lf _ _ r1.dat), lv_dp (.list ds) (.ref p) (no_dict s2) (.lst z1 (LvA.sm r.lf _ _ l1)), s1, s2, ?_⟩
  exact k.dat r (.bl _) hp
theorem sim_inD {K : PySem.W.Frag} : Sim2 (rInD K) (pInD false) := by
  intro F G H σ S v u x y Qp Q r hp k
  obtain ⟨d, ds, a, b, c, e, q⟩ := sim_inD2 (K := K) false r hp k
  rw [Bool.false_xor] at q
  exact ⟨d, ds, a, b, c, e, q⟩
theorem sim_ninD {K : PySem.W.Frag} : Sim2 (rNotInD K) (pInD true) := by
  intro F G H σ S v u x y Qp Q r hp k
  obtain ⟨d, ds, a, b, c, e, q⟩ := sim_inD2 (K := K) true r hp k
  rw [Bool.true_xor] at q
  exact ⟨d, ds, a, b, c, e, q⟩
theorem un65 {k : Nat} {A : Around} (r : Room k A) : A.units + 65 < cLine := by have := r.un; omega
theorem kInD {X : Cx} {K : PySem.W.Frag} (e : X.K = K) (hu : X.A.units + 65 < cLine) : OpR X (compareOp .In) (rInD K) := e ▸ op_inD hu
theorem kNinD {X : Cx} {K : PySem.W.Frag} (e : X.K = K) (hu : X.A.units + 65 < cLine) : OpR X (compareOp .NotIn) (rNotInD K) := e ▸ op_notInD hu
/-! three names at once -/
def parS3 (i j l : Nat) (ta : TXA) : TXS := fun D S => ta S fun xs S1 => match (takeX S1 xs).1 with
  | [x, y, z] => force ((((takeX S1 xs).2.set i x).set j y).set l z) D.nx
  | _ => False
theorem xs_par3 {X : Cx} {kp : Nat → Bool} {i j l : Nat} {ta : TXA} {st : Stmt} (hi : kp i = false) (hj : kp j = false) (hk : kp l = false) (h : PS X st (tPar3 i j l (rwA ta))) : PS X st (rwS kp (parS3 i j l ta)) := PS_imp h fun D σ H q => by
  obtain ⟨F, G, S, Dp, hr, ht, k⟩ := q
  refine ⟨F, G, S, _, hr, ht, fun vs xs S1 F1 H1 r1 s1 h1 => ?_⟩
  have hl : vs.length = xs.length := by obtain ⟨_, _, r⟩ := r1; exact r.vl.len
  have hm := RepA.takeAll (dv := []) (done := []) hl (by rw [List.append_nil, List.append_nil]; exact r1) (fun _ m => nomatch m)
  rw [List.nil_append, List.nil_append] at hm
  generalize (takeX S1 xs).1 = as at hm h1
  generalize (takeX S1 xs).2 = S2 at hm h1
  obtain ⟨r2, na⟩ := hm
  have hl2 : vs.length = as.length := by obtain ⟨_, _, r⟩ := r2; exact r.vl.len
  split at h1
  · rename_i x y z
    match vs, hl2 with
    | [u, v, w], _ =>
      obtain ⟨G1, sg, r3, more⟩ := RepA.aside2 (vs := [u]) (xs := [x]) r2 rfl
      have r4 := r3.setv (fun m e => na x (List.mem_cons_self ..) m e) i
      have r5 := more _ _ _ _ [] [] r4 (Same.refl _) (.inr fun e m => na e (List.mem_cons_of_mem _ m))
      rw [List.append_nil, List.append_nil] at r5
      obtain ⟨G2, sg2, r6, more2⟩ := RepA.aside2 (vs := [v]) (xs := [y]) r5 rfl
      have r7 := r6.setv (fun m e => na y (List.mem_cons_of_mem _ (List.mem_cons_self ..)) m e) j
      have r8 := more2 _ _ _ _ [] [] r7 (Same.refl _) (.inr fun e m => na e (List.mem_cons_of_mem _ (List.mem_cons_of_mem _ m)))
      rw [List.append_nil, List.append_nil] at r8
      have r9 := r8.setv (fun m e => na z (List.mem_cons_of_mem _ (List.mem_cons_of_mem _ (List.mem_cons_self ..))) m e) l
      exact ⟨u, v, w, rfl, k.nx _ _ _ _ r9 s1 (((Kp.set hi).trans (Kp.set hj)).trans (Kp.set hk)) (unforce h1)⟩
  · exact h1.elim
/-! a call by keywords, with the numbers of its values -/
def callN (n m : Nat) (c : Ct) (t tk : TXA) : TX := fun S Q => t S fun xs S1 => tk S1 fun ys S2 => xs.length = n ∧ ys.length = m ∧ c (takeX S2 (xs ++ ys)).1 fun r as' => force (giveX (takeX S2 (xs ++ ys)).2 (xs ++ ys) as') (Q r)
theorem callN_sim {c : Ct} {ta tk : TXA} {n m : Nat} {E : XK} {σ : L2.St} {H : Hp} {Q : VK} (q : rw (callN n m c ta tk) σ H Q) : tCallN n m (spP c) (fun vs zs => vs ++ zs) E (rwA ta) (rwA tk) σ H Q := by
  obtain ⟨F, G, S, Qp, hr, ht, k⟩ := q
  refine ⟨F, G, S, _, hr, ht, fun vs xs S1 F1 H1 r1 s1 h1 => ?_⟩
  have l1 : vs.length = xs.length := by obtain ⟨_, _, r⟩ := r1; exact r.vl.len
  obtain ⟨G1, sg, r2, more⟩ := r1.aside
  refine ⟨F1, G1, S1, _, r2, h1, fun us ys S2 F2 H2 r3 s2 h2 => ?_⟩
  have l2 : us.length = ys.length := by obtain ⟨_, _, r⟩ := r3; exact r.vl.len
  obtain ⟨e1, e2, h2⟩ := h2
  have r4 := more _ _ _ _ _ r3 s2
  obtain ⟨G2, rc, back⟩ := r4.callee
  exact ⟨l1.trans e1, l2.trans e2, F2, G2, _, _, rc, h2, fun v r as' F' H' r5 s3 q2 => k _ _ _ _ _ (back _ _ _ _ _ r5 s3) ((s1.trans s2).trans s3) (unforce q2)⟩
theorem x_callN {X : Cx} {e : Expr} {c : Ct} {ta tk : TXA} {n m : Nat} {E : XK} (h : PE X e (tCallN n m (spP c) (fun vs zs => vs ++ zs) E (rwA ta) (rwA tk))) : PE X e (rw (callN n m c ta tk)) := PE_imp h fun _ _ _ q => callN_sim q
end
end Px

namespace Fo
open PySem PySem.Spec PyProof.Rows L2
/-! ### data with dicts in it, shown as a text -/
def Shw (P : Program) (w : World) (h : Heap) (u : Value) (d : PyData) : Prop := (∃ as, Reads h u d as) ∧ ∃ bs, ReadAtMost h d.depth bs ∧ ReprK P w bs h d.depth u d.shown
def ShwA (P : Program) (w : World) (h : Heap) (n : Nat) (us : List Value) (ds : List PyData) : Prop := (∃ as, ReadsAll h us ds as) ∧ ∃ bs, ReadAtMost h n bs ∧ ReprAllK P w bs h n us (PyData.shownAll ds)
section
variable {P : Program} {w : World} {h : Heap}
theorem ShwA.nil {n : Nat} : ShwA P w h n [] [] := ⟨⟨_, .nil⟩, [], (fun _ z => nomatch z), by simp only [PyData.shownAll]; exact .nil⟩
theorem ShwA.cons {n : Nat} {u : Value} {d : PyData} {us : List Value} {ds : List PyData} (k : d.depth ≤ n) (h1 : Shw P w h u d) (h2 : ShwA P w h n us ds) : ShwA P w h n (u :: us) (d :: ds) := by
  obtain ⟨⟨as, r1⟩, b1, l1, k1⟩ := h1
  obtain ⟨⟨bs, r2⟩, b2, l2, k2⟩ := h2
  refine ⟨⟨_, .cons r1 r2⟩, b1 ++ b2, (l1.mono k).append l2, ?_⟩
  simp only [PyData.shownAll]
  exact .cons ((k1.more fun b m => List.mem_append_left b2 m).level_le k) (k2.more_le (fun b m => List.mem_append_right b1 m) (Nat.le_refl n))
theorem ShwA.le {n m : Nat} {us : List Value} {ds : List PyData} (k : n ≤ m) (h1 : ShwA P w h n us ds) : ShwA P w h m us ds := by
  obtain ⟨r, bs, l, k1⟩ := h1
  exact ⟨r, bs, l.mono k, k1.more_le (fun _ m => m) k⟩
theorem Shw.is {u : Value} {d : PyData} (r : ∃ as, Reads h u d as) (k : ReprIs P w u d.shown) : Shw P w h u d := ⟨r, [], (fun _ z => nomatch z), .of_is k _ _ _⟩
/-- what is shown as a whole is within the line -/
def Fits (d : PyData) : Prop := d.showable = true ∧ d.shown.length ≤ sizeLine
theorem Fits.seq {ds : List PyData} (h : Fits (.list ds) ∨ Fits (.tuple ds)) : PyData.showableAll ds = true ∧ ∀ t ∈ PyData.shownAll ds, t.length ≤ sizeLine := by
  rcases h with ⟨h1, h2⟩ | ⟨h1, h2⟩
  · simp only [PyData.showable] at h1
    simp only [PyData.shown] at h2
    exact ⟨h1, fun t m => Nat.le_trans (listText_mem_le m) h2⟩
  · simp only [PyData.showable] at h1
    simp only [PyData.shown] at h2
    exact ⟨h1, fun t m => Nat.le_trans (tupleText_mem_le m) h2⟩
theorem Fits.head {d : PyData} {ds : List PyData} (h1 : PyData.showableAll (d :: ds) = true) (h2 : ∀ t ∈ PyData.shownAll (d :: ds), t.length ≤ sizeLine) : Fits d ∧ PyData.showableAll ds = true ∧ ∀ t ∈ PyData.shownAll ds, t.length ≤ sizeLine := by
  simp only [PyData.showableAll, Bool.and_eq_true] at h1
  simp only [PyData.shownAll, List.mem_cons] at h2
  exact ⟨⟨h1.1, h2 _ (.inl rfl)⟩, h1.2, fun t m => h2 t (.inr m)⟩
theorem Fits.dict {es : List (PyData × PyData)} (h : Fits (.dict es)) : ∀ p ∈ es, Fits p.1 ∧ Fits p.2 := by
  obtain ⟨h1, h2⟩ := h
  simp only [PyData.showable] at h1
  simp only [PyData.shown] at h2
  have a : ∀ t ∈ PyData.shownKv es, t.length ≤ sizeLine := fun t m => Nat.le_trans (dictText_mem_le m) h2
  clear h2
  induction es with
  | nil => exact fun _ m => nomatch m
  | cons e es ih =>
    obtain ⟨k, v⟩ := e
    simp only [PyData.showableKv, Bool.and_eq_true] at h1
    simp only [PyData.shownKv, List.mem_cons] at a
    have top := a _ (.inl rfl)
    rw [strLen_append, strLen_append] at top
    intro p m
    rcases List.mem_cons.mp m with rfl | m
    · exact ⟨⟨h1.1.1, by show k.shown.length ≤ _; omega⟩, ⟨h1.1.2, by show v.shown.length ≤ _; omega⟩⟩
    · exact ih h1.2 (fun t m => a t (.inr m)) p m
end
section
variable {X : Cx} {pins : List (Addr × Obj)} {σ : L2.St} {H : Hp} {s : Shared}
theorem key_shw {k : Key} {u : Value} (r : RelV (kV k) u) (f : Fits (kD k)) : Shw X.prog X.w s.heap u (kD k) := by
  cases k with
  | inl i =>
    obtain ⟨t, rfl⟩ := r
    exact Shw.is ⟨_, .int i t⟩ (by have := f.1; simp only [kD, PyData.showable] at this; simp only [kD, PyData.shown]; exact ReprIs.int t (of_decide_eq_true this))
  | inr x =>
    obtain ⟨t, rfl⟩ := r
    exact Shw.is ⟨_, .str x t⟩ (by have := f.2; simp only [kD, PyData.shown] at this ⊢; exact ReprIs.str x t this)
mutual
theorem lv_shw (I : Inv X pins σ H s) : ∀ (d : PyData) (v : V) (u : Value), Lv H v d → RelV v u → Fits d → Shw X.prog X.w s.heap u d
  | .none, _, _, h, r, _ => by
    cases h
    cases r
    exact Shw.is ⟨_, .none⟩ (by simp only [PyData.shown]; exact ReprIs.none)
  | .bool b, _, _, h, r, _ => by
    cases h
    cases r
    exact Shw.is ⟨_, .bool b⟩ (by simp only [PyData.shown]; exact ReprIs.bool b)
  | .int i, _, _, h, r, f => by
    cases h
    obtain ⟨t, rfl⟩ := r
    exact key_shw (k := .inl i) ⟨t, rfl⟩ f
  | .str x, _, _, h, r, f => by
    cases h
    obtain ⟨t, rfl⟩ := r
    exact key_shw (k := .inr x) ⟨t, rfl⟩ f
  | .list ds, _, _, h, r, f => by
    cases h with
    | lst h1 h2 =>
      cases r
      obtain ⟨its, rv, ⟨o, n, ho, hc, _, hd⟩, _⟩ := I.list (SqL.of h1)
      obtain ⟨f1, f2⟩ := Fits.seq (.inl f)
      obtain ⟨⟨as, ra⟩, bs, l, k⟩ := lva_shw I ds _ its h2 rv f1 f2
      have rd := Reads.list ho hc hd ra
      refine ⟨⟨_, rd⟩, ?_⟩
      cases its with
      | nil =>
        cases ra
        simp only [PyData.shown, PyData.shownAll, listText_nil]
        exact ⟨[], (fun _ z => nomatch z), .listEmpty ho hc hd⟩
      | cons x its =>
        have out := not_mem_of_deeper rd (by simp only [PyData.depth]; omega) l
        refine ⟨_, .cons rd (by simp only [PyData.depth]; omega) l, ?_⟩
        simp only [PyData.shown, PyData.depth]
        exact ReprK.list ho hc hd out (by simpa using k.length_eq) fun i y e => k.item i y (by simpa using e)
  | .tuple ds, _, _, h, r, f => by
    cases h with
    | tup h1 h2 =>
      cases r
      obtain ⟨its, rv, ⟨o, ho, hc, n, hd⟩, _⟩ := I.tuple (SqT.of h1)
      obtain ⟨f1, f2⟩ := Fits.seq (.inr f)
      obtain ⟨⟨as, ra⟩, bs, l, k⟩ := lva_shw I ds _ its h2 rv f1 f2
      have rd := Reads.tuple ho hc hd ra
      have out := not_mem_of_deeper rd (by simp only [PyData.depth]; omega) l
      refine ⟨⟨_, rd⟩, _, .cons rd (by simp only [PyData.depth]; omega) l, ?_⟩
      simp only [PyData.shown, PyData.depth]
      exact ReprK.tuple ho hc hd out k
  | .dict es, _, _, h, r, f => by
    cases h with
    | dct h1 h2 =>
      cases r
      obtain ⟨_, low, vs, kv, o, des, ep, ho, hx, hd, _, ps, _⟩ := dk_of I.hok h1
      obtain ⟨a1, a2⟩ := lvk_shw I es _ vs des.toList h2 kv ps f.dict
      obtain ⟨⟨as, r1⟩, b1, l1, k1⟩ := a1
      obtain ⟨⟨bs, r2⟩, b2, l2, k2⟩ := a2
      have rd := Reads.dict ho hx.1 hd r1 r2
      have out := not_mem_of_deeper rd (by simp only [PyData.depth]; omega) (l1.append l2)
      refine ⟨⟨_, rd⟩, _, .cons rd (by simp only [PyData.depth]; omega) (l1.append l2), ?_⟩
      simp only [PyData.shown, PyData.shownKv_eq, PyData.depth]
      exact ReprK.dict ho hx.1 hd low out (ReprEntriesK.of_two des.toList _ _ (k1.more_le (fun b m => List.mem_append_left b2 m) (Nat.le_refl _)) (k2.more_le (fun b m => List.mem_append_right b1 m) (Nat.le_refl _)))
theorem lva_shw (I : Inv X pins σ H s) : ∀ (ds : List PyData) (vs : List V) (us : List Value), LvA H vs ds → Vals vs us → PyData.showableAll ds = true → (∀ t ∈ PyData.shownAll ds, t.length ≤ sizeLine) → ShwA X.prog X.w s.heap (PyData.depthAll ds) us ds
  | [], _, _, h, r, _, _ => by
    cases h
    cases r
    exact .nil
  | d :: ds, _, _, h, r, f1, f2 => by
    obtain ⟨fd, f1, f2⟩ := Fits.head f1 f2
    cases h with
    | cons h1 h2 =>
      cases r with
      | cons q1 q2 => exact .cons (by simp only [PyData.depthAll]; omega) (lv_shw I d _ _ h1 q1 fd) ((lva_shw I ds _ _ h2 q2 f1 f2).le (by simp only [PyData.depthAll]; omega))
theorem lvk_shw (I : Inv X pins σ H s) : ∀ (es : List (PyData × PyData)) (kvs : List (Key × V)) (vs : List (Key × Value)) (des : List DictEntry), LvK H kvs es → KV kvs vs → Pairs (mixKind X.prog X.w) des vs → (∀ p ∈ es, Fits p.1 ∧ Fits p.2) →
    ShwA X.prog X.w s.heap (PyData.depthKv es) (des.map (·.key)) (es.map (·.1)) ∧ ShwA X.prog X.w s.heap (PyData.depthKv es) (des.map (·.val)) (es.map (·.2))
  | [], _, _, _, h, r, q, _ => by
    cases h
    cases r
    cases q
    exact ⟨.nil, .nil⟩
  | (k, d) :: es, _, _, _, h, r, q, f => by
    cases h with
    | cons h1 h2 =>
      cases r with
      | cons r1 r2 =>
        cases q with
        | cons q1 q2 q3 =>
          obtain ⟨a1, a2⟩ := lvk_shw I es _ _ _ h2 r2 q3 fun p m => f p (List.mem_cons_of_mem _ m)
          have fd := f _ (List.mem_cons_self ..)
          obtain ⟨e1, e2⟩ := r1
          refine ⟨.cons (by simp only [PyData.depthKv]; omega) (key_shw (keyIs_rel ?_) fd.1) (a1.le (by simp only [PyData.depthKv]; omega)), .cons (by simp only [PyData.depthKv]; omega) (lv_shw I d _ _ h1 ?_ fd.2) (a2.le (by simp only [PyData.depthKv]; omega))⟩
          · rw [← e1] at q1
            exact q1
          · rw [← q2] at e2
            exact e2
end
/-- repr of any data -/
def rShow : List V → Hp → VK → Prop := fun xs H Q => ∃ v d, xs = [v] ∧ Lv H v d ∧ Fits d ∧ d.depth ≤ 60 ∧ Q (.str d.shown) H
theorem call_show {k : Nat} (hg : X.A.guards = some []) (hr : Room k X.A) : CallR X (.builtin "repr") rShow := by
  intro pins s σ H xs us Q I r h
  obtain ⟨v, d, rfl, hd, f, dep, q⟩ := h
  have un := hr.un
  cases r with
  | cons ru rest =>
    cases rest
    rename_i u
    cases d with
    | none =>
      cases hd
      cases ru
      simp only [PyData.shown] at q
      exact P.repr_of_none ⟨.str _, H, I.tok _, ⟨_, rfl⟩, q⟩
    | bool b =>
      cases hd
      cases ru
      simp only [PyData.shown] at q
      exact P.repr_of_bool ⟨.str _, H, I.tok _, ⟨_, rfl⟩, q⟩
    | int i =>
      cases hd
      obtain ⟨t, rfl⟩ := ru
      have z := f.1
      simp only [PyData.showable] at z
      simp only [PyData.shown] at q
      exact P.repr_of_int (of_decide_eq_true z) ⟨.str _, H, I.tok _, ⟨_, rfl⟩, q⟩
    | str x =>
      cases hd
      obtain ⟨t, rfl⟩ := ru
      have z := f.2
      simp only [PyData.shown] at z q
      exact P.repr_of_str ⟨.str _, H, I.tok _, ⟨_, rfl⟩, q⟩ z
    | list ds =>
      cases hd with
      | lst h1 h2 =>
        cases ru
        obtain ⟨its, rv, ⟨o, n, ho, hc, _, hd⟩, _⟩ := I.list (SqL.of h1)
        obtain ⟨f1, f2⟩ := Fits.seq (.inl f)
        obtain ⟨⟨as, ra⟩, bs, l, kk⟩ := lva_shw I ds _ its h2 rv f1 f2
        have rd := Reads.list ho hc hd ra
        have z := f.2
        have dp : (PyData.list ds).depth = PyData.depthAll ds + 1 := by simp only [PyData.depth]
        refine call_repr_slot (by omega) ⟨o, ho, hc⟩ F.slot_list_repr.toG ?_
        cases its with
        | nil =>
          cases ra
          simp only [PyData.shown, PyData.shownAll, listText_nil] at q
          exact call_list_repr_empty ⟨o, ho, hc⟩ ho hd ⟨_, _, rfl, .str _, H, I.tok _, ⟨_, rfl⟩, q⟩
        | cons x its =>
          have out := not_mem_of_deeper rd (by omega) l
          simp only [PyData.shown] at q z
          exact call_list_reprK ho hc hd out (by simpa using kk.length_eq) (fun i y e => kk.item i y (by simpa using e)) hg (fun b _ => Clear.nil b) (by show X.A.units + 1 + _ < _; omega) (fun _ _ e => e) (fun h' u tk hk => ⟨_, _, rfl, .str _, H, I.kept hk, ⟨_, rfl⟩, q⟩) z
    | tuple ds =>
      cases hd with
      | tup h1 h2 =>
        cases ru
        obtain ⟨its, rv, ⟨o, ho, hc, n, hd⟩, _⟩ := I.tuple (SqT.of h1)
        obtain ⟨f1, f2⟩ := Fits.seq (.inr f)
        obtain ⟨⟨as, ra⟩, bs, l, kk⟩ := lva_shw I ds _ its h2 rv f1 f2
        have rd := Reads.tuple ho hc hd ra
        have z := f.2
        have dp : (PyData.tuple ds).depth = PyData.depthAll ds + 1 := by simp only [PyData.depth]
        have out := not_mem_of_deeper rd (by omega) l
        simp only [PyData.shown] at q z
        exact call_repr_slot (by omega) ⟨o, ho, hc⟩ F.slot_tuple_repr (call_tuple_reprK ho hc hd out kk hg (fun b _ => Clear.nil b) (by show X.A.units + 1 + _ < _; omega) (fun _ _ e => e) (fun h' u tk hk => ⟨_, _, rfl, .str _, H, I.kept hk, ⟨_, rfl⟩, q⟩) z)
    | dict es =>
      cases hd with
      | dct h1 h2 =>
        cases ru
        obtain ⟨_, low, vs, kv, o, des, ep, ho, hx, hd, _, ps, _⟩ := dk_of I.hok h1
        obtain ⟨a1, a2⟩ := lvk_shw I es _ vs des.toList h2 kv ps f.dict
        obtain ⟨⟨as, r1⟩, b1, l1, k1⟩ := a1
        obtain ⟨⟨bs, r2⟩, b2, l2, k2⟩ := a2
        have rd := Reads.dict ho hx.1 hd r1 r2
        have z := f.2
        have dp : (PyData.dict es).depth = PyData.depthKv es + 1 := by simp only [PyData.depth]
        have out := not_mem_of_deeper rd (by omega) (l1.append l2)
        simp only [PyData.shown, PyData.shownKv_eq] at q z
        exact call_repr_slot (by omega) ⟨o, ho, hx.1⟩ F.slot_dict_repr (call_dict_reprK ho hx.1 hd low out (ReprEntriesK.of_two des.toList _ _ (k1.more_le (fun b m => List.mem_append_left b2 m) (Nat.le_refl _)) (k2.more_le (fun b m => List.mem_append_right b1 m) (Nat.le_refl _))) hg (fun b _ => Clear.nil b) (by show X.A.units + 1 + _ < _; omega) (fun _ _ e => e) (fun h' u tk hk => ⟨_, _, rfl, .str _, H, I.kept hk, ⟨_, rfl⟩, q⟩) z)
/-- a tuple is the empty one -/
def rEq0 : R2 := fun x y H Q => ∃ a b xs, x = .ref a ∧ y = .ref b ∧ H a = some (.tup xs) ∧ H b = some (.tup []) ∧ Q (.bl xs.isEmpty) H
theorem op_eq0 (hu : X.A.units < cLine) : OpR X (compareOp .Eq) rEq0 := by
  intro pins s σ H x y v u Q I rx ry h
  obtain ⟨a, b, xs, rfl, rfl, ha, hb, q⟩ := h
  cases rx
  cases ry
  obtain ⟨its, rv, h1, _⟩ := I.tuple (SqT.of ha)
  obtain ⟨its2, rv2, h2, _⟩ := I.tuple (SqT.of hb)
  cases rv2
  refine SeqAt.eq_tupleAt (e := fun _ => true) h1 h2 hu (fun j _ z => absurd z (Nat.not_lt_zero j)) ?_
  refine ⟨.bl xs.isEmpty, H, I, ?_, q⟩
  cases rv <;> rfl
theorem asL {h : Heap} {a : Addr} {items : Array Value} (p : PlainL h a items) : h.IsList a items := by
  obtain ⟨o, n, ho, hc, _, hd⟩ := p
  exact ⟨o, ho, hc, n, hd⟩
/-- a list is the empty one -/
def rEqL0 (neg : Bool) : R2 := fun x y H Q => ∃ a b xs, x = .ref a ∧ y = .ref b ∧ H a = some (.lst xs) ∧ H b = some (.lst []) ∧ Q (.bl (neg ^^ xs.isEmpty)) H
theorem op_eqL0 (hu : X.A.units < cLine) : OpR X (compareOp .Eq) (rEqL0 false) := by
  intro pins s σ H x y v u Q I rx ry h
  obtain ⟨a, b, xs, rfl, rfl, ha, hb, q⟩ := h
  cases rx
  cases ry
  obtain ⟨its, rv, h1, _⟩ := I.list (SqL.of ha)
  obtain ⟨its2, rv2, h2, _⟩ := I.list (SqL.of hb)
  cases rv2
  rw [Bool.false_xor] at q
  cases rv with
  | nil => exact SeqAt.eq_listAt (e := fun _ => true) (asL h1) (asL h2) rfl hu (fun j _ z => absurd z (Nat.not_lt_zero j)) ⟨.bl true, H, I, rfl, q⟩
  | cons r1 r2 => exact SeqAt.eq_list_lengthsAt (asL h1) (asL h2) rfl hu ⟨.bl false, H, I, rfl, q⟩
theorem op_neL0 (hu : X.A.units < cLine) : OpR X (compareOp .NotEq) (rEqL0 true) := by
  intro pins s σ H x y v u Q I rx ry h
  obtain ⟨a, b, xs, rfl, rfl, ha, hb, q⟩ := h
  cases rx
  cases ry
  obtain ⟨its, rv, h1, _⟩ := I.list (SqL.of ha)
  obtain ⟨its2, rv2, h2, _⟩ := I.list (SqL.of hb)
  cases rv2
  rw [Bool.true_xor] at q
  cases rv with
  | nil => exact SeqAt.RcNeAt.lists (e := fun _ => true) (asL h1) (asL h2) rfl hu (fun j _ z => absurd z (Nat.not_lt_zero j)) X.prog X.w _ _ ⟨.bl false, H, I, rfl, q⟩
  | cons r1 r2 => exact SeqAt.RcNeAt.lists_lengths (asL h1) (asL h2) rfl hu X.prog X.w _ _ ⟨.bl true, H, I, rfl, q⟩
end
end Fo

namespace Px
open PySem PySem.Spec PyProof.Rows L2 Fo TL
section
variable {F F' F0 G G' H H' : Hp} {σ σ' : L2.St} {S : List PV} {v u : V} {vs us : List V} {xs ys : List PV} {x y : PV} {Qp : KP} {Q : VK} {X : Cx} {e : Expr}
/-! ### any data shown -/
def pShow (S : List PV) (x : PV) (Q : KP) : Prop := ∃ d, asD (look S x) = some d ∧ Fits d ∧ d.depth ≤ 60 ∧ Q (.d (.str d.shown)) S
theorem RV.lv {f : List Addr} {a : PyData} (r : RV [] F H v x f) (s : Same F H) (e : asD x = some a) : Lv H v a := by
  cases r with
  | d h => cases e; exact Lv.sm s _ _ h
  | l h1 h2 => cases e; exact .lst h1 (LvA.sm s _ _ h2)
  | _ => cases e
theorem sim_show : Sim1 rShow pShow := by
  intro F G H σ S v x Qp Q r hp k
  obtain ⟨f, rv⟩ := r.look0
  obtain ⟨d, e1, ft, dep, hp⟩ := hp
  exact ⟨v, d, rfl, rv.lv r.lf e1, ft, dep, k.dat r (.str _) hp⟩
/-! ### dicts as data -/
def ADct (es : List (PyData × PyData)) : Asr where
  R := fun F H v fs => ∃ p kvs, v = .ref p ∧ fs = [p] ∧ H p = some (.dK kvs) ∧ LvK F kvs es
  stay := fun {F F' H H' v fs} h s k => by
    obtain ⟨p, kvs, rfl, rfl, h1, h2⟩ := h
    exact ⟨p, kvs, rfl, rfl, by rw [k p (List.mem_singleton_self _)]; exact h1, LvK.sm s _ _ h2⟩
  has := fun {F H v fs} h a m => by
    obtain ⟨p, kvs, rfl, rfl, h1, h2⟩ := h
    rw [List.mem_singleton.mp m]
    exact ⟨_, h1, fun _ z => nomatch z⟩
theorem RepA.freezeD {es : List (PyData × PyData)} (h : RepA F G H σ S (v :: vs) (.o (ADct es) :: xs)) : ∃ F', Same F F' ∧ RepA F' G H σ S (v :: vs) (.d (.dict es) :: xs) := by
  obtain ⟨f, fs, h⟩ := h
  cases hv : h.vl with
  | cons h1 h2 =>
    rename_i f1 fv
    cases h1 with
    | o h1 =>
      obtain ⟨p, kvs, rfl, rfl, e, lk⟩ := h1
      have nd := List.nodup_cons.mp (show (p :: (fv ++ fs)).Nodup by simpa using h.nd)
      obtain ⟨hp1, hp2⟩ := h.off p (by simp)
      have sF : Same F (upd F p (.dK kvs)) := fun a u q => by
        by_cases z : a = p
        · rw [z, hp1] at q
          cases q
        · rw [upd_ne z]
          exact q
      refine ⟨_, sF, fv, fs, fun a u q => ?_, h.lg, h.sl.stay sF (fun _ _ => rfl), RVs.cons (f := []) (.d (.dct upd_same (LvK.sm sF _ _ lk))) (h2.stay sF _ _ _ fun _ _ => rfl), nd.2, fun a m => ?_, fun a u q => ?_⟩
      · rcases upd_mine q with ⟨rfl, rfl⟩ | ⟨_, q⟩
        · exact e
        · exact h.lf a u q
      · have z : a ≠ p := fun z => nd.1 (z ▸ m)
        rw [upd_ne z]
        exact h.off a (by simpa using Or.inr (List.mem_append.mp m))
      · have z : a ≠ p := fun z => by rw [z, hp2] at q; cases q
        rw [upd_ne z]
        exact h.dj a u q
theorem RepA.newD {p : Addr} {kvs : List (Key × V)} {es : List (PyData × PyData)} (h : RepA F G H σ S vs xs) (n : H p = none) (l : LvK F kvs es) : RepA F G (upd H p (.dK kvs)) σ S (.ref p :: vs) (.o (ADct es) :: xs) :=
  RepA.new (f := [p]) h (fun a o q => by rw [upd_ne (fun z => by rw [z, n] at q; cases q)]; exact q) (fun a m => by rw [List.mem_singleton.mp m]; exact n) (List.nodup_cons.mpr ⟨(fun m => nomatch m), .nil⟩) (.o ⟨p, kvs, rfl, rfl, upd_same, l⟩)
theorem RepA.chgD {p : Addr} {kvs : List (Key × V)} {es es' : List (PyData × PyData)} (h : RepA F G H σ S (.ref p :: vs) (.o (ADct es) :: xs)) (l : LvK F kvs es') : RepA F G (upd H p (.dK kvs)) σ S (.ref p :: vs) (.o (ADct es') :: xs) := by
  obtain ⟨f, fs, h⟩ := h
  cases hv : h.vl with
  | cons h1 h2 =>
    rename_i f1 fv
    cases h1 with
    | o h1 =>
      obtain ⟨q, kvs0, e, rfl, e1, lk⟩ := h1
      cases e
      have nd := List.nodup_cons.mp (show (p :: (fv ++ fs)).Nodup by simpa using h.nd)
      obtain ⟨hp1, hp2⟩ := h.off p (by simp)
      have keep : ∀ a ∈ fv ++ fs, upd H p (.dK kvs) a = H a := fun a m => upd_ne fun z => nd.1 (z ▸ m)
      have stay : ∀ {K : Hp}, Same K H → K p = none → Same K (upd H p (.dK kvs)) := fun {K} sk z a o q => by
        rw [upd_ne fun y => by rw [y, z] at q; cases q]
        exact sk a o q
      exact ⟨[p] ++ fv, fs, stay h.lf hp1, stay h.lg hp2, h.sl.stay (Same.refl _) fun a m => keep a (List.mem_append_right _ m), RVs.cons (.o ⟨p, kvs, rfl, rfl, upd_same, l⟩) (h2.stay (Same.refl _) _ _ _ fun a m => keep a (List.mem_append_left _ m)), h.nd, h.off, h.dj⟩
def dct0 : TX := fun S Q => Q (.d (.dict [])) S
theorem x_dct0 (h : PE X e tDNewK) : PE X e (rw dct0) := PE_imp h fun σ H Q q => by
  obtain ⟨F, G, S, Qp, hr, ht, k⟩ := q
  intro p n
  obtain ⟨F', s', r'⟩ := (hr.newD n .nil).freezeD
  exact k _ _ _ _ _ r' s' ht
/-- {k: v} -/
def pDct1 : P2 := fun S x y Q => match x, y with
  | .d (.int i), .d d => Q (.d (.dict [(.int i, d)])) S
  | .d (.str t), .d d => Q (.d (.dict [(.str t, d)])) S
  | _, _ => False
def dct1 (tk tv : TX) : TX := fun S Q => tk S fun x S1 => tv S1 fun y S2 => pDct1 S2 x y Q
theorem x_dct1 {tk tv : TX} (h : PE X e (tDisp [(rw tk, rw tv)])) : PE X e (rw (dct1 tk tv)) := PE_imp h fun σ H Q q => by
  obtain ⟨F, G, S, Qp, hr, ht, k⟩ := q
  intro p n
  have r0 := hr.newD n .nil
  obtain ⟨G1, sg, r1, more1⟩ := r0.aside
  refine ⟨F, G1, S, _, r1, ht, fun vk x S1 F1 H1 r2 s1 h1 => ?_⟩
  obtain ⟨G2, sg2, r3, more2⟩ := r2.aside
  refine ⟨F1, G2, S1, _, r3, h1, fun vy y S2 F2 H2 r4 s2 h2 => ?_⟩
  have r5 := more1 _ _ _ _ _ (more2 _ _ _ _ _ r4 s2) (s1.trans s2)
  have r5 : RepA F2 G H2 σ S2 [.ref p, vk, vy] [.o (ADct []), x, y] := r5
  have e0 : H2 p = some (.dK []) := by
    obtain ⟨f, r⟩ := r5.hd
    cases r with
    | o r =>
      obtain ⟨p', kvs, e, _, e1, lk⟩ := r
      cases e
      cases lk
      exact e1
  refine ⟨e0, ?_⟩
  have fin : ∀ (key : Key) (d : PyData), vk = kV key → Lv F2 vy d → Qp (.d (.dict [(kD key, d)])) S2 → ∃ kvs : List (Key × V), [(vk, vy)] = kvs.map (fun kv => (kV kv.1, kv.2)) ∧ kvs.length ≤ 15 ∧ Q (.ref p) (upd H2 p (.dK (mergeK [] kvs))) := fun key d ek ld q => by
    refine ⟨[(key, vy)], by rw [ek]; rfl, Nat.le_of_ble_eq_true rfl, ?_⟩
    have em : mergeK [] [(key, vy)] = [(key, vy)] := rfl
    rw [em]
    obtain ⟨F3, s3, r6⟩ := (r5.chgD (kvs := [(key, vy)]) (es' := [(kD key, d)]) (.cons ld .nil)).freezeD
    have r7 : RepA F3 G (upd H2 p (.dK [(key, vy)])) σ S2 [.ref p] [.d (.dict [(kD key, d)])] := (r6.rep).withD r6.dat
    exact k _ _ _ _ _ r7 ((s1.trans s2).trans s3) q
  have h2 : pDct1 S2 x y Qp := h2
  unfold pDct1 at h2
  clear r2 h1 more2 r4
  split at h2
  · rename_i i d _ _
    have ey := r5.tl.tl.dat
    cases r5.tl.dat
    exact fin (.inl i) d rfl ey h2
  · rename_i t d _ _
    have ey := r5.tl.tl.dat
    cases r5.tl.dat
    exact fin (.inr t) d rfl ey h2
  · exact h2.elim
theorem un0 {k : Nat} {A : Around} (r : Room k A) : A.units < cLine := by have := r.un; omega
/-! ### is the empty tuple -/
def pEq0 : P2 := fun S x y Q => match look S x, look S y with
  | .d (.tuple a), .d (.tuple []) => Q (.d (.bool a.isEmpty)) S
  | _, _ => False
theorem sim_eq0 : Sim2 rEq0 pEq0 := by
  intro F G H σ S v u x y Qp Q r hp k
  obtain ⟨f1, r1⟩ := r.look0
  obtain ⟨f2, r2⟩ := r.look1
  unfold pEq0 at hp
  split at hp
  · rename_i a e1 e2
    rw [e1] at r1
    rw [e2] at r2
    obtain ⟨p, ws, rfl, g1, l1⟩ := r1.tup r.lf
    obtain ⟨q, zs, rfl, g2, l2⟩ := r2.tup r.lf
    cases l2
    refine ⟨p, q, ws, rfl, rfl, g1, g2, k.dat r (.bl _) ?_⟩
    cases l1 <;> exact hp
  · exact hp.elim
def pEqL0 (neg : Bool) : P2 := fun S x y Q => ∃ a, asList (look S x) = some a ∧ asList (look S y) = some [] ∧ Q (.d (.bool (neg ^^ a.isEmpty))) S
theorem sim_eqL0 {neg : Bool} : Sim2 (rEqL0 neg) (pEqL0 neg) := by
  intro F G H σ S v u x y Qp Q r hp k
  obtain ⟨f1, r1⟩ := r.look0
  obtain ⟨f2, r2⟩ := r.look1
  obtain ⟨a, e1, e2, hp⟩ := hp
  obtain ⟨p, ws, rfl, g1, l1⟩ := r1.lst r.lf e1
  obtain ⟨q, zs, rfl, g2, l2⟩ := r2.lst r.lf e2
  cases l2
  refine ⟨p, q, ws, rfl, rfl, g1, g2, k.dat r (.bl _) ?_⟩
  cases l1 <;> exact hp
/-! ### str of an int -/
def pStrOf (S : List PV) (x : PV) (Q : KP) : Prop := match look S x with
  | .d (.int i) => i.natAbs.log2 < 1920 ∧ Q (.d (.str (toString i))) S
  | _ => False
theorem sim_strOf : Sim1 (fun xs H Q => ∃ i, xs = [V.int i] ∧ i.natAbs.log2 < 1920 ∧ Q (.str (toString i)) H) pStrOf := by
  intro F G H σ S v x Qp Q r hp k
  obtain ⟨f, rv⟩ := r.look0
  unfold pStrOf at hp
  split at hp
  · rename_i i e1
    rw [e1] at rv
    cases rv.dat
    exact ⟨i, rfl, hp.1, k.dat r (.str _) hp.2⟩
  · exact hp.elim
/-! ### a tuple or a text turned about -/
def tBackG (te : TE) (ts : TO) : TE := fun σ H Q => te σ H fun x H1 => ts σ H1 fun st H2 => st = some (-1) ∧ ((∃ a xs, x = .ref a ∧ H2 a = some (.tup xs) ∧ New (.tup xs.reverse) H2 Q) ∨ ∃ z : Str, x = .str z ∧ z.length ≤ sizeLine ∧ Q (.str (tx (tl z).reverse)) H2)
theorem rev_list (l : List Nat) : ((List.range l.length).map fun k => l.getD (l.length - 1 - k) 0) = l.reverse := by
  refine List.ext_getElem (by simp) fun i h1 h2 => ?_
  have hi : i < l.length := by simpa using h1
  rw [List.getElem_map, List.getElem_range, List.getElem_reverse, List.getD_eq_getElem?_getD, List.getElem?_eq_getElem (by omega)]
  rfl
theorem rev_get (x : Str) (u : Tok) : Txt.sliceBy x none none (-1, u) = tx (tl x).reverse := by
  refine ext_tl ?_
  rw [tl_tx, ← rev_list]
  refine (step_rev_list x u).trans ?_
  refine List.map_congr_left fun k _ => ?_
  obtain ⟨⟨c⟩⟩ := x
  show c.toArray.getD (c.length - 1 - k) 0 = c.getD (c.length - 1 - k) 0
  simp
theorem item_backS {P : Program} {w : World} {A : Around} {E : Value → Shared → Prop} {s : Shared} {x : Str} {t u : Tok} {sl : Addr} {Q : Value → Shared → Prop} (hs : s.heap.IsSliceOf sl .none .none (.int (-1) u)) (hz : x.length ≤ sizeLine)
    (goal : Q (.str (tx (tl x).reverse) s.toks) { s with toks := s.toks + 1 }) : wpAny (model P w) A (getItem (.str x t) (.ref sl)) Q E s := by
  refine wpAny_getItem_str_slice (l := none) (u := none) (st := some (-1, u)) hs rfl ?_
  have no : ¬ (((((some ((-1 : Int), u)).map (·.1)).getD 1 == 1) && (slicePicked x none none (some (-1, u))).length == x.length) = true) := by
    have e : (((some ((-1 : Int), u)).map (·.1)).getD 1 == 1) = false := rfl
    rw [e]
    simp
  have e := rev_get x u
  unfold Txt.sliceBy at e
  rw [if_neg no] at e
  unfold sliceMade
  rw [if_neg no, e]
  exact ⟨by show (tx (tl x).reverse).length ≤ _; rw [len_tl, tl_tx, List.length_reverse, ← len_tl]; exact hz, goal⟩
theorem pe_backG {X : Cx} {e st : Expr} {te : TE} {ts : TO} {p2 pos : Pos} (he : PE X e te) (hs : PO X (some st) ts) : PE X (.Subscript e (.Slice none none (some st) p2) pos) (tBackG te ts) := by
  refine ⟨fun pins s σ H Q I h => Subscript_ (thn (he.run pins s σ H _ I h) fun v s1 ⟨x, H1, I1, r1, q1⟩ => wpAny_Slice ?_)⟩
  rw [evalPart_none]
  refine wpAny_pure (wpAny_pure (thn (hs.run pins s1 σ H1 _ I1 q1) fun vs s2 told => ?_))
  obtain ⟨z, H2, I2, part, rfl, kind⟩ := told
  cases part with | int _ u =>
  have I3 : Inv X pins σ H2 { s2 with heap := s2.heap.push { cls := .type "slice", data := .fields #[.none, .none, .int (-1) u] } } := I2.kept (t' := s2.toks) fun b o q => Heap.get?_push_of_some _ q
  rcases kind with ⟨a, xs, rfl, ha, goal⟩ | ⟨y, rfl, hz, goal⟩
  · cases r1
    obtain ⟨its, r, ht, small⟩ := I3.tuple (SqT.of (K := X.K) ha)
    have len : its.toArray.size = xs.length := by rw [List.size_toArray, r.length]
    show wpAny _ _ (subscriptTail e (.Slice none none (some st) p2) (.ref a) (.ref s2.heap.objs.size)) _ _ _
    refine tail_any (ops := [.ref a, .ref s2.heap.objs.size]) ht.typeIs PyProof.Rows.slot_tuple_getitem.lookup (item_back ht (Heap.IsSliceOf.new ..) (by rw [len]; exact small) ?_) (by with_unfolding_all rfl)
    refine ⟨.ref _, _, I3.laid (t' := s2.toks) (o := .tup xs.reverse) (fun b o q => Heap.get?_push_of_some _ q) (Nat.le_refl _) ?_, rfl, goal.at _ (I3.hok.fresh (Nat.le_refl _))⟩
    exact ⟨by rw [List.length_reverse]; exact small, _, vals_back r, IsTup.new _ _⟩
  · obtain ⟨t, rfl⟩ := r1
    show wpAny _ _ (subscriptTail e (.Slice none none (some st) p2) (.str y t) (.ref s2.heap.objs.size)) _ _ _
    exact tail_any (ops := [.str y t, .ref s2.heap.objs.size]) (typeIs_str _ _ _) F.slot_str_getitem.lookup (item_backS (Heap.IsSliceOf.new ..) hz ⟨.str _, H2, I3.tok _, ⟨_, rfl⟩, goal⟩) (by with_unfolding_all rfl)
def backG (te ts : TX) : TX := fun S Q => te S fun x S1 => ts S1 fun s S2 => asInt s = some (-1) ∧ match look S2 x with
  | .d (.tuple a) => Q (.d (.tuple a.reverse)) S2
  | .d (.str a) => (tl a).length ≤ 16777216 ∧ Q (.d (.str (tx (tl a).reverse))) S2
  | _ => False
theorem x_backG {te ts : TX} (h : PE X e (tBackG (rw te) (tPart (rw ts)))) : PE X e (rw (backG te ts)) := PE_imp h fun σ H Q q => by
  obtain ⟨F, G, S, Qp, hr, ht, k⟩ := q
  refine ⟨F, G, S, _, hr, ht, fun v x S1 F1 H1 r1 s1 h1 => ?_⟩
  obtain ⟨G1, sg, r2, more⟩ := r1.aside
  refine ⟨F1, G1, S1, _, r2, h1, fun u y S2 F2 H2 r3 s2 h2 => ?_⟩
  have r4 := more _ _ _ _ _ r3 s2
  obtain ⟨ei, h2⟩ := h2
  cases int_dat ei
  cases r4.tl.dat
  obtain ⟨f, rv⟩ := r4.look0
  refine ⟨-1, rfl, rfl, ?_⟩
  split at h2
  · rename_i a e1
    rw [e1] at rv
    obtain ⟨p, ws, rfl, g1, l1⟩ := rv.tup r4.lf
    exact .inl ⟨p, ws, rfl, g1, ((k.up (s1.trans s2)).tup r4 (LvA.rev l1) h2).new⟩
  · rename_i a e1
    rw [e1] at rv
    cases rv.dat
    exact .inr ⟨a, rfl, by rw [len_tl, ← line_eq]; exact h2.1, (k.up (s1.trans s2)).dat r4 (.str _) h2.2⟩
  · exact h2.elim
end
end Px

namespace Px
open PySem PySem.Spec PyProof.Rows L2 Fo TL
section
variable {F F' F0 G G' H H' : Hp} {σ σ' : L2.St} {S : List PV} {v u : V} {vs us : List V} {xs ys : List PV} {x y : PV} {Pw : Program × World}
/-- the signs of a text, as an own set -/
def ATxt (Pw : Program × World) (t : Cs) : Asr where
  R := fun _ H v fs => ∃ a n, v = .ref a ∧ fs = [a] ∧ H a = some (SetT Pw a (fun y => decide (∃ c ∈ t, y = one c)) n) ∧ n ≤ t.length
  stay := fun {F F' H H' v fs} h _ k => by
    obtain ⟨a, n, rfl, rfl, h1, h2⟩ := h
    exact ⟨a, n, rfl, rfl, by rw [k a (List.mem_singleton_self _)]; exact h1, h2⟩
  has := fun {F H v fs} h b m => by
    obtain ⟨a, n, rfl, rfl, h1, _⟩ := h
    rw [List.mem_singleton.mp m]
    exact ⟨_, h1, fun _ z => nomatch z⟩
def pSet (Pw : Program × World) (S : List PV) (x : PV) (Q : KP) : Prop := ∃ t, look S x = .d (.str (tx t)) ∧ t.length < 90 ∧ Q (.o (ATxt Pw t)) S
theorem sim_set : Sim1 (rSetTx Pw) (pSet Pw) := by
  intro F G H σ S v x Qp Q r hp k
  obtain ⟨f, rv⟩ := r.look0
  obtain ⟨t, e, few, hp⟩ := hp
  rw [e] at rv
  cases rv.dat
  refine ⟨t, rfl, few, fun p H' n np s e n1 => ?_⟩
  exact k _ _ _ _ _ (RepA.new (f := [p]) r.rep s (fun b m => by rw [List.mem_singleton.mp m]; exact np) (List.nodup_cons.mpr ⟨fun m => (nomatch m), .nil⟩) (.o (A := ATxt Pw t) ⟨p, n, rfl, rfl, e, n1⟩)) (Same.refl _) hp
def pSortSet (Pw : Program × World) (S : List PV) (x : PV) (Q : KP) : Prop := ∃ t, look S x = .o (ATxt Pw t) ∧ t.length < 64 ∧ ∀ u : Cs, u.Pairwise (· < ·) → (∀ c, c ∈ u ↔ c ∈ t) → Q (.l (u.map fun c => .str (tx [c]))) S
theorem sim_sortset : Sim1 (rSortT Pw) (pSortSet Pw) := by
  intro F G H σ S v x Qp Q r hp k
  obtain ⟨f, rv⟩ := r.look0
  obtain ⟨t, e, few, hp⟩ := hp
  rw [e] at rv
  cases rv with
  | o h =>
    obtain ⟨a, n, rfl, rfl, h1, h2⟩ := h
    refine ⟨a, _, n, rfl, h1, by omega, fun ys so nd mem len => ?_⟩
    obtain ⟨w, rfl, up, sub⟩ := signs_of rfl so nd mem
    refine k.lst r ?_ (hp w up sub)
    clear so nd mem len up sub
    induction w with
    | nil => exact .nil
    | cons c w ih => exact .cons (.str _) ih
end
end Px

namespace Fo
open PySem PySem.Spec PyProof.Rows L2 TL
/-! ### sorted(text) -/
theorem signs_vals {x : Str} {acc : Array Value} (h : ItemsOf (SignAt x) acc x.cps.size) : (∀ v ∈ acc.toList, ∃ y t, v = Value.str y t) ∧ acc.toList.map strOf = (tl x).map one := by
  obtain ⟨sz, at_⟩ := h
  refine ⟨fun v m => ?_, List.ext_getElem? fun i => ?_⟩
  · obtain ⟨i, e⟩ := List.mem_iff_getElem?.mp m
    obtain ⟨c, u, _, rfl⟩ := at_ i v (by rw [← Array.getElem?_toList]; exact e)
    exact ⟨_, u, rfl⟩
  · rw [List.getElem?_map, List.getElem?_map]
    cases e : acc.toList[i]? with
    | none =>
      have : acc.toList.length ≤ i := List.getElem?_eq_none_iff.mp e
      rw [Array.length_toList, sz] at this
      have e2 : (tl x)[i]? = none := List.getElem?_eq_none_iff.mpr (by rw [show (tl x).length = x.cps.size from Array.length_toList]; exact this)
      rw [e2]
      rfl
    | some v =>
      obtain ⟨c, u, ec, rfl⟩ := at_ i v (by rw [← Array.getElem?_toList]; exact e)
      have e2 : (tl x)[i]? = some c := by rw [← ec, ← Array.getElem?_toList]
      rw [e2]
      rfl
section
variable {P : Program} {w : World} {A : Around} {E : Value → Shared → Prop} {s : Shared}
theorem sort_chars {x : Str} {t : Tok} {Q : Value → Shared → Prop} (calm : A.handled = none) (few : x.cps.size < 64)
    (goal : ∀ (s1 s' : Shared) (p : Addr) (out : Array Value) (e : Nat) (ys : List Str), (∀ b o, s.heap.get? b = some o → s1.heap.get? b = some o) → s1.gens = s.gens → s1.os = s.os → s'.heap.get? p = some (seqObj "list" out e) → StrsAre out.toList ys → ys.Perm ((tl x).map one) → sortedS ys = true → s1.heap.objs.size ≤ p →
      (∀ b o, s1.heap.get? b = some o → s'.heap.get? b = some o) → s'.gens = s1.gens → s'.os = s1.os → Q (.ref p) s') :
    wpAny (model P w) A (call (.builtin "sorted") [.str x t]) Q E s := by
  refine Calls.call_function_entry kind_sorted plain_sorted entry_sorted (args_sorted1 _) (wpAny_bind (m := checkCount "sorted" 1 1 _) (wpAny_pure (wpAny_bind ?_)))
  refine wpAny_collect_str (A := A.in1) (by simpa using calm) x t (fun s1 acc kept gens drawn os items => ?_) (by rw [sizeLine_eq]; omega)
  obtain ⟨each, are0⟩ := signs_vals items
  have long : acc.toList.length = x.cps.size := by rw [Array.length_toList, items.1]
  have S := strsAre_map acc.toList each
  refine wpAny_bind (wpAny_newList ?_ (by rw [long, sizeLine_eq]; omega))
  have list : (s1.heap.push (seqObj "list" acc.toList.toArray 0)).get? s1.heap.objs.size = some (seqObj "list" acc.toList.toArray 0) := Heap.get?_push_size _ rfl
  refine wpAny_bind (wpAny_holding (wpAny_call_entry slot_list_sort ⟨_, list, rfl⟩ entry_list_sort (list_sort_treeK strKind_oneLt list S.keysOf (fun v u rest e => keyKind_strs (e ▸ S)) (by omega) fun st pm hs => ⟨_, rfl, ?_⟩) (args_list_sort _)))
  obtain ⟨ys, are, py, sorted⟩ := sorted_out_str S pm hs
  obtain ⟨e, stands⟩ := sortedHeap_at (vs := acc.toList) (out := (arrOf st).map (·.2)) list
  rw [are0] at py
  refine wpAny_pure ⟨_, rfl, goal s1 _ _ _ e ys kept gens os stands are py sorted (Nat.le_refl _) (fun b o h1 => ?_) rfl rfl⟩
  have lt := Heap.lt_size h1
  refine (sortedHeap_old (Nat.ne_of_lt lt) ?_).trans (Heap.get?_push_of_some _ h1)
  rw [size_push']
  exact Nat.lt_succ_of_lt lt
end
section
variable {X : Cx}
def rSortC : List V → Hp → VK → Prop := fun vs H Q => ∃ x : Str, vs = [.str x] ∧ (tl x).length < 64 ∧ ∀ u : Cs, u.Perm (tl x) → New (.lst (u.map fun c => V.str (tx [c]))) H Q
theorem kSortC (calm : X.calm = true) : CallR X (.builtin "sorted") rSortC := by
  rintro pins s σ H _ us Q I r ⟨x, rfl, few, goal⟩
  obtain ⟨v, rfl, t, rfl⟩ := vals1 r
  refine sort_chars (I.ok.hd calm) (by rw [show x.cps.size = (tl x).length from Array.length_toList.symm]; exact few) fun s1 s' p out c ys k1 gn1 o1 stands texts perm sorted high k2 gn2 o2 => ?_
  have I1 : Inv X pins σ H s1 := I.call' (ch := []) o1 (Un.kept k1) (I.hok.kept k1) (by rw [gn1]; exact I.bare) (fun _ z => nomatch z)
  have new : H p = none := I1.hok.fresh high
  obtain ⟨u, rfl⟩ : ∃ u : Cs, ys = u.map one := by
    have : ∀ y ∈ ys, ∃ c, one c = y := fun y m => by
      obtain ⟨c, _, e⟩ := List.mem_map.mp (perm.mem_iff.mp m)
      exact ⟨c, e⟩
    clear perm sorted texts
    induction ys with
    | nil => exact ⟨[], rfl⟩
    | cons y ys ih =>
      obtain ⟨c, ec⟩ := this y (List.mem_cons_self ..)
      obtain ⟨u, eu⟩ := ih fun z m => this z (List.mem_cons_of_mem _ m)
      exact ⟨c :: u, by rw [List.map_cons, ec, eu]⟩
  have back : ∀ l : Cs, (l.map one).map (fun y => (tl y).headD 0) = l := fun l => by
    rw [List.map_map]
    exact (List.map_congr_left fun c _ => rfl).trans (List.map_id l)
  have pu : u.Perm (tl x) := by
    have := perm.map fun y => (tl y).headD 0
    rw [back, back] at this
    exact this
  have J : Inv X pins σ (upd H p (.lst ((u.map one).map V.str))) s' := I1.call' (ch := []) o2 (Un.laid k2 high new) (I1.hok.laid k2 high ⟨by rw [List.length_map, List.length_map, pu.length_eq, sizeLine_eq]; omega, out.toList, c, vals_of_strs texts, stands⟩) (by rw [gn2]; exact I1.bare) (fun _ z => nomatch z)
  rw [List.map_map] at J
  exact ⟨.ref p, _, J, rfl, (goal u pu).at p new⟩
end
end Fo

namespace Px
open PySem PySem.Spec PyProof.Rows L2 Fo TL
section
variable {F F' F0 G G' H H' : Hp} {σ σ' : L2.St} {S : List PV} {v u : V} {vs us : List V} {xs ys : List PV} {x y : PV}
/-- the signs of a text, sorted -/
def pSortC (S : List PV) (x : PV) (Q : KP) : Prop := ∃ t, look S x = .d (.str (tx t)) ∧ t.length < 64 ∧ ∀ u : Cs, u.Perm t → Q (.l (u.map fun c => .str (tx [c]))) S
theorem sim_sortC : Sim1 rSortC pSortC := by
  intro F G H σ S v x Qp Q r hp k
  obtain ⟨f, rv⟩ := r.look0
  obtain ⟨t, e, few, hp⟩ := hp
  rw [e] at rv
  cases rv.dat
  refine ⟨tx t, rfl, by rw [tl_tx]; exact few, fun u pm => ?_⟩
  rw [tl_tx] at pm
  refine k.lst r ?_ (hp u pm)
  clear pm
  induction u with
  | nil => exact .nil
  | cons c u ih => exact .cons (.str _) ih
end
end Px

namespace Px
open PySem PySem.Spec PyProof.Rows L2 Fo TL
section
variable {F F' F0 G G' H H' : Hp} {σ σ' : L2.St} {S : List PV} {v u : V} {vs us : List V} {xs ys : List PV} {x y : PV} {Qp : KP} {Q : VK} {X : Cx} {e : Expr}
/-! ### dicts of some pairs -/
def keyB : PyData → PyData → Bool
  | .int i, .int j => decide (i = j)
  | .str a, .str b => decide (tl a = tl b)
  | _, _ => false
def keysOk : List (PyData × PyData) → Bool
  | [] => true
  | p :: r => !(r.any fun q => keyB p.1 q.1) && keysOk r
theorem keyB_self {k : Key} : keyB (kD k) (kD k) = true := by
  cases k <;> exact decide_eq_true rfl
theorem putK_fresh : ∀ {acc : List (Key × V)} {k : Key} {v : V}, (∀ p ∈ acc, p.1 ≠ k) → putK acc k v = acc ++ [(k, v)] := by
  intro acc k v h
  unfold putK
  split
  · rename_i z
    obtain ⟨p, m, e⟩ := List.any_eq_true.mp z
    exact absurd (by simpa using e) (h p m)
  · rfl
theorem merge_new : ∀ {kvs acc : List (Key × V)}, ((acc ++ kvs).map (·.1)).Nodup → mergeK acc kvs = acc ++ kvs
  | [], acc, _ => (List.append_nil acc).symm
  | (k, v) :: kvs, acc, h => by
    have e : putK acc k v = acc ++ [(k, v)] := putK_fresh fun p m z => by
      rw [List.map_append] at h
      exact (List.nodup_append.mp h).2.2 p.1 (List.mem_map.mpr ⟨p, m, rfl⟩) k (List.mem_cons_self ..) z
    show mergeK (putK acc k v) kvs = _
    rw [e, merge_new (by rw [List.append_assoc]; exact h), List.append_assoc]
    rfl
theorem keys_nodup : ∀ {es : List (PyData × PyData)} {kvs : List (Key × V)}, LvK F kvs es → keysOk es = true → (kvs.map (·.1)).Nodup
  | [], _, h, _ => by cases h; exact .nil
  | e :: es, _, h, k => by
    cases h with
    | cons h1 h2 =>
      have k : (!(es.any fun q => keyB (kD _) q.1) && keysOk es) = true := k
      rw [Bool.and_eq_true, Bool.not_eq_true'] at k
      refine List.nodup_cons.mpr ⟨fun m => ?_, keys_nodup h2 k.2⟩
      have no := k.1
      clear k h1
      have mem : ∀ {es : List (PyData × PyData)} {kvs : List (Key × V)} {k0 : Key}, LvK F kvs es → k0 ∈ kvs.map (·.1) → (es.any fun q => keyB (kD k0) q.1) = true := by
        intro es
        induction es with
        | nil => intro kvs k0 h m; cases h; cases m
        | cons e es ih =>
          intro kvs k0 h m
          cases h with
          | cons h1 h2 =>
            rcases List.mem_cons.mp m with rfl | m
            · rw [List.any_cons, keyB_self, Bool.true_or]
            · rw [List.any_cons, ih h2 m, Bool.or_true]
      rw [mem h2 m] at no
      cases no
def dctPut (es : List (PyData × PyData)) (x y : PV) (k : List (PyData × PyData) → Prop) : Prop := match x, y with
  | .d (.int i), .d d => k (es ++ [(.int i, d)])
  | .d (.str t), .d d => k (es ++ [(.str t, d)])
  | _, _ => False
def dctGo : List (TX × TX) → List (PyData × PyData) → List PV → KP → Prop
  | [], es, S, Q => keysOk es = true ∧ Q (.d (.dict es)) S
  | (tk, tv) :: r, es, S, Q => tk S fun x S1 => tv S1 fun y S2 => dctPut es x y fun es' => dctGo r es' S2 Q
theorem lvk_snoc : ∀ {es : List (PyData × PyData)} {kvs : List (Key × V)} {k : Key} {v : V} {d : PyData}, LvK F kvs es → Lv F v d → LvK F (kvs ++ [(k, v)]) (es ++ [(kD k, d)])
  | [], _, _, _, _, h, l => by cases h; exact .cons l .nil
  | e :: es, _, _, _, _, h, l => by
    cases h with
    | cons h1 h2 => exact .cons h1 (lvk_snoc h2 l)
theorem dct_pairs {p : Addr} : ∀ (trs : List (TX × TX)) {F : Hp} {H : Hp} {S : List PV} {kvs0 : List (Key × V)} {es0 : List (PyData × PyData)} {W : List (V × V) → Hp → Prop}, RepA F G H σ S [.ref p] [.o (ADct [])] → LvK F kvs0 es0 → dctGo trs es0 S Qp →
    (∀ F' S' H' kvs es, Same F F' → RepA F' G H' σ S' [.ref p] [.o (ADct [])] → LvK F' (kvs0 ++ kvs) es → keysOk es = true → Qp (.d (.dict es)) S' → kvs.length = trs.length → W (kvs.map fun kv => (kV kv.1, kv.2)) H') →
    tPairs (trs.map fun t => (rw t.1, rw t.2)) σ H W
  | [], F, H, S, kvs0, es0, W, r, l, q, k => k F S H [] es0 (Same.refl _) r (by rw [List.append_nil]; exact l) q.1 q.2 rfl
  | (tk, tv) :: trs, F, H, S, kvs0, es0, W, r, l, q, k => by
    obtain ⟨G1, sg, r1, more1⟩ := r.aside
    refine ⟨F, G1, S, _, r1, q, fun vk x S1 F1 H1 r2 s1 h1 => ?_⟩
    obtain ⟨G2, sg2, r3, more2⟩ := r2.aside
    refine ⟨F1, G2, S1, _, r3, h1, fun vy y S2 F2 H2 r4 s2 h2 => ?_⟩
    have r5 := more1 _ _ _ _ _ (more2 _ _ _ _ _ r4 s2) (s1.trans s2)
    have r5 : RepA F2 G H2 σ S2 [.ref p, vk, vy] [.o (ADct []), x, y] := r5
    have fin : ∀ (key : Key) (d : PyData), vk = kV key → Lv F2 vy d → dctGo trs (es0 ++ [(kD key, d)]) S2 Qp → tPairs (trs.map fun t => (rw t.1, rw t.2)) σ H2 fun ps H3 => W ((vk, vy) :: ps) H3 := fun key d ek ld q2 => by
      have r6 : RepA F2 G H2 σ S2 [.ref p] [.o (ADct [])] := by
        exact RepA.drop (vs := [vk, vy]) (xs := [x, y]) (RepA.turn (vs := [.ref p]) (xs := [.o (ADct [])]) (us := [vk, vy]) (ys := [x, y]) r5 rfl) rfl
      refine dct_pairs trs r6 (lvk_snoc (LvK.sm (s1.trans s2) _ _ l) ld) q2 fun F' S' H' kvs es sf r' l' ko qq len => ?_
      rw [ek]
      exact k F' S' H' ((key, vy) :: kvs) es ((s1.trans s2).trans sf) r' (by rw [List.append_assoc] at l'; exact l') ko qq (by rw [List.length_cons, len]; rfl)
    have h2 : dctPut es0 x y (fun es' => dctGo trs es' S2 Qp) := h2
    unfold dctPut at h2
    clear r2 h1 more2 r4
    split at h2
    · rename_i i d _ _
      have ey := r5.tl.tl.dat
      cases r5.tl.dat
      exact fin (.inl i) d rfl ey h2
    · rename_i t d _ _
      have ey := r5.tl.tl.dat
      cases r5.tl.dat
      exact fin (.inr t) d rfl ey h2
    · exact h2.elim
theorem x_dcts {trs : List (TX × TX)} (few : trs.length ≤ 15) (h : PE X e (tDisp (trs.map fun t => (rw t.1, rw t.2)))) : PE X e (rw (dctGo trs [])) := PE_imp h fun σ H Q q => by
  obtain ⟨F, G, S, Qp, hr, ht, k⟩ := q
  intro p n
  refine dct_pairs trs (hr.newD n .nil) .nil ht fun F' S' H' kvs es sf r' l' ko qq len => ?_
  have e0 : H' p = some (.dK []) := by
    obtain ⟨f, r⟩ := r'.hd
    cases r with
    | o r =>
      obtain ⟨p', kvs, e, _, e1, lk⟩ := r
      cases e
      cases lk
      exact e1
  have l' : LvK F' kvs es := l'
  refine ⟨e0, kvs, rfl, by omega, ?_⟩
  rw [merge_new (keys_nodup l' ko)]
  obtain ⟨F3, s3, r6⟩ := (r'.chgD l').freezeD
  exact k _ _ _ _ _ r6 (sf.trans s3) qq
theorem x_dct2 {a b c d : TX} (h : PE X e (tDisp [(rw a, rw b), (rw c, rw d)])) : PE X e (rw (dctGo [(a, b), (c, d)] [])) := x_dcts (by show 2 ≤ 15; decide) h
theorem x_dct3 {a b c d f g : TX} (h : PE X e (tDisp [(rw a, rw b), (rw c, rw d), (rw f, rw g)])) : PE X e (rw (dctGo [(a, b), (c, d), (f, g)] [])) := x_dcts (by show 3 ≤ 15; decide) h
end
end Px

-- @zip2
namespace Kx
open PySem PySem.Spec PyProof.Rows L2 Fo Px
section
variable {P : Program} {w : World} {K : PySem.W.Frag} {mg : Str → Option Value} {base : Heap}
def dT (t : Cs) : PyData := .str (tx t)
def c_take : Ct := fun as Q => ∃ n m, as = [pen n, .d (.int m)] ∧ 1 ≤ n ∧ 0 < m ∧ m < 1000000 ∧ ∀ r : Nat, (r : Int) < m → Q (.d (.int r)) [pen (n - 1), .d (.int m)]
theorem x_take (T : Top K mg) : FnOk P w K mg base CX0 2 T.f__law_take T.fd__law_take ["pen", "amount"] (spP c_take) := (ok_take T).imp fun vs H Q E h => by
  obtain ⟨F, G, as, Qc, hr, hc, k⟩ := h
  obtain ⟨n, m, rfl, h0, h1, h2, q⟩ := hc
  obtain ⟨n, rfl⟩ : ∃ j, n = j + 1 := ⟨n - 1, by omega⟩
  have hl : vs.length = 2 := by obtain ⟨_, _, r⟩ := hr; exact r.vl.len
  match vs, hl with
  | [v, u], _ =>
    obtain ⟨f, ⟨p, c, rfl, rfl, hp⟩, nf, off, chg⟩ := hr.chgHand
    cases hr.tl.dat
    refine ⟨p, c, n, m, rfl, hp, h1, h2, fun H' r b p' r0 r1 => ?_⟩
    obtain ⟨r, rfl⟩ : ∃ j : Nat, r = (j : Int) := ⟨r.toNat, by omega⟩
    exact k _ _ _ _ _ (RepA.consD (chg H' (APen n) (fun a o m' e => b a o (fun z => m' (z ▸ List.mem_cons_self ..)) e) ⟨p, c, rfl, rfl, p'⟩) (.int _)) (Same.refl _) (q r r1)
def c_signs : Ct := fun as Q => ∃ (n m : Nat), as = [pen n, .d (.int (m : Int))] ∧ m ≤ n ∧ m ≤ 60 ∧ ∀ t, Sgs t m → Q (.d (dT t)) [pen (n - m), .d (.int (m : Int))]
theorem x_signs (T : Top K mg) : FnOk P w K mg base CX0 3 T.f__law_some_signs T.fd__law_some_signs ["pen", "amount"] (spP c_signs) := (ok_signs T).imp fun vs H Q E h => by
  obtain ⟨F, G, as, Qc, hr, hc, k⟩ := h
  obtain ⟨n, m, rfl, h1, h2, q⟩ := hc
  obtain ⟨n, rfl⟩ : ∃ j, n = j + m := ⟨n - m, by omega⟩
  have hl : vs.length = 2 := by obtain ⟨_, _, r⟩ := hr; exact r.vl.len
  match vs, hl with
  | [v, u], _ =>
    obtain ⟨f, ⟨p, c, rfl, rfl, hp⟩, nf, off, chg⟩ := hr.chgHand
    cases hr.tl.dat
    refine ⟨p, c, n, m, rfl, hp, h2, fun H' t b p' S => ?_⟩
    have e : n + m - m = n := by omega
    rw [e] at q
    exact k _ _ _ _ _ (RepA.consD (chg H' (APen n) (fun a o m' e => b a o (fun z => m' (z ▸ List.mem_cons_self ..)) e) ⟨p, c, rfl, rfl, p'⟩) (.str _)) (Same.refl _) (q t S)
/-- the pen is opened -/
def c_open (K : PySem.W.Frag) : Ct := fun as Q => ∃ ns : List Int, as = [.o (AScr K ns)] ∧ ns.length ≤ 63 ∧ Q (pen 1048576) [.o (AScr K ns)]
theorem x_open (T : Top K mg) : FnOk P w K mg base CX0 1 T.f__law_open T.fd__law_open ["script"] (spP (c_open K)) := (ok_open T).imp fun vs H Q E h => by
  obtain ⟨F, G, as, Qc, hr, hc, k⟩ := h
  obtain ⟨ns, rfl, h1, q⟩ := hc
  have hl : vs.length = 1 := by obtain ⟨_, _, r⟩ := hr; exact r.vl.len
  match vs, hl with
  | [v], _ =>
    obtain ⟨f, ⟨a, rfl, rfl, hs⟩, nf, off, chg⟩ := hr.chgHand
    refine ⟨a, ns, rfl, hr.lf.seq hs, h1, fun p c H' np nc s pn => ?_⟩
    obtain ⟨cs, n, l, g1, g2, g3, g4, g5⟩ := id pn
    refine k _ _ _ _ _ (RepA.new (f := [p, c]) hr s (fun a m => ?_) (List.nodup_cons.mpr ⟨fun m => g5 (List.mem_singleton.mp m).symm, List.nodup_cons.mpr ⟨fun m => (nomatch m), .nil⟩⟩) (.o (A := APen 1048576) ⟨p, c, rfl, rfl, pn⟩)) (Same.refl _) q
    rcases List.mem_cons.mp m with rfl | m
    · exact np
    · rw [List.mem_singleton.mp m]
      exact nc
def c_text : Ct := fun as Q => ∃ (n most : Nat) (g : Cs), as = [pen n, .d (dT g), .d (.int (most : Int))] ∧ most + 1 ≤ n ∧ g ≠ [] ∧ g.length ≤ 1000 ∧ most ≤ 1000 ∧
  ∀ t : Cs, t.length ≤ most → (∀ c ∈ t, c ∈ g) → Q (.d (dT t)) [pen (n - (most + 1)), .d (dT g), .d (.int (most : Int))]
theorem x_text (T : Top K mg) : FnOk P w K mg base CX0 3 T.f__law_some_text T.fd__law_some_text ["pen", "signs", "most"] (spP c_text) := (ok_text T).imp fun vs H Q E h => by
  obtain ⟨F, G, as, Qc, hr, hc, k⟩ := h
  obtain ⟨n, most, g, rfl, h1, h2, h3, h4, q⟩ := hc
  obtain ⟨n, rfl⟩ : ∃ j, n = j + (most + 1) := ⟨n - (most + 1), by omega⟩
  have hl : vs.length = 3 := by obtain ⟨_, _, r⟩ := hr; exact r.vl.len
  match vs, hl with
  | [v, u, x], _ =>
    obtain ⟨f, ⟨p, c, rfl, rfl, hp⟩, nf, off, chg⟩ := hr.chgHand
    cases hr.tl.dat
    cases hr.tl.tl.dat
    refine ⟨p, c, n, g, most, rfl, hp, h2, h3, h4, fun H' t b p' tl ts => ?_⟩
    have e : n + (most + 1) - (most + 1) = n := by omega
    rw [e] at q
    exact k _ _ _ _ _ (RepA.consD (chg H' (APen n) (fun a o m' e => b a o (fun z => m' (z ▸ List.mem_cons_self ..)) e) ⟨p, c, rfl, rfl, p'⟩) (.str _)) (Same.refl _) (q t tl ts)
def c_any : Ct := fun as Q => ∃ (n size most : Nat) (reads tells : Cs), as = [pen n, .d (dT reads), .d (dT tells), .d (.int (size : Int)), .d (.int (most : Int))] ∧ costR reads.length size most ≤ n ∧ tells ≠ [] ∧ tells.length ≤ 1000 ∧ reads.length ≤ 1000 ∧ 1 ≤ size ∧ size ≤ 1000 ∧ 1 ≤ most ∧ most ≤ 1000 ∧
  ∀ r : Rdr, r.reads = reads → r.tells = tells → r.states.length ≤ size → r.Val most 1 → Q (.d (dR r)) [pen (n - costR reads.length size most), .d (dT reads), .d (dT tells), .d (.int (size : Int)), .d (.int (most : Int))]
theorem flat_dS (s : Sta) : flatT (dS s) = true := by
  show (flatTA (s.ways.map dW) && (flatT (dO s.fin) && true)) = true
  rw [flatTA_map fun w _ => rfl, flat_dO]
  rfl
theorem flat_dR (r : Rdr) : flatT (dR r) = true := by
  show (true && (true && (flatTA (r.states.map dS) && true))) = true
  rw [flatTA_map fun s _ => flat_dS s]
  rfl
theorem x_any (T : Top K mg) : FnOk P w K mg base CX0 4 T.f__law_any_reader T.fd__law_any_reader ["pen", "reads", "tells", "size", "most"] (spP c_any) := (ok_any T).imp fun vs H Q E h => by
  obtain ⟨F, G, as, Qc, hr, hc, k⟩ := h
  obtain ⟨n, size, most, reads, tells, rfl, h1, h2, h3, h4, h5, h6, h7, h8, q⟩ := hc
  obtain ⟨n, rfl⟩ : ∃ j, n = j + costR reads.length size most := ⟨n - costR reads.length size most, by omega⟩
  have hl : vs.length = 5 := by obtain ⟨_, _, r⟩ := hr; exact r.vl.len
  match vs, hl with
  | [v, u, x, y, z], _ =>
    obtain ⟨f, ⟨p, c, rfl, rfl, hp⟩, nf, off, chg⟩ := hr.chgHand
    cases hr.tl.dat
    cases hr.tl.tl.dat
    cases hr.tl.tl.tl.dat
    cases hr.tl.tl.tl.tl.dat
    refine ⟨p, c, n, reads, tells, size, most, rfl, hp, h2, h3, h4, h5, h6, h7, h8, fun x H' r b p' tv e1 e2 few val => ?_⟩
    have e : n + costR reads.length size most - costR reads.length size most = n := by omega
    rw [e] at q
    obtain ⟨F2, s2, r2, l2⟩ := tv_laid (dR r) x F (chg H' (APen n) (fun a o m' e => b a o (fun z => m' (z ▸ List.mem_cons_self ..)) e) ⟨p, c, rfl, rfl, p'⟩) tv
    exact k _ _ _ _ _ (RepA.consD r2 l2) s2 (q r e1 e2 few val)
theorem flat_dRow (rs : List Rdr) : flatT (dRow rs) = true := flatTA_map fun r _ => flat_dR r
def c_wide : Ct := fun as Q => ∃ (n often size most : Nat) (g : Cs), as = [pen n, .d (dT g), .d (.int (often : Int)), .d (.int (size : Int)), .d (.int (most : Int))] ∧ often * (costR 8 size most + 20) ≤ n ∧ Sn g 8 ∧ 1 ≤ often ∧ often ≤ 3 ∧ 1 ≤ size ∧ size ≤ 1000 ∧ 1 ≤ most ∧ most ≤ 2 ∧
  ∀ rs, Wide rs g often size → Q (.d (dRow rs)) [pen (n - often * (costR 8 size most + 20)), .d (dT g), .d (.int (often : Int)), .d (.int (size : Int)), .d (.int (most : Int))]
theorem x_wide (T : Top K mg) : FnOk P w K mg base CX0 5 T.f__law_wide_row T.fd__law_wide_row ["pen", "reads", "often", "size", "most"] (spP c_wide) := (ok_wide T).imp fun vs H Q E h => by
  obtain ⟨F, G, as, Qc, hr, hc, k⟩ := h
  obtain ⟨n, often, size, most, g, rfl, h1, S, o1, o3, z1, z2, m1, m2, q⟩ := hc
  obtain ⟨n, rfl⟩ : ∃ j, n = j + often * (costR 8 size most + 20) := ⟨n - often * (costR 8 size most + 20), by omega⟩
  have hl : vs.length = 5 := by obtain ⟨_, _, r⟩ := hr; exact r.vl.len
  match vs, hl with
  | [v, u, x, y, z], _ =>
    obtain ⟨f, ⟨p, c, rfl, rfl, hp⟩, nf, off, chg⟩ := hr.chgHand
    cases hr.tl.dat
    cases hr.tl.tl.dat
    cases hr.tl.tl.tl.dat
    cases hr.tl.tl.tl.tl.dat
    refine ⟨p, c, n, g, often, size, most, rfl, hp, S, o1, o3, z1, z2, m1, m2, fun x H' rs b p' tv W => ?_⟩
    rw [Nat.add_sub_cancel] at q
    obtain ⟨F2, s2, r2, l2⟩ := tv_laid (dRow rs) x F (chg H' (APen n) (fun a o m' e => b a o (fun z => m' (z ▸ List.mem_cons_self ..)) e) ⟨p, c, rfl, rfl, p'⟩) tv
    exact k _ _ _ _ _ (RepA.consD r2 l2) s2 (q rs W)
end
end Kx

-- @zip2
-- @any
namespace Kx
open PySem PySem.Spec PyProof.Rows L2 Fo Px TL
section
variable {P : Program} {w : World} {K : PySem.W.Frag} {mg : Str → Option Value} {base : Heap}
/-! what is asked of anything -/
def isNum (n : Int) : PyData → Bool
  | .int i => decide (0 ≤ i) && decide (i < n)
  | _ => false
def isTup (a b : Nat) : PyData → Bool
  | .tuple ds => decide (a ≤ ds.length) && decide (ds.length ≤ b)
  | _ => false
def adj : Cs → Bool
  | c :: d :: t => decide (c < d) && adj (d :: t)
  | _ => true
def sigC (t : Cs) : Bool := decide (1 ≤ t.length) && decide (t.length ≤ 8) && t.all (fun c => decide (33 ≤ c) && decide (c ≤ 126)) && adj t
def isSig : PyData → Bool
  | .str x => sigC (tl x)
  | _ => false
theorem leN {a b : Nat} : decide ((a : Int) ≤ (b : Int)) = decide (a ≤ b) := by
  by_cases h : a ≤ b
  · rw [decide_eq_true h, decide_eq_true (by omega)]
  · rw [decide_eq_false h, decide_eq_false (by omega)]
theorem okD' {Q : KP} {a b : Bool} {as : List PV} (e : a = b) (q : Q (.d (.bool b)) as) : Q (.d (.bool a)) as := e ▸ q
theorem lt1 {a b : Nat} : decide ([a] < [b]) = decide (a < b) := by
  by_cases h : a < b
  · rw [decide_eq_true h, decide_eq_true (show [a] < [b] from List.Lex.rel h)]
  · rw [decide_eq_false h, decide_eq_false fun z => ?_]
    cases z with
    | rel z => exact h z
    | cons z => cases z
theorem le1 {c d : Nat} : (!decide ([c] < [d])) = decide (d ≤ c) := by
  rw [lt1, ← decide_not]
  exact decide_eq_decide.mpr (by omega)
theorem okB {R : KP} {a b : Bool} {S : List PV} (e : a = b) (q : R (.d (.bool b)) S) : R (.d (.bool a)) S := e ▸ q
theorem adj_zip : ∀ t : Cs, ((t.zip (t.drop 1)).all fun p => decide (p.1 < p.2)) = adj t
  | [] => rfl
  | [_] => rfl
  | c :: d :: t => by
    have ih := adj_zip (d :: t)
    show (decide (c < d) && ((d :: t).zip t).all fun p => decide (p.1 < p.2)) = (decide (c < d) && adj (d :: t))
    rw [← ih]
    rfl
def c_num : Ct := fun as Q => ∃ (x : PyData) (n : Int), as = [.d x, .d (.int n)] ∧ Q (.d (.bool (isNum n x))) [.un, .un]
theorem x_isNum (T : Top K mg) : FnOk P w K mg base CX0 1 T.f_is_number_below T.fd_is_number_below ["thing", "bound"] (spP c_num) := by
  refine okP T.F_is_number_below sc_is_number_below [false, false] rfl (by decide) (fun as Q h => by obtain ⟨x, n, rfl, _⟩ := h; rfl) (fun cdv A outer s H E hr => ⟨_, (xs_cons (xs_if (PW.pt (xw_or (xt_val (x_cb (sim_two sim_isi) (pe_callB (kIsi K rfl) (by rfl) T.m_isinstance (by decide +kernel) (xa_cons (x_var (pv 0)) (xa_cons (x_ty (pe_bltn (v := .ty "bool") (by rfl) T.m_bool (by decide +kernel) rfl)) xa_nil))))) (xw_or1 (xt_not (xt_val (x_cb (sim_two sim_isi) (pe_callB (kIsi K rfl) (by rfl) T.m_isinstance (by decide +kernel) (xa_cons (x_var (pv 0)) (xa_cons (x_ty (pe_bltn (v := .ty "int") (by rfl) T.m_int (by decide +kernel) rfl)) xa_nil))))))))) (xs_one (xs_ret (ps_ret (x_val pe_bl (.bl _))))) xs_nil)
    (xs_one (xs_ret (ps_ret (x_chain sim_cmp sim_cmp (pe_chain op_leP op_ltP (x_val pe_int (.int _)) (x_var (pv 0)) (x_var (pv 1)))))))), fun as Qc hc => ?_⟩)
  obtain ⟨x, n, rfl, q⟩ := hc
  cases x with
  | int i =>
    ((conv => whnf); repeat ((first | refine ⟨_, rfl, ?_⟩ | refine ⟨Nat.le_of_ble_eq_true rfl, ?_⟩ | refine ⟨rfl, ?_⟩ | refine ⟨_, _, rfl, rfl, ?_⟩ | refine ⟨_, _, _, _, rfl, rfl, rfl, ?_⟩); conv => whnf))
    have q : Qc (.d (.bool (decide (0 ≤ i) && decide (i < n)))) _ := q
    refine pick_of (fun h => ?_) (fun h => ?_)
    · have h : decide (0 ≤ i) = true := h
      rw [h] at q
      ((conv => whnf); repeat ((first | refine ⟨_, rfl, ?_⟩ | refine ⟨Nat.le_of_ble_eq_true rfl, ?_⟩ | refine ⟨rfl, ?_⟩ | refine ⟨_, _, rfl, rfl, ?_⟩ | refine ⟨_, _, _, _, rfl, rfl, rfl, ?_⟩); conv => whnf))
      exact q
    · have h : decide (0 ≤ i) = false := h
      rw [h] at q
      ((conv => whnf); repeat ((first | refine ⟨_, rfl, ?_⟩ | refine ⟨Nat.le_of_ble_eq_true rfl, ?_⟩ | refine ⟨rfl, ?_⟩ | refine ⟨_, _, rfl, rfl, ?_⟩ | refine ⟨_, _, _, _, rfl, rfl, rfl, ?_⟩); conv => whnf))
      exact q
  | bool b =>
    ((conv => whnf); repeat ((first | refine ⟨_, rfl, ?_⟩ | refine ⟨Nat.le_of_ble_eq_true rfl, ?_⟩ | refine ⟨rfl, ?_⟩ | refine ⟨_, _, rfl, rfl, ?_⟩ | refine ⟨_, _, _, _, rfl, rfl, rfl, ?_⟩); conv => whnf))
    exact q
  | _ =>
    ((conv => whnf); repeat ((first | refine ⟨_, rfl, ?_⟩ | refine ⟨Nat.le_of_ble_eq_true rfl, ?_⟩ | refine ⟨rfl, ?_⟩ | refine ⟨_, _, rfl, rfl, ?_⟩ | refine ⟨_, _, _, _, rfl, rfl, rfl, ?_⟩); conv => whnf))
    exact q
def c_tup : Ct := fun as Q => ∃ (x : PyData) (a b : Nat), as = [.d x, .d (.int (a : Int)), .d (.int (b : Int))] ∧ Q (.d (.bool (isTup a b x))) [.un, .un, .un]
theorem x_isTup (T : Top K mg) : FnOk P w K mg base CX0 1 T.f_is_tuple T.fd_is_tuple ["thing", "least", "most"] (spP c_tup) := by
  refine okP T.F_is_tuple sc_is_tuple [false, false, false] rfl (by decide) (fun as Q h => by obtain ⟨x, a, b, rfl, _⟩ := h; rfl) (fun cdv A outer s H E hr => ⟨_, (xs_one (xs_ret (ps_ret (x_and (x_cb (sim_two sim_isi) (pe_callB (kIsi K rfl) (by rfl) T.m_isinstance (by decide +kernel) (xa_cons (x_var (pv 0)) (xa_cons (x_ty (pe_bltn (v := .ty "tuple") (by rfl) T.m_tuple (by decide +kernel) rfl)) xa_nil)))) (x_one (x_chain sim_cmp sim_cmp (pe_chain op_leP op_leP (x_var (pv 1)) (x_cb (sim_one sim_len) (pe_callB (kLen K rfl) (by rfl) T.m_len PySem.boot_len (xa_cons (x_var (pv 0)) xa_nil))) (x_var (pv 2))))))))), fun as Qc hc => ?_⟩)
  obtain ⟨x, a, b, rfl, q⟩ := hc
  cases x with
  | tuple ds =>
    ((conv => whnf); repeat ((first | refine ⟨_, rfl, ?_⟩ | refine ⟨Nat.le_of_ble_eq_true rfl, ?_⟩ | refine ⟨rfl, ?_⟩ | refine ⟨_, _, rfl, rfl, ?_⟩ | refine ⟨_, _, _, _, rfl, rfl, rfl, ?_⟩); conv => whnf))
    have q : Qc (.d (.bool (decide (a ≤ ds.length) && decide (ds.length ≤ b)))) _ := q
    refine pick_of (fun h => ?_) (fun h => ?_)
    · have h : decide ((a : Int) ≤ (ds.length : Int)) = true := h
      rw [leN] at h
      rw [h] at q
      ((conv => whnf); repeat ((first | refine ⟨_, rfl, ?_⟩ | refine ⟨Nat.le_of_ble_eq_true rfl, ?_⟩ | refine ⟨rfl, ?_⟩ | refine ⟨_, _, rfl, rfl, ?_⟩ | refine ⟨_, _, _, _, rfl, rfl, rfl, ?_⟩); conv => whnf))
      refine okD' leN q
    · have h : decide ((a : Int) ≤ (ds.length : Int)) = false := h
      rw [leN] at h
      rw [h] at q
      ((conv => whnf); repeat ((first | refine ⟨_, rfl, ?_⟩ | refine ⟨Nat.le_of_ble_eq_true rfl, ?_⟩ | refine ⟨rfl, ?_⟩ | refine ⟨_, _, rfl, rfl, ?_⟩ | refine ⟨_, _, _, _, rfl, rfl, rfl, ?_⟩); conv => whnf))
      exact q
  | _ =>
    ((conv => whnf); repeat ((first | refine ⟨_, rfl, ?_⟩ | refine ⟨Nat.le_of_ble_eq_true rfl, ?_⟩ | refine ⟨rfl, ?_⟩ | refine ⟨_, _, rfl, rfl, ?_⟩ | refine ⟨_, _, _, _, rfl, rfl, rfl, ?_⟩); conv => whnf))
    exact q
def c_sig : Ct := fun as Q => ∃ (x : PyData), as = [.d x] ∧ (∀ z, x = .str z → (tl z).length ≤ 16777216) ∧ Q (.d (.bool (isSig x))) [.un]
theorem x_sig (T : Top K mg) : FnOk P w K mg base CX0 1 T.f_is_signs T.fd_is_signs ["thing"] (spP c_sig) := by
  refine okP T.F_is_signs sc_is_signs [false] rfl (by decide) (fun as Q h => by obtain ⟨x, rfl, _⟩ := h; rfl) (fun cdv A outer s H E hr => ⟨_, (xs_cons (xs_if (PW.pt (xw_or (xt_not (xt_val (x_cb (sim_two sim_isi) (pe_callB (kIsi K rfl) (by rfl) T.m_isinstance (by decide +kernel) (xa_cons (x_var (pv 0)) (xa_cons (x_ty (pe_bltn (v := .ty "str") (by rfl) T.m_str (by decide +kernel) rfl)) xa_nil)))))) (xw_or1 (xt_not (xt_chain sim_cmp sim_cmp (pt_chain op_leP op_leP (x_val pe_int (.int _)) (x_cb (sim_one sim_len) (pe_callB (kLen K rfl) (by rfl) T.m_len PySem.boot_len (xa_cons (x_var (pv 0)) xa_nil))) (x_val (pe_globI (by rfl) T.m_MOST_SIGNS) (.int _)))))))) (xs_one (xs_ret (ps_ret (x_val pe_bl (.bl _))))) xs_nil)
    (xs_cons (xs_if (xt_not (xt_val (x_cb (sim_one sim_all) (pe_callB (kAll K rfl rfl) (by rfl) T.m_all (by decide +kernel) (xa_cons (x_lc0 (pe_lc (own := [("sign", 3)]) (tt := tYes) rfl sc_is_signs.nd (xi_val K rfl (x_var (pv 0))) (blkOk_by (N := ["thing", "ahead", "behind", "sign"]) (sc := (defScope s_is_signs)) (by decide +kernel)) (fun _ _ _ _ _ => (xg_name rfl (pg_name (i := 3) sc_is_signs.nd rfl (Or.inl rfl)))) (fun _ _ _ _ _ => pts_nil) (fun _ _ _ _ _ => (x_chain sim_cmp sim_cmp (pe_chain op_leP op_leP (x_strC (cs := [33]) (pe_globS (by rfl) T.m_FIRST_SIGN) (by decide +kernel)) (x_var (pv 3)) (x_strC (cs := [126]) (pe_globS (by rfl) T.m_LAST_SIGN) (by decide +kernel))))))) xa_nil))))) (xs_one (xs_ret (ps_ret (x_val pe_bl (.bl _))))) xs_nil)
    (xs_one (xs_ret (ps_ret (x_cb (sim_one sim_all) (pe_callB (kAll K rfl rfl) (by rfl) T.m_all (by decide +kernel) (xa_cons (x_lc0 (pe_lc (own := [("ahead", 1), ("behind", 2)]) (tt := tYes) rfl sc_is_signs.nd (xi_zip (K := K) (pi_zip2 K rfl (by rfl) T.m_zip (xa_cons (x_var (pv 0)) (xa_cons (x_slice (K := K) (pe_slice (kSl K rfl) (x_var (pv 0)) (xo_some (x_val pe_int (.int _))) xo_none)) xa_nil)))) (blkOk_by (N := ["thing", "ahead", "behind", "sign"]) (sc := (defScope s_is_signs)) (by decide +kernel)) (fun _ _ _ _ _ => (xg_tup rfl (kTg K rfl (n := 2) rfl (xgs_cons (xg_name rfl (pg_name (i := 1) sc_is_signs.nd rfl (Or.inl rfl))) (xgs_cons (xg_name rfl (pg_name (i := 2) sc_is_signs.nd rfl (Or.inl rfl))) xgs_nil))))) (fun _ _ _ _ _ => pts_nil) (fun _ _ _ _ _ => (x_cmp sim_cmp op_ltP (x_var (pv 1)) (x_var (pv 2)) (nomark _))))) xa_nil)))))))), fun as Qc hc => ?_⟩)
  obtain ⟨x, rfl, sz, q⟩ := hc
  cases x with
  | str z =>
    have sz := sz z rfl
    obtain ⟨t, rfl⟩ : ∃ t, z = tx t := ⟨tl z, (tx_tl z).symm⟩
    rw [tl_tx] at sz
    have q : Qc (.d (.bool (sigC (tl (tx t))))) _ := q
    rw [tl_tx] at q
    unfold sigC at q
    ((conv => whnf); repeat ((first | refine ⟨_, rfl, ?_⟩ | refine ⟨Nat.le_of_ble_eq_true rfl, ?_⟩ | refine ⟨rfl, ?_⟩ | refine ⟨_, _, rfl, rfl, ?_⟩ | refine ⟨_, _, _, _, rfl, rfl, rfl, ?_⟩); conv => whnf))
    refine ⟨sz, ?_⟩
    ((conv => whnf); repeat ((first | refine ⟨_, rfl, ?_⟩ | refine ⟨Nat.le_of_ble_eq_true rfl, ?_⟩ | refine ⟨rfl, ?_⟩ | refine ⟨_, _, rfl, rfl, ?_⟩ | refine ⟨_, _, _, _, rfl, rfl, rfl, ?_⟩); conv => whnf))
    by_cases h1 : 1 ≤ t.length
    · rw [decide_eq_true h1] at q
      refine pickT (yesD (show (1 : Int) ≤ (t.length : Int) by omega)) ?_
      ((conv => whnf); repeat ((first | refine ⟨_, rfl, ?_⟩ | refine ⟨Nat.le_of_ble_eq_true rfl, ?_⟩ | refine ⟨rfl, ?_⟩ | refine ⟨_, _, rfl, rfl, ?_⟩ | refine ⟨_, _, _, _, rfl, rfl, rfl, ?_⟩); conv => whnf))
      by_cases h8 : t.length ≤ 8
      · rw [decide_eq_true h8] at q
        refine pickF (nYes (yesD (show (t.length : Int) ≤ 8 by omega))) ?_
        ((conv => whnf); repeat ((first | refine ⟨_, rfl, ?_⟩ | refine ⟨Nat.le_of_ble_eq_true rfl, ?_⟩ | refine ⟨rfl, ?_⟩ | refine ⟨_, _, rfl, rfl, ?_⟩ | refine ⟨_, _, _, _, rfl, rfl, rfl, ?_⟩); conv => whnf))
        refine lc_of t (fun c => .str (tx [c])) (fun c => .bool (decide (33 ≤ c) && decide (c ≤ 126))) rfl (by omega) (fun c hc R hR => ?_) ?_
        · ((conv => whnf); repeat ((first | refine ⟨_, rfl, ?_⟩ | refine ⟨Nat.le_of_ble_eq_true rfl, ?_⟩ | refine ⟨rfl, ?_⟩ | refine ⟨_, _, rfl, rfl, ?_⟩ | refine ⟨_, _, _, _, rfl, rfl, rfl, ?_⟩); conv => whnf))
          refine pick_of (fun h => ?_) (fun h => ?_)
          · have h : (!decide ([c] < [33])) = true := h
            rw [le1] at h
            ((conv => whnf); repeat ((first | refine ⟨_, rfl, ?_⟩ | refine ⟨Nat.le_of_ble_eq_true rfl, ?_⟩ | refine ⟨rfl, ?_⟩ | refine ⟨_, _, rfl, rfl, ?_⟩ | refine ⟨_, _, _, _, rfl, rfl, rfl, ?_⟩); conv => whnf))
            refine okB (b := decide (33 ≤ c) && decide (c ≤ 126)) ?_ (hR _ rfl)
            rw [h, Bool.true_and]
            exact le1
          · have h : (!decide ([c] < [33])) = false := h
            rw [le1] at h
            ((conv => whnf); repeat ((first | refine ⟨_, rfl, ?_⟩ | refine ⟨Nat.le_of_ble_eq_true rfl, ?_⟩ | refine ⟨rfl, ?_⟩ | refine ⟨_, _, rfl, rfl, ?_⟩ | refine ⟨_, _, _, _, rfl, rfl, rfl, ?_⟩); conv => whnf))
            refine okB (b := decide (33 ≤ c) && decide (c ≤ 126)) ?_ (hR _ rfl)
            rw [h, Bool.false_and]
        · ((conv => whnf); repeat ((first | refine ⟨_, rfl, ?_⟩ | refine ⟨Nat.le_of_ble_eq_true rfl, ?_⟩ | refine ⟨rfl, ?_⟩ | refine ⟨_, _, rfl, rfl, ?_⟩ | refine ⟨_, _, _, _, rfl, rfl, rfl, ?_⟩); conv => whnf))
          refine ⟨_, _, rfl, truths_map _ t, ?_⟩
          ((conv => whnf); repeat ((first | refine ⟨_, rfl, ?_⟩ | refine ⟨Nat.le_of_ble_eq_true rfl, ?_⟩ | refine ⟨rfl, ?_⟩ | refine ⟨_, _, rfl, rfl, ?_⟩ | refine ⟨_, _, _, _, rfl, rfl, rfl, ?_⟩); conv => whnf))
          have ea : (t.map fun c => decide (33 ≤ c) && decide (c ≤ 126)).all id = t.all fun c => decide (33 ≤ c) && decide (c ≤ 126) := by rw [List.all_map]; rfl
          rw [ea]
          refine pick_of (fun h => ?_) (fun h => ?_)
          · have h := (Bool.not_eq_true' _).mp h
            rw [h] at q
            ((conv => whnf); repeat ((first | refine ⟨_, rfl, ?_⟩ | refine ⟨Nat.le_of_ble_eq_true rfl, ?_⟩ | refine ⟨rfl, ?_⟩ | refine ⟨_, _, rfl, rfl, ?_⟩ | refine ⟨_, _, _, _, rfl, rfl, rfl, ?_⟩); conv => whnf))
            exact q
          · have h : (t.all fun c => decide (33 ≤ c) && decide (c ≤ 126)) = true := by
              cases z : t.all fun c => decide (33 ≤ c) && decide (c ≤ 126) with
              | true => rfl
              | false => rw [z] at h; cases h
            rw [h] at q
            ((conv => whnf); repeat ((first | refine ⟨_, rfl, ?_⟩ | refine ⟨Nat.le_of_ble_eq_true rfl, ?_⟩ | refine ⟨rfl, ?_⟩ | refine ⟨_, _, rfl, rfl, ?_⟩ | refine ⟨_, _, _, _, rfl, rfl, rfl, ?_⟩); conv => whnf))
            refine ⟨by show t.length ≤ _; omega, ?_⟩
            rw [show (1 : Int) = ((1 : Nat) : Int) from rfl, cut_from]
            ((conv => whnf); repeat ((first | refine ⟨_, rfl, ?_⟩ | refine ⟨Nat.le_of_ble_eq_true rfl, ?_⟩ | refine ⟨rfl, ?_⟩ | refine ⟨_, _, rfl, rfl, ?_⟩ | refine ⟨_, _, _, _, rfl, rfl, rfl, ?_⟩); conv => whnf))
            refine lc_of (t.zip (t.drop 1)) (fun p => .tuple [.str (tx [p.1]), .str (tx [p.2])]) (fun p => .bool (decide (p.1 < p.2))) (pairs_zip (f := fun c => .str (tx [c])) (g := fun c => .str (tx [c])) t (t.drop 1)) (by rw [List.length_zip]; omega) (fun p hp R hR => ?_) ?_
            · ((conv => whnf); repeat ((first | refine ⟨_, rfl, ?_⟩ | refine ⟨Nat.le_of_ble_eq_true rfl, ?_⟩ | refine ⟨rfl, ?_⟩ | refine ⟨_, _, rfl, rfl, ?_⟩ | refine ⟨_, _, _, _, rfl, rfl, rfl, ?_⟩); conv => whnf))
              exact okB lt1 (hR _ rfl)
            · ((conv => whnf); repeat ((first | refine ⟨_, rfl, ?_⟩ | refine ⟨Nat.le_of_ble_eq_true rfl, ?_⟩ | refine ⟨rfl, ?_⟩ | refine ⟨_, _, rfl, rfl, ?_⟩ | refine ⟨_, _, _, _, rfl, rfl, rfl, ?_⟩); conv => whnf))
              refine ⟨_, _, rfl, truths_map _ _, ?_⟩
              ((conv => whnf); repeat ((first | refine ⟨_, rfl, ?_⟩ | refine ⟨Nat.le_of_ble_eq_true rfl, ?_⟩ | refine ⟨rfl, ?_⟩ | refine ⟨_, _, rfl, rfl, ?_⟩ | refine ⟨_, _, _, _, rfl, rfl, rfl, ?_⟩); conv => whnf))
              refine okB ?_ q
              rw [List.all_map]
              exact adj_zip t
      · rw [decide_eq_false h8] at q
        refine pickT (nNo (noD (show ¬ (t.length : Int) ≤ 8 by omega))) ?_
        ((conv => whnf); repeat ((first | refine ⟨_, rfl, ?_⟩ | refine ⟨Nat.le_of_ble_eq_true rfl, ?_⟩ | refine ⟨rfl, ?_⟩ | refine ⟨_, _, rfl, rfl, ?_⟩ | refine ⟨_, _, _, _, rfl, rfl, rfl, ?_⟩); conv => whnf))
        exact q
    · rw [decide_eq_false h1] at q
      refine pickF (noD (show ¬ (1 : Int) ≤ (t.length : Int) by omega)) ?_
      ((conv => whnf); repeat ((first | refine ⟨_, rfl, ?_⟩ | refine ⟨Nat.le_of_ble_eq_true rfl, ?_⟩ | refine ⟨rfl, ?_⟩ | refine ⟨_, _, rfl, rfl, ?_⟩ | refine ⟨_, _, _, _, rfl, rfl, rfl, ?_⟩); conv => whnf))
      exact q
  | _ =>
    ((conv => whnf); repeat ((first | refine ⟨_, rfl, ?_⟩ | refine ⟨Nat.le_of_ble_eq_true rfl, ?_⟩ | refine ⟨rfl, ?_⟩ | refine ⟨_, _, rfl, rfl, ?_⟩ | refine ⟨_, _, _, _, rfl, rfl, rfl, ?_⟩); conv => whnf))
    exact q
end
end Kx

namespace Fo
open PySem PySem.Spec PyProof.Rows L2 TL
/-! ### anything, within bounds -/
mutual
def lvs (j : Nat) : PyData → Bool
  | .none => true
  | .bool _ => true
  | .int i => decide (i.natAbs ≤ 10 ^ 20 + j)
  | .str x => (tl x).all fun c => decide (c < 1114112)
  | .list ds => lvsA j ds
  | .tuple ds => lvsA j ds
  | .dict es => lvsK j es
def lvsA (j : Nat) : List PyData → Bool
  | [] => true
  | d :: ds => lvs j d && lvsA j ds
def lvsK (j : Nat) : List (PyData × PyData) → Bool
  | [] => true
  | (k, d) :: es => lvs j k && lvs j d && lvsK j es
end
structure Any (j k M : Nat) (d : PyData) : Prop where
  dep : d.depth ≤ k
  blk : d.bulk ≤ M
  lvs : lvs j d = true
structure AnyA (j k M : Nat) (ds : List PyData) : Prop where
  dep : PyData.depthAll ds ≤ k
  blk : PyData.bulkAll ds ≤ M
  lvs : lvsA j ds = true
section
variable {j k M j' k' M' : Nat}
mutual
theorem lvs_le (h : j ≤ j') : ∀ d : PyData, lvs j d = true → lvs j' d = true
  | .none, _ => rfl
  | .bool _, _ => rfl
  | .int i, e => by
    simp only [lvs, decide_eq_true_eq] at e ⊢
    omega
  | .str x, e => by
    simp only [lvs] at e ⊢
    exact e
  | .list ds, e => by
    simp only [lvs] at e ⊢
    exact lvsA_le h ds e
  | .tuple ds, e => by
    simp only [lvs] at e ⊢
    exact lvsA_le h ds e
  | .dict es, e => by
    simp only [lvs] at e ⊢
    exact lvsK_le h es e
theorem lvsA_le (h : j ≤ j') : ∀ ds : List PyData, lvsA j ds = true → lvsA j' ds = true
  | [], _ => rfl
  | d :: ds, e => by
    simp only [lvsA, Bool.and_eq_true] at e ⊢
    exact ⟨lvs_le h d e.1, lvsA_le h ds e.2⟩
theorem lvsK_le (h : j ≤ j') : ∀ es : List (PyData × PyData), lvsK j es = true → lvsK j' es = true
  | [], _ => rfl
  | (a, d) :: es, e => by
    simp only [lvsK, Bool.and_eq_true] at e ⊢
    exact ⟨⟨lvs_le h a e.1.1, lvs_le h d e.1.2⟩, lvsK_le h es e.2⟩
end
theorem Any.le {d : PyData} (h : Any j k M d) (hj : j ≤ j') (hk : k ≤ k') (hM : M ≤ M') : Any j' k' M' d := ⟨Nat.le_trans h.dep hk, Nat.le_trans h.blk hM, lvs_le hj d h.lvs⟩
theorem AnyA.le {ds : List PyData} (h : AnyA j k M ds) (hj : j ≤ j') (hk : k ≤ k') (hM : M ≤ M') : AnyA j' k' M' ds := ⟨Nat.le_trans h.dep hk, Nat.le_trans h.blk hM, lvsA_le hj ds h.lvs⟩
theorem AnyA.nil : AnyA j k M [] := ⟨by simp [PyData.depthAll], by simp [PyData.bulkAll], rfl⟩
theorem AnyA.cons {d : PyData} {ds : List PyData} (h : Any j k M d) (t : AnyA j k M' ds) : AnyA j k (M + 1 + M') (d :: ds) := by
  refine ⟨?_, ?_, ?_⟩
  · simp only [PyData.depthAll]
    have := h.dep
    have := t.dep
    omega
  · simp only [PyData.bulkAll]
    have := h.blk
    have := t.blk
    omega
  · simp only [Fo.lvsA, h.lvs, t.lvs, Bool.and_self]
theorem AnyA.un {d : PyData} {ds : List PyData} (h : AnyA j k M (d :: ds)) : ∃ m n, m + 1 + n ≤ M ∧ Any j k m d ∧ AnyA j k n ds := by
  obtain ⟨h1, h2, h3⟩ := h
  simp only [PyData.depthAll] at h1
  simp only [PyData.bulkAll] at h2
  simp only [Fo.lvsA, Bool.and_eq_true] at h3
  exact ⟨d.bulk, PyData.bulkAll ds, h2, ⟨by omega, Nat.le_refl _, h3.1⟩, ⟨by omega, Nat.le_refl _, h3.2⟩⟩
theorem AnyA.app : ∀ {as bs : List PyData} {M M' : Nat}, AnyA j k M as → AnyA j k M' bs → AnyA j k (M + M') (as ++ bs)
  | [], _, _, _, _, h => h.le (Nat.le_refl _) (Nat.le_refl _) (Nat.le_add_left ..)
  | a :: as, bs, M, M', g, h => by
    obtain ⟨m, n, l, ha, hs⟩ := g.un
    exact (AnyA.cons ha (AnyA.app hs h)).le (Nat.le_refl _) (Nat.le_refl _) (by omega)
theorem AnyA.take : ∀ {as : List PyData} {M : Nat} (n : Nat), AnyA j k M as → AnyA j k M (as.take n)
  | _, _, 0, _ => .nil
  | [], _, _ + 1, _ => .nil
  | a :: as, M, i + 1, g => by
    obtain ⟨m, n, l, ha, hs⟩ := g.un
    exact (AnyA.cons ha (AnyA.take i hs)).le (Nat.le_refl _) (Nat.le_refl _) (by omega)
theorem AnyA.drop : ∀ {as : List PyData} {M : Nat} (n : Nat), AnyA j k M as → AnyA j k M (as.drop n)
  | _, _, 0, g => g
  | [], _, _ + 1, _ => .nil
  | a :: as, M, i + 1, g => by
    obtain ⟨m, n, l, ha, hs⟩ := g.un
    exact (AnyA.drop i hs).le (Nat.le_refl _) (Nat.le_refl _) (by omega)
theorem AnyA.rev : ∀ {as : List PyData} {M : Nat}, AnyA j k M as → AnyA j k M as.reverse
  | [], _, _ => .nil
  | a :: as, M, g => by
    obtain ⟨m, n, l, ha, hs⟩ := g.un
    rw [List.reverse_cons]
    exact (AnyA.app (AnyA.rev hs) (AnyA.cons ha (AnyA.nil (M := 0)))).le (Nat.le_refl _) (Nat.le_refl _) (by omega)
theorem AnyA.at : ∀ {as : List PyData} {M i : Nat} {d : PyData}, AnyA j k M as → as[i]? = some d → Any j k M d
  | [], _, i, _, _, e => by simp at e
  | a :: as, M, 0, d, g, e => by
    obtain ⟨m, n, l, ha, hs⟩ := g.un
    cases e
    exact ha.le (Nat.le_refl _) (Nat.le_refl _) (by omega)
  | a :: as, M, i + 1, d, g, e => by
    obtain ⟨m, n, l, ha, hs⟩ := g.un
    exact (AnyA.at hs (by simpa using e)).le (Nat.le_refl _) (Nat.le_refl _) (by omega)
theorem AnyA.part : ∀ {as : List PyData} {M i : Nat} {d : PyData}, AnyA j k M as → as[i]? = some d → ∃ m1 m m2, m1 + m + 1 + m2 ≤ M ∧ AnyA j k m1 (as.take i) ∧ Any j k m d ∧ AnyA j k m2 (as.drop (i + 1))
  | [], _, i, _, _, e => by simp at e
  | a :: as, M, 0, d, g, e => by
    obtain ⟨m, n, l, ha, hs⟩ := g.un
    cases e
    exact ⟨0, m, n, by omega, .nil, ha, hs⟩
  | a :: as, M, i + 1, d, g, e => by
    obtain ⟨m, n, l, ha, hs⟩ := g.un
    obtain ⟨m1, m0, m2, l2, h1, h2, h3⟩ := AnyA.part (d := d) hs (by simpa using e)
    exact ⟨m + 1 + m1, m0, m2, by omega, AnyA.cons ha h1, h2, h3⟩
theorem AnyA.len : ∀ {as : List PyData} {M : Nat}, AnyA j k M as → as.length ≤ M
  | [], _, _ => Nat.zero_le _
  | a :: as, M, g => by
    obtain ⟨m, n, l, ha, hs⟩ := g.un
    have := AnyA.len hs
    rw [List.length_cons]
    omega
theorem Any.tup {ds : List PyData} (h : AnyA j k M ds) : Any j (k + 1) M (.tuple ds) := ⟨by simp only [PyData.depth]; have := h.dep; omega, by simp only [PyData.bulk]; exact h.blk, by simp only [Fo.lvs]; exact h.lvs⟩
theorem Any.lst {ds : List PyData} (h : AnyA j k M ds) : Any j (k + 1) M (.list ds) := ⟨by simp only [PyData.depth]; have := h.dep; omega, by simp only [PyData.bulk]; exact h.blk, by simp only [Fo.lvs]; exact h.lvs⟩
theorem Any.unt {ds : List PyData} (h : Any j k M (.tuple ds)) : ∃ k0, k = k0 + 1 ∧ AnyA j k0 M ds := by
  obtain ⟨h1, h2, h3⟩ := h
  simp only [PyData.depth] at h1
  simp only [PyData.bulk] at h2
  simp only [Fo.lvs] at h3
  exact ⟨k - 1, by omega, ⟨by omega, h2, h3⟩⟩
theorem Any.str {t : Cs} (h : ∀ c ∈ t, c < 1114112) (l : t.length ≤ M) : Any j k M (.str (tx t)) := by
  refine ⟨by simp [PyData.depth], ?_, ?_⟩
  · simp only [PyData.bulk]
    rw [tx_size]
    exact l
  · simp only [Fo.lvs, tl_tx]
    exact List.all_eq_true.mpr fun c m => decide_eq_true (h c m)
theorem Any.unS {x : Str} (h : Any j k M (.str x)) : (tl x).length ≤ M ∧ ∀ c ∈ tl x, c < 1114112 := by
  obtain ⟨_, h2, h3⟩ := h
  simp only [PyData.bulk] at h2
  simp only [Fo.lvs] at h3
  exact ⟨by rw [show x.cps.size = (tl x).length from (Array.length_toList).symm] at h2; exact h2, fun c m => of_decide_eq_true (List.all_eq_true.mp h3 c m)⟩
theorem Any.int {i : Int} (h : i.natAbs ≤ 10 ^ 20 + j) : Any j k M (.int i) := ⟨by simp [PyData.depth], by simp [PyData.bulk], by simp only [Fo.lvs]; exact decide_eq_true h⟩
theorem Any.unI {i : Int} (h : Any j k M (.int i)) : i.natAbs ≤ 10 ^ 20 + j := by
  have := h.lvs
  simp only [Fo.lvs] at this
  exact of_decide_eq_true this
theorem Any.none : Any j k M .none := ⟨by simp [PyData.depth], by simp [PyData.bulk], rfl⟩
theorem Any.bool {b : Bool} : Any j k M (.bool b) := ⟨by simp [PyData.depth], by simp [PyData.bulk], rfl⟩
theorem Any.dict0 : Any j (k + 1) M (.dict []) := ⟨by simp [PyData.depth, PyData.depthKv], by simp [PyData.bulk, PyData.bulkKv], rfl⟩
theorem int_show {i : Int} (h : i.natAbs ≤ 10 ^ 20 + j) (hj : j ≤ 100) : (PyData.int i).showable = true ∧ (PyData.int i).leavesShort 30 = true := by
  have l : i.natAbs < 10 ^ 21 := by omega
  constructor
  · simp only [PyData.showable]
    refine decide_eq_true ?_
    by_cases z : i.natAbs = 0
    · rw [z]
      decide
    · exact Nat.lt_of_lt_of_le ((Nat.log2_lt z).mpr (Nat.lt_of_lt_of_le l (show 10 ^ 21 ≤ 2 ^ 70 by decide))) (by decide)
  · simp only [PyData.leavesShort, PyData.shown]
    refine decide_eq_true ?_
    show (Str.ofString (toString i)).length ≤ 30
    rw [PySem.ofString_length]
    exact Nat.le_trans (int_text_length_le10 (k := 21) (by decide) l) (by decide)
mutual
theorem lvs_show (hj : j ≤ 100) : ∀ d : PyData, lvs j d = true → d.showable = true ∧ d.leavesShort 30 = true
  | .none, _ => ⟨by simp [PyData.showable], by simp [PyData.leavesShort]⟩
  | .bool _, _ => ⟨by simp [PyData.showable], by simp [PyData.leavesShort]⟩
  | .int i, e => int_show (by simpa only [lvs, decide_eq_true_eq] using e) hj
  | .str x, e => by
    refine ⟨by simp [PyData.showable], ?_⟩
    simp only [lvs] at e
    simp only [PyData.leavesShort]
    refine List.all_eq_true.mpr fun c m => decide_eq_true ?_
    have := of_decide_eq_true (List.all_eq_true.mp e c m)
    exact Nat.lt_of_lt_of_le this (by decide)
  | .list ds, e => by
    simp only [lvs] at e
    simp only [PyData.showable, PyData.leavesShort]
    exact lvsA_show hj ds e
  | .tuple ds, e => by
    simp only [lvs] at e
    simp only [PyData.showable, PyData.leavesShort]
    exact lvsA_show hj ds e
  | .dict es, e => by
    simp only [lvs] at e
    simp only [PyData.showable, PyData.leavesShort]
    exact lvsK_show hj es e
theorem lvsA_show (hj : j ≤ 100) : ∀ ds : List PyData, lvsA j ds = true → PyData.showableAll ds = true ∧ PyData.leavesShortAll 30 ds = true
  | [], _ => ⟨by simp [PyData.showableAll], by simp [PyData.leavesShortAll]⟩
  | d :: ds, e => by
    simp only [lvsA, Bool.and_eq_true] at e
    obtain ⟨a, b⟩ := lvs_show hj d e.1
    obtain ⟨a2, b2⟩ := lvsA_show hj ds e.2
    simp only [PyData.showableAll, PyData.leavesShortAll, a, b, a2, b2, Bool.and_self, and_self]
theorem lvsK_show (hj : j ≤ 100) : ∀ es : List (PyData × PyData), lvsK j es = true → PyData.showableKv es = true ∧ PyData.leavesShortKv 30 es = true
  | [], _ => ⟨by simp [PyData.showableKv], by simp [PyData.leavesShortKv]⟩
  | (k, d) :: es, e => by
    simp only [lvsK, Bool.and_eq_true] at e
    obtain ⟨a, b⟩ := lvs_show hj k e.1.1
    obtain ⟨a1, b1⟩ := lvs_show hj d e.1.2
    obtain ⟨a2, b2⟩ := lvsK_show hj es e.2
    simp only [PyData.showableKv, PyData.leavesShortKv, a, b, a1, b1, a2, b2, Bool.and_self, and_self]
end
theorem Any.fits {d : PyData} (h : Any j k M d) (hj : j ≤ 100) (hM : M ≤ 500000) : Fits d := by
  obtain ⟨a, b⟩ := lvs_show hj d h.lvs
  refine ⟨a, ?_⟩
  have z := PyData.shown_le_bulk 30 (by decide) d b
  have := h.blk
  rw [sizeLine_eq]
  omega
theorem str_code (s : String) : ∀ c ∈ tl (Str.ofString s), c < 1114112 := by
  intro c m
  have e : tl (Str.ofString s) = s.toList.map Char.toNat := by
    rw [Str.ofString_eq_toList]
  rw [e] at m
  obtain ⟨d, _, rfl⟩ := List.mem_map.mp m
  have := d.valid
  rcases this with h | ⟨_, h⟩
  · exact Nat.lt_trans h (by decide)
  · exact h
theorem Any.num {i : Int} (h : i.natAbs ≤ 10 ^ 20 + j) (hj : j ≤ 100) (hM : 30 ≤ M) : Any j k M (.str (toString i)) := by
  have l : (tl (Str.ofString (toString i))).length ≤ 30 := by
    rw [← len_tl, PySem.ofString_length]
    exact Nat.le_trans (int_text_length_le10 (k := 21) (by decide) (by omega)) (by decide)
  have := Any.str (j := j) (k := k) (M := M) (str_code (toString i)) (by omega)
  rw [tx_tl] at this
  exact this
theorem AnyA.ones {t : Cs} (h : ∀ c ∈ t, c < 1114112) : AnyA j k (2 * t.length) (t.map fun c => .str (tx [c])) := by
  induction t with
  | nil => exact .nil
  | cons c t ih =>
    have a : Any j k 1 (.str (tx [c])) := Any.str (fun d m => by rw [List.mem_singleton.mp m]; exact h c (List.mem_cons_self ..)) (Nat.le_refl _)
    have := AnyA.cons a (ih fun d m => h d (List.mem_cons_of_mem _ m))
    exact this.le (Nat.le_refl _) (Nat.le_refl _) (by rw [List.length_cons]; omega)
/-- within some bounds -/
def Good (d : PyData) : Prop := ∃ j k M, Any j k M d ∧ M ≤ 1000000
theorem Any.good {d : PyData} (h : Any j k M d) (hM : M ≤ 1000000) : Good d := ⟨j, k, M, h, hM⟩
theorem Good.sub {ds : List PyData} {d : PyData} (h : Good (.tuple ds)) (m : d ∈ ds) : Good d := by
  obtain ⟨j, k, M, h, l⟩ := h
  obtain ⟨k0, _, B⟩ := h.unt
  obtain ⟨i, e⟩ := List.mem_iff_getElem?.mp m
  exact ⟨j, k0, M, B.at e, l⟩
theorem Good.len {ds : List PyData} (h : Good (.tuple ds)) : ds.length ≤ 1000000 := by
  obtain ⟨j, k, M, h, l⟩ := h
  obtain ⟨k0, _, B⟩ := h.unt
  exact Nat.le_trans B.len l
theorem Good.txt {z : Str} (h : Good (.str z)) : (tl z).length ≤ 1000000 ∧ ∀ c ∈ tl z, c < 1114112 := by
  obtain ⟨j, k, M, h, l⟩ := h
  exact ⟨Nat.le_trans h.unS.1 l, h.unS.2⟩
theorem Good.two {a b : PyData} (h : Good (.tuple [a, b])) : Good a ∧ Good b := ⟨h.sub (by simp), h.sub (by simp)⟩
theorem Good.three {a b c : PyData} (h : Good (.tuple [a, b, c])) : Good a ∧ Good b ∧ Good c := ⟨h.sub (by simp), h.sub (by simp), h.sub (by simp)⟩
end
end Fo

-- @zip2
-- @any
namespace Kx
open PySem PySem.Spec PyProof.Rows L2 Fo Px TL
section
variable {P : Program} {w : World} {K : PySem.W.Frag} {mg : Str → Option Value} {base : Heap}
def isTxt (g : Cs) (m : Nat) : PyData → Bool
  | .str z => decide ((tl z).length ≤ m) && (tl z).all fun c => decide (c ∈ g)
  | _ => false
def isWy (n : Nat) (g : Cs) : PyData → Bool
  | .tuple [a, b] => isNum (n : Int) a && isTxt g 3 b
  | _ => false
def isEnd (g : Cs) : PyData → Bool
  | .none => true
  | d => isTxt g 3 d
def isSt (m n : Nat) (g : Cs) : PyData → Bool
  | .tuple [.tuple ws, e] => ((decide (m ≤ ws.length) && decide (ws.length ≤ m)) && ws.all (isWy n g)) && isEnd g e
  | _ => false
def txS : PyData → Cs
  | .str z => tl z
  | _ => []
def isRdr : PyData → Bool
  | .tuple [a, b, .tuple ss] => (isSig a && isSig b) && ((decide (1 ≤ ss.length) && decide (ss.length ≤ 6)) && ss.all (isSt (txS a).length ss.length (txS b)))
  | _ => false
theorem isTup_ex {a b : Nat} {x : PyData} (h : isTup a b x = true) : ∃ ds, x = .tuple ds ∧ a ≤ ds.length ∧ ds.length ≤ b := by
  cases x with
  | tuple ds =>
    have h : (decide (a ≤ ds.length) && decide (ds.length ≤ b)) = true := h
    rw [Bool.and_eq_true] at h
    exact ⟨ds, rfl, of_decide_eq_true h.1, of_decide_eq_true h.2⟩
  | _ => cases h
theorem isTup_two {x : PyData} (h : isTup 2 2 x = true) : ∃ a b, x = .tuple [a, b] := by
  obtain ⟨ds, rfl, h1, h2⟩ := isTup_ex h
  match ds, h1, h2 with
  | [a, b], _, _ => exact ⟨a, b, rfl⟩
  | [], h1, _ => exact absurd h1 (by decide)
  | [_], h1, _ => exact absurd h1 (by simp)
  | _ :: _ :: _ :: _, _, h2 => exact absurd h2 (by simp)
theorem isTup_three {x : PyData} (h : isTup 3 3 x = true) : ∃ a b c, x = .tuple [a, b, c] := by
  obtain ⟨ds, rfl, h1, h2⟩ := isTup_ex h
  match ds, h1, h2 with
  | [a, b, c], _, _ => exact ⟨a, b, c, rfl⟩
  | [], h1, _ => exact absurd h1 (by decide)
  | [_], h1, _ => exact absurd h1 (by simp)
  | [_, _], h1, _ => exact absurd h1 (by simp)
  | _ :: _ :: _ :: _ :: _, _, h2 => exact absurd h2 (by simp)
def c_txt : Ct := fun as Q => ∃ (x : PyData) (g : Cs) (m : Nat), as = [.d x, .d (dT g), .d (.int (m : Int))] ∧ Good x ∧ Q (.d (.bool (isTxt g m x))) [.un, .un, .un]
theorem x_txt (T : Top K mg) : FnOk P w K mg base CX0 1 T.f_is_text T.fd_is_text ["thing", "signs", "most"] (spP c_txt) := by
  refine okP T.F_is_text sc_is_text [false, false, false] rfl (by decide) (fun as Q h => by obtain ⟨x, g, m, rfl, _⟩ := h; rfl) (fun cdv A outer s H E hr => ⟨_, (xs_cons (xs_if (PW.pt (xw_or (xt_not (xt_val (x_cb (sim_two sim_isi) (pe_callB (kIsi K rfl) (by rfl) T.m_isinstance (by decide +kernel) (xa_cons (x_var (pv 0)) (xa_cons (x_ty (pe_bltn (v := .ty "str") (by rfl) T.m_str (by decide +kernel) rfl)) xa_nil)))))) (xw_or1 (xt_cmp sim_cmp op_gtP (x_cb (sim_one sim_len) (pe_callB (kLen K rfl) (by rfl) T.m_len PySem.boot_len (xa_cons (x_var (pv 0)) xa_nil))) (x_var (pv 2)) (nomark _))))) (xs_one (xs_ret (ps_ret (x_val pe_bl (.bl _))))) xs_nil)
    (xs_one (xs_ret (ps_ret (x_cb (sim_one sim_all) (pe_callB (kAll K rfl rfl) (by rfl) T.m_all (by decide +kernel) (xa_cons (x_lc0 (pe_lc (own := [("sign", 3)]) (tt := tYes) rfl sc_is_text.nd (xi_val K rfl (x_var (pv 0))) (blkOk_by (N := ["thing", "signs", "most", "sign"]) (sc := (defScope s_is_text)) (by decide +kernel)) (fun _ _ _ _ _ => (xg_name rfl (pg_name (i := 3) sc_is_text.nd rfl (Or.inl rfl)))) (fun _ _ _ _ _ => pts_nil) (fun _ _ _ _ _ => (x_cmp sim_in (kIn K rfl) (x_var (pv 3)) (x_var (pv 1)) rfl)))) xa_nil))))))), fun as Qc hc => ?_⟩)
  obtain ⟨x, g, m, rfl, G, q⟩ := hc
  cases x with
  | str z =>
    obtain ⟨sz, _⟩ := G.txt
    obtain ⟨t, rfl⟩ : ∃ t, z = tx t := ⟨tl z, (tx_tl z).symm⟩
    have q : Qc (.d (.bool (decide ((tl (tx t)).length ≤ m) && (tl (tx t)).all fun c => decide (c ∈ g)))) _ := q
    rw [tl_tx] at q sz
    ((conv => whnf); repeat ((first | refine ⟨_, rfl, ?_⟩ | refine ⟨Nat.le_of_ble_eq_true rfl, ?_⟩ | refine ⟨rfl, ?_⟩ | refine ⟨_, _, rfl, rfl, ?_⟩ | refine ⟨_, _, _, _, rfl, rfl, rfl, ?_⟩); conv => whnf))
    refine ⟨by show t.length ≤ _; omega, ?_⟩
    ((conv => whnf); repeat ((first | refine ⟨_, rfl, ?_⟩ | refine ⟨Nat.le_of_ble_eq_true rfl, ?_⟩ | refine ⟨rfl, ?_⟩ | refine ⟨_, _, rfl, rfl, ?_⟩ | refine ⟨_, _, _, _, rfl, rfl, rfl, ?_⟩); conv => whnf))
    refine pick_of (fun h => ?_) (fun h => ?_)
    · have h := of_decide_eq_true h
      have h : (m : Int) < (t.length : Int) := h
      rw [decide_eq_false (show ¬ t.length ≤ m by omega)] at q
      ((conv => whnf); repeat ((first | refine ⟨_, rfl, ?_⟩ | refine ⟨Nat.le_of_ble_eq_true rfl, ?_⟩ | refine ⟨rfl, ?_⟩ | refine ⟨_, _, rfl, rfl, ?_⟩ | refine ⟨_, _, _, _, rfl, rfl, rfl, ?_⟩); conv => whnf))
      exact q
    · have h := of_decide_eq_false h
      have h : ¬ (m : Int) < (t.length : Int) := h
      rw [decide_eq_true (show t.length ≤ m by omega), Bool.true_and] at q
      ((conv => whnf); repeat ((first | refine ⟨_, rfl, ?_⟩ | refine ⟨Nat.le_of_ble_eq_true rfl, ?_⟩ | refine ⟨rfl, ?_⟩ | refine ⟨_, _, rfl, rfl, ?_⟩ | refine ⟨_, _, _, _, rfl, rfl, rfl, ?_⟩); conv => whnf))
      refine lc_of t (fun c => .str (tx [c])) (fun c => .bool (decide (c ∈ g))) rfl (by omega) (fun c hc R hR => ?_) ?_
      · ((conv => whnf); repeat ((first | refine ⟨_, rfl, ?_⟩ | refine ⟨Nat.le_of_ble_eq_true rfl, ?_⟩ | refine ⟨rfl, ?_⟩ | refine ⟨_, _, rfl, rfl, ?_⟩ | refine ⟨_, _, _, _, rfl, rfl, rfl, ?_⟩); conv => whnf))
        refine okB (b := decide (c ∈ g)) ?_ (hR _ rfl)
        exact (Bool.false_xor _).trans (decide_eq_decide.mpr (by rw [tl_tx]))
      · ((conv => whnf); repeat ((first | refine ⟨_, rfl, ?_⟩ | refine ⟨Nat.le_of_ble_eq_true rfl, ?_⟩ | refine ⟨rfl, ?_⟩ | refine ⟨_, _, rfl, rfl, ?_⟩ | refine ⟨_, _, _, _, rfl, rfl, rfl, ?_⟩); conv => whnf))
        refine ⟨_, _, rfl, truths_map _ t, ?_⟩
        ((conv => whnf); repeat ((first | refine ⟨_, rfl, ?_⟩ | refine ⟨Nat.le_of_ble_eq_true rfl, ?_⟩ | refine ⟨rfl, ?_⟩ | refine ⟨_, _, rfl, rfl, ?_⟩ | refine ⟨_, _, _, _, rfl, rfl, rfl, ?_⟩); conv => whnf))
        refine okB ?_ q
        rw [List.all_map]
        rfl
  | _ =>
    ((conv => whnf); repeat ((first | refine ⟨_, rfl, ?_⟩ | refine ⟨Nat.le_of_ble_eq_true rfl, ?_⟩ | refine ⟨rfl, ?_⟩ | refine ⟨_, _, rfl, rfl, ?_⟩ | refine ⟨_, _, _, _, rfl, rfl, rfl, ?_⟩); conv => whnf))
    exact q
def c_way : Ct := fun as Q => ∃ (x : PyData) (g : Cs) (n : Nat), as = [.d x, .d (dT g), .d (.int (n : Int))] ∧ Good x ∧ Q (.d (.bool (isWy n g x))) [.un, .un, .un]
theorem x_way (T : Top K mg) : FnOk P w K mg base CX0 2 T.f_is_way T.fd_is_way ["thing", "tells", "many_states"] (spP c_way) := by
  have G_is_tuple := x_isTup (P := P) (w := w) (base := base) T
  have G_is_number_below := x_isNum (P := P) (w := w) (base := base) T
  have G_is_text := x_txt (P := P) (w := w) (base := base) T
  refine okP T.F_is_way sc_is_way [false, false, false] rfl (by decide) (fun as Q h => by obtain ⟨x, g, n, rfl, _⟩ := h; rfl) (fun cdv A outer s H E hr => ⟨_, (xs_cons (xs_if (xt_not (xt_val (x_call .nil (pe_call G_is_tuple (hr.mono (by first | decide | omega)) (by rfl) T.g_is_tuple T.F_is_tuple.kp T.b_is_tuple .nil pass0 (xa_cons (x_var (pv 0)) (xa_cons (x_val pe_int (.int _)) (xa_cons (x_val pe_int (.int _)) xa_nil))))))) (xs_one (xs_ret (ps_ret (x_val pe_bl (.bl _))))) xs_nil)
    (xs_cons (xs_asg (ps_asg (x_var (pv 0)) (xg_tup rfl (kTg K rfl (n := 2) rfl (xgs_cons (xg_name rfl (pg_name (i := 3) sc_is_way.nd rfl (Or.inl rfl))) (xgs_cons (xg_name rfl (pg_name (i := 4) sc_is_way.nd rfl (Or.inl rfl))) xgs_nil))))))
    (xs_one (xs_ret (ps_ret (x_and (x_call .nil (pe_call G_is_number_below (hr.mono (by first | decide | omega)) (by rfl) T.g_is_number_below T.F_is_number_below.kp T.b_is_number_below .nil pass0 (xa_cons (x_var (pv 3)) (xa_cons (x_var (pv 2)) xa_nil)))) (x_one (x_call .nil (pe_call G_is_text (hr.mono (by first | decide | omega)) (by rfl) T.g_is_text T.F_is_text.kp T.b_is_text .nil pass0 (xa_cons (x_var (pv 4)) (xa_cons (x_var (pv 1)) (xa_cons (x_val (pe_globI (by rfl) T.m_MOST_TOLD) (.int _)) xa_nil)))))))))))), fun as Qc hc => ?_⟩)
  obtain ⟨x, g, n, rfl, G, q⟩ := hc
  ((conv => whnf); repeat ((first | refine ⟨_, rfl, ?_⟩ | refine ⟨Nat.le_of_ble_eq_true rfl, ?_⟩ | refine ⟨rfl, ?_⟩ | refine ⟨_, _, rfl, rfl, ?_⟩ | refine ⟨_, _, _, _, rfl, rfl, rfl, ?_⟩); conv => whnf))
  refine ⟨x, 2, 2, rfl, ?_⟩
  ((conv => whnf); repeat ((first | refine ⟨_, rfl, ?_⟩ | refine ⟨Nat.le_of_ble_eq_true rfl, ?_⟩ | refine ⟨rfl, ?_⟩ | refine ⟨_, _, rfl, rfl, ?_⟩ | refine ⟨_, _, _, _, rfl, rfl, rfl, ?_⟩); conv => whnf))
  cases h : isTup 2 2 x with
  | false =>
    have e : isWy n g x = false := by
      cases z : isWy n g x with
      | false => rfl
      | true =>
        unfold isWy at z
        split at z
        · cases h
        · cases z
    rw [e] at q
    ((conv => whnf); repeat ((first | refine ⟨_, rfl, ?_⟩ | refine ⟨Nat.le_of_ble_eq_true rfl, ?_⟩ | refine ⟨rfl, ?_⟩ | refine ⟨_, _, rfl, rfl, ?_⟩ | refine ⟨_, _, _, _, rfl, rfl, rfl, ?_⟩); conv => whnf))
    exact q
  | true =>
    obtain ⟨a, b, rfl⟩ := isTup_two h
    have q : Qc (.d (.bool (isNum (n : Int) a && isTxt g 3 b))) _ := q
    ((conv => whnf); repeat ((first | refine ⟨_, rfl, ?_⟩ | refine ⟨Nat.le_of_ble_eq_true rfl, ?_⟩ | refine ⟨rfl, ?_⟩ | refine ⟨_, _, rfl, rfl, ?_⟩ | refine ⟨_, _, _, _, rfl, rfl, rfl, ?_⟩); conv => whnf))
    refine ⟨a, n, rfl, ?_⟩
    cases h2 : isNum (n : Int) a with
    | false =>
      rw [h2, Bool.false_and] at q
      ((conv => whnf); repeat ((first | refine ⟨_, rfl, ?_⟩ | refine ⟨Nat.le_of_ble_eq_true rfl, ?_⟩ | refine ⟨rfl, ?_⟩ | refine ⟨_, _, rfl, rfl, ?_⟩ | refine ⟨_, _, _, _, rfl, rfl, rfl, ?_⟩); conv => whnf))
      exact q
    | true =>
      rw [h2, Bool.true_and] at q
      ((conv => whnf); repeat ((first | refine ⟨_, rfl, ?_⟩ | refine ⟨Nat.le_of_ble_eq_true rfl, ?_⟩ | refine ⟨rfl, ?_⟩ | refine ⟨_, _, rfl, rfl, ?_⟩ | refine ⟨_, _, _, _, rfl, rfl, rfl, ?_⟩); conv => whnf))
      refine ⟨b, g, 3, rfl, G.two.2, ?_⟩
      exact q
def c_state : Ct := fun as Q => ∃ (x : PyData) (m n : Nat) (g : Cs), as = [.d x, .d (.int (m : Int)), .d (dT g), .d (.int (n : Int))] ∧ Good x ∧ Q (.d (.bool (isSt m n g x))) [.un, .un, .un, .un]
theorem x_state (T : Top K mg) : FnOk P w K mg base CX0 3 T.f_is_state T.fd_is_state ["thing", "many_ways", "tells", "many_states"] (spP c_state) := by
  have G_is_tuple := x_isTup (P := P) (w := w) (base := base) T
  have G_is_way := x_way (P := P) (w := w) (base := base) T
  have G_is_text := x_txt (P := P) (w := w) (base := base) T
  refine okP T.F_is_state sc_is_state [false, false, false, false] rfl (by decide) (fun as Q h => by obtain ⟨x, m, n, g, rfl, _⟩ := h; rfl) (fun cdv A outer s H E hr => ⟨_, (xs_cons (xs_if (xt_not (xt_val (x_call .nil (pe_call G_is_tuple (hr.mono (by first | decide | omega)) (by rfl) T.g_is_tuple T.F_is_tuple.kp T.b_is_tuple .nil pass0 (xa_cons (x_var (pv 0)) (xa_cons (x_val pe_int (.int _)) (xa_cons (x_val pe_int (.int _)) xa_nil))))))) (xs_one (xs_ret (ps_ret (x_val pe_bl (.bl _))))) xs_nil)
    (xs_cons (xs_asg (ps_asg (x_var (pv 0)) (xg_tup rfl (kTg K rfl (n := 2) rfl (xgs_cons (xg_name rfl (pg_name (i := 4) sc_is_state.nd rfl (Or.inl rfl))) (xgs_cons (xg_name rfl (pg_name (i := 5) sc_is_state.nd rfl (Or.inl rfl))) xgs_nil))))))
    (xs_cons (xs_if (xt_not (xt_val (x_call .nil (pe_call G_is_tuple (hr.mono (by first | decide | omega)) (by rfl) T.g_is_tuple T.F_is_tuple.kp T.b_is_tuple .nil pass0 (xa_cons (x_var (pv 4)) (xa_cons (x_var (pv 1)) (xa_cons (x_var (pv 1)) xa_nil))))))) (xs_one (xs_ret (ps_ret (x_val pe_bl (.bl _))))) xs_nil)
    (xs_cons (xs_if (xt_not (xt_val (x_cb (sim_one sim_all) (pe_callB (kAll K rfl rfl) (by rfl) T.m_all (by decide +kernel) (xa_cons (x_lc0 (pe_lc (own := [("way", 6)]) (tt := tYes) rfl sc_is_state.nd (xi_val K rfl (x_var (pv 4))) (blkOk_by (N := ["thing", "many_ways", "tells", "many_states", "ways", "end", "way"]) (sc := (defScope s_is_state)) (by decide +kernel)) (fun _ _ _ _ _ => (xg_name rfl (pg_name (i := 6) sc_is_state.nd rfl (Or.inl rfl)))) (fun _ _ _ _ _ => pts_nil) (fun _ _ _ _ _ => (x_call .nil (pe_call G_is_way (hr.mono (by first | decide | omega)) (by rfl) T.g_is_way T.F_is_way.kp T.b_is_way .nil pass0 (xa_cons (x_var (pv 6)) (xa_cons (x_var (pv 2)) (xa_cons (x_var (pv 3)) xa_nil)))))))) xa_nil))))) (xs_one (xs_ret (ps_ret (x_val pe_bl (.bl _))))) xs_nil)
    (xs_one (xs_ret (ps_ret (x_or (x_cmp sim_isN op_isN (x_var (pv 5)) (x_val pe_non .non) (nomark _)) (x_one (x_call .nil (pe_call G_is_text (hr.mono (by first | decide | omega)) (by rfl) T.g_is_text T.F_is_text.kp T.b_is_text .nil pass0 (xa_cons (x_var (pv 5)) (xa_cons (x_var (pv 2)) (xa_cons (x_val (pe_globI (by rfl) T.m_MOST_TOLD) (.int _)) xa_nil)))))))))))))), fun as Qc hc => ?_⟩)
  obtain ⟨x, m, n, g, rfl, G, q⟩ := hc
  ((conv => whnf); repeat ((first | refine ⟨_, rfl, ?_⟩ | refine ⟨Nat.le_of_ble_eq_true rfl, ?_⟩ | refine ⟨rfl, ?_⟩ | refine ⟨_, _, rfl, rfl, ?_⟩ | refine ⟨_, _, _, _, rfl, rfl, rfl, ?_⟩); conv => whnf))
  refine ⟨x, 2, 2, rfl, ?_⟩
  ((conv => whnf); repeat ((first | refine ⟨_, rfl, ?_⟩ | refine ⟨Nat.le_of_ble_eq_true rfl, ?_⟩ | refine ⟨rfl, ?_⟩ | refine ⟨_, _, rfl, rfl, ?_⟩ | refine ⟨_, _, _, _, rfl, rfl, rfl, ?_⟩); conv => whnf))
  cases h : isTup 2 2 x with
  | false =>
    have e : isSt m n g x = false := by
      cases z : isSt m n g x with
      | false => rfl
      | true =>
        unfold isSt at z
        split at z
        · cases h
        · cases z
    rw [e] at q
    ((conv => whnf); repeat ((first | refine ⟨_, rfl, ?_⟩ | refine ⟨Nat.le_of_ble_eq_true rfl, ?_⟩ | refine ⟨rfl, ?_⟩ | refine ⟨_, _, rfl, rfl, ?_⟩ | refine ⟨_, _, _, _, rfl, rfl, rfl, ?_⟩); conv => whnf))
    exact q
  | true =>
    obtain ⟨a, b, rfl⟩ := isTup_two h
    obtain ⟨Ga, Gb⟩ := G.two
    ((conv => whnf); repeat ((first | refine ⟨_, rfl, ?_⟩ | refine ⟨Nat.le_of_ble_eq_true rfl, ?_⟩ | refine ⟨rfl, ?_⟩ | refine ⟨_, _, rfl, rfl, ?_⟩ | refine ⟨_, _, _, _, rfl, rfl, rfl, ?_⟩); conv => whnf))
    refine ⟨a, m, m, rfl, ?_⟩
    ((conv => whnf); repeat ((first | refine ⟨_, rfl, ?_⟩ | refine ⟨Nat.le_of_ble_eq_true rfl, ?_⟩ | refine ⟨rfl, ?_⟩ | refine ⟨_, _, rfl, rfl, ?_⟩ | refine ⟨_, _, _, _, rfl, rfl, rfl, ?_⟩); conv => whnf))
    cases h2 : isTup m m a with
    | false =>
      have e : isSt m n g (.tuple [a, b]) = false := by
        cases a with
        | tuple ws =>
          have h2 : (decide (m ≤ ws.length) && decide (ws.length ≤ m)) = false := h2
          show (((decide (m ≤ ws.length) && decide (ws.length ≤ m)) && _) && _) = false
          rw [h2]
          rfl
        | _ => rfl
      rw [e] at q
      ((conv => whnf); repeat ((first | refine ⟨_, rfl, ?_⟩ | refine ⟨Nat.le_of_ble_eq_true rfl, ?_⟩ | refine ⟨rfl, ?_⟩ | refine ⟨_, _, rfl, rfl, ?_⟩ | refine ⟨_, _, _, _, rfl, rfl, rfl, ?_⟩); conv => whnf))
      exact q
    | true =>
      obtain ⟨ws, rfl, l1, l2⟩ := isTup_ex h2
      have q : Qc (.d (.bool (((decide (m ≤ ws.length) && decide (ws.length ≤ m)) && ws.all (isWy n g)) && isEnd g b))) _ := q
      rw [decide_eq_true l1, decide_eq_true l2] at q
      have wl := Ga.len
      ((conv => whnf); repeat ((first | refine ⟨_, rfl, ?_⟩ | refine ⟨Nat.le_of_ble_eq_true rfl, ?_⟩ | refine ⟨rfl, ?_⟩ | refine ⟨_, _, rfl, rfl, ?_⟩ | refine ⟨_, _, _, _, rfl, rfl, rfl, ?_⟩); conv => whnf))
      refine lc_of ws id (fun x => .bool (isWy n g x)) (List.map_id ws).symm (by omega) (fun x hx R hR => ?_) ?_
      · ((conv => whnf); repeat ((first | refine ⟨_, rfl, ?_⟩ | refine ⟨Nat.le_of_ble_eq_true rfl, ?_⟩ | refine ⟨rfl, ?_⟩ | refine ⟨_, _, rfl, rfl, ?_⟩ | refine ⟨_, _, _, _, rfl, rfl, rfl, ?_⟩); conv => whnf))
        refine ⟨x, g, n, rfl, Ga.sub hx, ?_⟩
        ((conv => whnf); repeat ((first | refine ⟨_, rfl, ?_⟩ | refine ⟨Nat.le_of_ble_eq_true rfl, ?_⟩ | refine ⟨rfl, ?_⟩ | refine ⟨_, _, rfl, rfl, ?_⟩ | refine ⟨_, _, _, _, rfl, rfl, rfl, ?_⟩); conv => whnf))
        exact hR _ rfl
      · ((conv => whnf); repeat ((first | refine ⟨_, rfl, ?_⟩ | refine ⟨Nat.le_of_ble_eq_true rfl, ?_⟩ | refine ⟨rfl, ?_⟩ | refine ⟨_, _, rfl, rfl, ?_⟩ | refine ⟨_, _, _, _, rfl, rfl, rfl, ?_⟩); conv => whnf))
        refine ⟨_, _, rfl, truths_map _ _, ?_⟩
        ((conv => whnf); repeat ((first | refine ⟨_, rfl, ?_⟩ | refine ⟨Nat.le_of_ble_eq_true rfl, ?_⟩ | refine ⟨rfl, ?_⟩ | refine ⟨_, _, rfl, rfl, ?_⟩ | refine ⟨_, _, _, _, rfl, rfl, rfl, ?_⟩); conv => whnf))
        have ea : (ws.map (isWy n g)).all id = ws.all (isWy n g) := by rw [List.all_map]; rfl
        rw [ea]
        cases hw : ws.all (isWy n g) with
        | false =>
          rw [hw] at q
          ((conv => whnf); repeat ((first | refine ⟨_, rfl, ?_⟩ | refine ⟨Nat.le_of_ble_eq_true rfl, ?_⟩ | refine ⟨rfl, ?_⟩ | refine ⟨_, _, rfl, rfl, ?_⟩ | refine ⟨_, _, _, _, rfl, rfl, rfl, ?_⟩); conv => whnf))
          exact q
        | true =>
          rw [hw] at q
          ((conv => whnf); repeat ((first | refine ⟨_, rfl, ?_⟩ | refine ⟨Nat.le_of_ble_eq_true rfl, ?_⟩ | refine ⟨rfl, ?_⟩ | refine ⟨_, _, rfl, rfl, ?_⟩ | refine ⟨_, _, _, _, rfl, rfl, rfl, ?_⟩); conv => whnf))
          cases b with
          | none =>
            refine ⟨true, rfl, ?_⟩
            ((conv => whnf); repeat ((first | refine ⟨_, rfl, ?_⟩ | refine ⟨Nat.le_of_ble_eq_true rfl, ?_⟩ | refine ⟨rfl, ?_⟩ | refine ⟨_, _, rfl, rfl, ?_⟩ | refine ⟨_, _, _, _, rfl, rfl, rfl, ?_⟩); conv => whnf))
            exact q
          | _ =>
            refine ⟨false, rfl, ?_⟩
            ((conv => whnf); repeat ((first | refine ⟨_, rfl, ?_⟩ | refine ⟨Nat.le_of_ble_eq_true rfl, ?_⟩ | refine ⟨rfl, ?_⟩ | refine ⟨_, _, rfl, rfl, ?_⟩ | refine ⟨_, _, _, _, rfl, rfl, rfl, ?_⟩); conv => whnf))
            refine ⟨_, g, 3, rfl, Gb, ?_⟩
            exact q
def c_rdr : Ct := fun as Q => ∃ (x : PyData), as = [.d x] ∧ Good x ∧ Q (.d (.bool (isRdr x))) [.un]
theorem isSig_str {a : PyData} (h : isSig a = true) : ∃ t, a = dT t ∧ sigC t = true := by
  cases a with
  | str z =>
    exact ⟨tl z, by show PyData.str z = .str (tx (tl z)); rw [tx_tl], h⟩
  | _ => cases h
theorem sig_few {t : Cs} (h : sigC t = true) : 1 ≤ t.length ∧ t.length ≤ 8 := by
  unfold sigC at h
  rw [Bool.and_eq_true, Bool.and_eq_true, Bool.and_eq_true] at h
  exact ⟨of_decide_eq_true h.1.1.1, of_decide_eq_true h.1.1.2⟩
theorem x_rdr (T : Top K mg) : FnOk P w K mg base CX0 4 T.f_is_reader T.fd_is_reader ["thing"] (spP c_rdr) := by
  have G_is_tuple := x_isTup (P := P) (w := w) (base := base) T
  have G_is_signs := x_sig (P := P) (w := w) (base := base) T
  have G_is_state := x_state (P := P) (w := w) (base := base) T
  refine okP T.F_is_reader sc_is_reader [false] rfl (by decide) (fun as Q h => by obtain ⟨x, rfl, _⟩ := h; rfl) (fun cdv A outer s H E hr => ⟨_, (xs_cons (xs_if (xt_not (xt_val (x_call .nil (pe_call G_is_tuple (hr.mono (by first | decide | omega)) (by rfl) T.g_is_tuple T.F_is_tuple.kp T.b_is_tuple .nil pass0 (xa_cons (x_var (pv 0)) (xa_cons (x_val pe_int (.int _)) (xa_cons (x_val pe_int (.int _)) xa_nil))))))) (xs_one (xs_ret (ps_ret (x_val pe_bl (.bl _))))) xs_nil)
    (xs_cons (xs_asg (ps_asg (x_var (pv 0)) (xg_tup rfl (kTg K rfl (n := 3) rfl (xgs_cons (xg_name rfl (pg_name (i := 1) sc_is_reader.nd rfl (Or.inr rfl))) (xgs_cons (xg_name rfl (pg_name (i := 2) sc_is_reader.nd rfl (Or.inr rfl))) (xgs_cons (xg_name rfl (pg_name (i := 3) sc_is_reader.nd rfl (Or.inr rfl))) xgs_nil)))))))
    (xs_cons (xs_if (PW.pt (xw_or (xt_not (xt_val (x_call .nil (pe_call G_is_signs (hr.mono (by first | decide | omega)) (by rfl) T.g_is_signs T.F_is_signs.kp T.b_is_signs .nil pass0 (xa_cons (x_var (pv 1)) xa_nil))))) (xw_or (xt_not (xt_val (x_call .nil (pe_call G_is_signs (hr.mono (by first | decide | omega)) (by rfl) T.g_is_signs T.F_is_signs.kp T.b_is_signs .nil pass0 (xa_cons (x_var (pv 2)) xa_nil))))) (xw_or1 (xt_not (xt_val (x_call .nil (pe_call G_is_tuple (hr.mono (by first | decide | omega)) (by rfl) T.g_is_tuple T.F_is_tuple.kp T.b_is_tuple .nil pass0 (xa_cons (x_var (pv 3)) (xa_cons (x_val pe_int (.int _)) (xa_cons (x_val (pe_globI (by rfl) T.m_MOST_STATES) (.int _)) xa_nil))))))))))) (xs_one (xs_ret (ps_ret (x_val pe_bl (.bl _))))) xs_nil)
    (xs_one (xs_ret (ps_ret (x_cb (sim_one sim_all) (pe_callB (kAll K rfl rfl) (by rfl) T.m_all (by decide +kernel) (xa_cons (x_lc0 (pe_lc (own := [("state", 4)]) (tt := tYes) rfl sc_is_reader.nd (xi_val K rfl (x_var (pv 3))) (blkOk_by (N := ["thing", "reads", "tells", "states", "state"]) (sc := (defScope s_is_reader)) (by decide +kernel)) (fun _ _ _ _ _ => (xg_name rfl (pg_name (i := 4) sc_is_reader.nd rfl (Or.inl rfl)))) (fun _ _ _ _ _ => pts_nil) (fun _ _ _ _ _ => (x_call .nil (pe_call G_is_state (hr.mono (by first | decide | omega)) (by rfl) T.g_is_state T.F_is_state.kp T.b_is_state .nil pass0 (xa_cons (x_var (pv 4)) (xa_cons (x_cb (sim_one sim_len) (pe_callB (kLen K rfl) (by rfl) T.m_len PySem.boot_len (xa_cons (x_var (pv 1)) xa_nil))) (xa_cons (x_var (pv 2)) (xa_cons (x_cb (sim_one sim_len) (pe_callB (kLen K rfl) (by rfl) T.m_len PySem.boot_len (xa_cons (x_var (pv 3)) xa_nil))) xa_nil))))))))) xa_nil))))))))), fun as Qc hc => ?_⟩)
  obtain ⟨x, rfl, G, q⟩ := hc
  ((conv => whnf); repeat ((first | refine ⟨_, rfl, ?_⟩ | refine ⟨Nat.le_of_ble_eq_true rfl, ?_⟩ | refine ⟨rfl, ?_⟩ | refine ⟨_, _, rfl, rfl, ?_⟩ | refine ⟨_, _, _, _, rfl, rfl, rfl, ?_⟩); conv => whnf))
  refine ⟨x, 3, 3, rfl, ?_⟩
  ((conv => whnf); repeat ((first | refine ⟨_, rfl, ?_⟩ | refine ⟨Nat.le_of_ble_eq_true rfl, ?_⟩ | refine ⟨rfl, ?_⟩ | refine ⟨_, _, rfl, rfl, ?_⟩ | refine ⟨_, _, _, _, rfl, rfl, rfl, ?_⟩); conv => whnf))
  cases h : isTup 3 3 x with
  | false =>
    have e : isRdr x = false := by
      cases z : isRdr x with
      | false => rfl
      | true =>
        unfold isRdr at z
        split at z
        · cases h
        · cases z
    rw [e] at q
    ((conv => whnf); repeat ((first | refine ⟨_, rfl, ?_⟩ | refine ⟨Nat.le_of_ble_eq_true rfl, ?_⟩ | refine ⟨rfl, ?_⟩ | refine ⟨_, _, rfl, rfl, ?_⟩ | refine ⟨_, _, _, _, rfl, rfl, rfl, ?_⟩); conv => whnf))
    exact q
  | true =>
    obtain ⟨a, b, c, rfl⟩ := isTup_three h
    obtain ⟨Ga, Gb, Gc⟩ := G.three
    have sA : ∀ z, a = .str z → (tl z).length ≤ 16777216 := fun z e => by subst e; have := Ga.txt.1; omega
    have sB : ∀ z, b = .str z → (tl z).length ≤ 16777216 := fun z e => by subst e; have := Gb.txt.1; omega
    have no : isSig a = false ∨ isSig b = false ∨ isTup 1 6 c = false → isRdr (.tuple [a, b, c]) = false := fun o => by
      cases c with
      | tuple ss =>
        show ((isSig a && isSig b) && ((decide (1 ≤ ss.length) && decide (ss.length ≤ 6)) && _)) = false
        rcases o with h | h | h
        · rw [h, Bool.false_and, Bool.false_and]
        · rw [h, Bool.and_false, Bool.false_and]
        · have h : (decide (1 ≤ ss.length) && decide (ss.length ≤ 6)) = false := h
          rw [h, Bool.false_and, Bool.and_false]
      | _ => rfl
    ((conv => whnf); repeat ((first | refine ⟨_, rfl, ?_⟩ | refine ⟨Nat.le_of_ble_eq_true rfl, ?_⟩ | refine ⟨rfl, ?_⟩ | refine ⟨_, _, rfl, rfl, ?_⟩ | refine ⟨_, _, _, _, rfl, rfl, rfl, ?_⟩); conv => whnf))
    refine ⟨sA, ?_⟩
    ((conv => whnf); repeat ((first | refine ⟨_, rfl, ?_⟩ | refine ⟨Nat.le_of_ble_eq_true rfl, ?_⟩ | refine ⟨rfl, ?_⟩ | refine ⟨_, _, rfl, rfl, ?_⟩ | refine ⟨_, _, _, _, rfl, rfl, rfl, ?_⟩); conv => whnf))
    cases h2 : isSig a with
    | false =>
      rw [no (.inl h2)] at q
      ((conv => whnf); repeat ((first | refine ⟨_, rfl, ?_⟩ | refine ⟨Nat.le_of_ble_eq_true rfl, ?_⟩ | refine ⟨rfl, ?_⟩ | refine ⟨_, _, rfl, rfl, ?_⟩ | refine ⟨_, _, _, _, rfl, rfl, rfl, ?_⟩); conv => whnf))
      exact q
    | true =>
      ((conv => whnf); repeat ((first | refine ⟨_, rfl, ?_⟩ | refine ⟨Nat.le_of_ble_eq_true rfl, ?_⟩ | refine ⟨rfl, ?_⟩ | refine ⟨_, _, rfl, rfl, ?_⟩ | refine ⟨_, _, _, _, rfl, rfl, rfl, ?_⟩); conv => whnf))
      refine ⟨sB, ?_⟩
      ((conv => whnf); repeat ((first | refine ⟨_, rfl, ?_⟩ | refine ⟨Nat.le_of_ble_eq_true rfl, ?_⟩ | refine ⟨rfl, ?_⟩ | refine ⟨_, _, rfl, rfl, ?_⟩ | refine ⟨_, _, _, _, rfl, rfl, rfl, ?_⟩); conv => whnf))
      cases h3 : isSig b with
      | false =>
        rw [no (.inr (.inl h3))] at q
        ((conv => whnf); repeat ((first | refine ⟨_, rfl, ?_⟩ | refine ⟨Nat.le_of_ble_eq_true rfl, ?_⟩ | refine ⟨rfl, ?_⟩ | refine ⟨_, _, rfl, rfl, ?_⟩ | refine ⟨_, _, _, _, rfl, rfl, rfl, ?_⟩); conv => whnf))
        exact q
      | true =>
        ((conv => whnf); repeat ((first | refine ⟨_, rfl, ?_⟩ | refine ⟨Nat.le_of_ble_eq_true rfl, ?_⟩ | refine ⟨rfl, ?_⟩ | refine ⟨_, _, rfl, rfl, ?_⟩ | refine ⟨_, _, _, _, rfl, rfl, rfl, ?_⟩); conv => whnf))
        refine ⟨c, 1, 6, rfl, ?_⟩
        ((conv => whnf); repeat ((first | refine ⟨_, rfl, ?_⟩ | refine ⟨Nat.le_of_ble_eq_true rfl, ?_⟩ | refine ⟨rfl, ?_⟩ | refine ⟨_, _, rfl, rfl, ?_⟩ | refine ⟨_, _, _, _, rfl, rfl, rfl, ?_⟩); conv => whnf))
        cases h4 : isTup 1 6 c with
        | false =>
          rw [no (.inr (.inr h4))] at q
          ((conv => whnf); repeat ((first | refine ⟨_, rfl, ?_⟩ | refine ⟨Nat.le_of_ble_eq_true rfl, ?_⟩ | refine ⟨rfl, ?_⟩ | refine ⟨_, _, rfl, rfl, ?_⟩ | refine ⟨_, _, _, _, rfl, rfl, rfl, ?_⟩); conv => whnf))
          exact q
        | true =>
          obtain ⟨ss, rfl, l1, l2⟩ := isTup_ex h4
          have q : Qc (.d (.bool ((isSig a && isSig b) && ((decide (1 ≤ ss.length) && decide (ss.length ≤ 6)) && ss.all (isSt (txS a).length ss.length (txS b)))))) _ := q
          rw [h2, h3, decide_eq_true l1, decide_eq_true l2] at q
          obtain ⟨ga, rfl, sga⟩ := isSig_str h2
          obtain ⟨gb, rfl, sgb⟩ := isSig_str h3
          have q : Qc (.d (.bool (ss.all (isSt (tl (tx ga)).length ss.length (tl (tx gb)))))) _ := q
          rw [tl_tx, tl_tx] at q
          have f8 := sig_few sga
          ((conv => whnf); repeat ((first | refine ⟨_, rfl, ?_⟩ | refine ⟨Nat.le_of_ble_eq_true rfl, ?_⟩ | refine ⟨rfl, ?_⟩ | refine ⟨_, _, rfl, rfl, ?_⟩ | refine ⟨_, _, _, _, rfl, rfl, rfl, ?_⟩); conv => whnf))
          refine lc_of ss id (fun x => .bool (isSt ga.length ss.length gb x)) (List.map_id ss).symm (by omega) (fun x hx R hR => ?_) ?_
          · ((conv => whnf); repeat ((first | refine ⟨_, rfl, ?_⟩ | refine ⟨Nat.le_of_ble_eq_true rfl, ?_⟩ | refine ⟨rfl, ?_⟩ | refine ⟨_, _, rfl, rfl, ?_⟩ | refine ⟨_, _, _, _, rfl, rfl, rfl, ?_⟩); conv => whnf))
            refine ⟨by show ga.length ≤ _; omega, ?_⟩
            ((conv => whnf); repeat ((first | refine ⟨_, rfl, ?_⟩ | refine ⟨Nat.le_of_ble_eq_true rfl, ?_⟩ | refine ⟨rfl, ?_⟩ | refine ⟨_, _, rfl, rfl, ?_⟩ | refine ⟨_, _, _, _, rfl, rfl, rfl, ?_⟩); conv => whnf))
            refine ⟨x, ga.length, ss.length, gb, rfl, Gc.sub hx, ?_⟩
            ((conv => whnf); repeat ((first | refine ⟨_, rfl, ?_⟩ | refine ⟨Nat.le_of_ble_eq_true rfl, ?_⟩ | refine ⟨rfl, ?_⟩ | refine ⟨_, _, rfl, rfl, ?_⟩ | refine ⟨_, _, _, _, rfl, rfl, rfl, ?_⟩); conv => whnf))
            exact hR _ rfl
          · ((conv => whnf); repeat ((first | refine ⟨_, rfl, ?_⟩ | refine ⟨Nat.le_of_ble_eq_true rfl, ?_⟩ | refine ⟨rfl, ?_⟩ | refine ⟨_, _, rfl, rfl, ?_⟩ | refine ⟨_, _, _, _, rfl, rfl, rfl, ?_⟩); conv => whnf))
            refine ⟨_, _, rfl, truths_map _ _, ?_⟩
            ((conv => whnf); repeat ((first | refine ⟨_, rfl, ?_⟩ | refine ⟨Nat.le_of_ble_eq_true rfl, ?_⟩ | refine ⟨rfl, ?_⟩ | refine ⟨_, _, rfl, rfl, ?_⟩ | refine ⟨_, _, _, _, rfl, rfl, rfl, ?_⟩); conv => whnf))
            refine okB ?_ q
            rw [List.all_map]
            rfl
end
end Kx

-- @zip2
-- @any
namespace Kx
open PySem PySem.Spec PyProof.Rows L2 Fo Px TL
section
variable {P : Program} {w : World} {K : PySem.W.Frag} {mg : Str → Option Value} {base : Heap}
theorem fnNo {k : Nat} {f : Addr} {fd : FuncData} {ps : List Str} : FnOk P w K mg base CX0 k f fd ps (spP fun _ _ => False) := by
  refine ⟨fun vs H Q E h => ?_, ?_⟩
  · obtain ⟨_, _, _, _, _, z, _⟩ := h
    exact z.elim
  · intros
    rename_i h
    obtain ⟨_, _, _, _, _, z, _⟩ := h
    exact z.elim
def c_same : Ct := fun as Q => ∃ (a b : Bool), as = [.d (.bool a), .d (.bool b)] ∧ Q (.d (.bool (a == b))) [.un, .un]
theorem x_same (T : Top K mg) : FnOk P w K mg base CX0 1 T.f__law_same T.fd__law_same ["found", "due"] (spP c_same) := by
  have G__law_same := fnNo (P := P) (w := w) (K := K) (mg := mg) (base := base) (k := 0) (f := T.f__law_same) (fd := T.fd__law_same) (ps := ["found", "due"])
  refine okP T.F__law_same sc__law_same [false, false] rfl (by decide) (fun as Q h => by obtain ⟨a, b, rfl, _⟩ := h; rfl) (fun cdv A outer s H E hr => ⟨_, (xs_cons (xs_if (PW.pt (xw_or (xt_cmp sim_isN op_isN (x_var (pv 1)) (x_val pe_non .non) (nomark _)) (xw_or1 (xt_cmp sim_isN op_isN (x_var (pv 0)) (x_val pe_non .non) (nomark _))))) (xs_one (xs_ret (ps_ret (x_and (x_cmp sim_isN op_isN (x_var (pv 1)) (x_val pe_non .non) (nomark _)) (x_one (x_cmp sim_isN op_isN (x_var (pv 0)) (x_val pe_non .non) (nomark _))))))) xs_nil)
    (xs_cons (xs_if (PW.pt (xw_or (xt_val (x_cb (sim_two sim_isi) (pe_callB (kIsi K rfl) (by rfl) T.m_isinstance (by decide +kernel) (xa_cons (x_var (pv 1)) (xa_cons (x_ty (pe_bltn (v := .ty "bool") (by rfl) T.m_bool (by decide +kernel) rfl)) xa_nil))))) (xw_or1 (xt_val (x_cb (sim_two sim_isi) (pe_callB (kIsi K rfl) (by rfl) T.m_isinstance (by decide +kernel) (xa_cons (x_var (pv 0)) (xa_cons (x_ty (pe_bltn (v := .ty "bool") (by rfl) T.m_bool (by decide +kernel) rfl)) xa_nil)))))))) (xs_one (xs_ret (ps_ret (x_and (x_cb (sim_two sim_isi) (pe_callB (kIsi K rfl) (by rfl) T.m_isinstance (by decide +kernel) (xa_cons (x_var (pv 1)) (xa_cons (x_ty (pe_bltn (v := .ty "bool") (by rfl) T.m_bool (by decide +kernel) rfl)) xa_nil)))) (x_and (x_cb (sim_two sim_isi) (pe_callB (kIsi K rfl) (by rfl) T.m_isinstance (by decide +kernel) (xa_cons (x_var (pv 0)) (xa_cons (x_ty (pe_bltn (v := .ty "bool") (by rfl) T.m_bool (by decide +kernel) rfl)) xa_nil)))) (x_one (x_cmp sim_eq (kEq K rfl hr.units) (x_var (pv 0)) (x_var (pv 1)) (nomark _)))))))) xs_nil)
    (xs_cons (xs_if (xt_val (x_cb (sim_two sim_isi) (pe_callB (kIsi K rfl) (by rfl) T.m_isinstance (by decide +kernel) (xa_cons (x_var (pv 1)) (xa_cons (x_tup (pe_tupN (xa_cons (x_ty (pe_bltn (v := .ty "int") (by rfl) T.m_int (by decide +kernel) rfl)) (xa_cons (x_ty (pe_bltn (v := .ty "str") (by rfl) T.m_str (by decide +kernel) rfl)) xa_nil)))) xa_nil))))) (xs_cons (xs_if (xt_cmp sim_ne (kNe K rfl hr.units) (x_cb (sim_two sim_isi) (pe_callB (kIsi K rfl) (by rfl) T.m_isinstance (by decide +kernel) (xa_cons (x_var (pv 0)) (xa_cons (x_ty (pe_bltn (v := .ty "int") (by rfl) T.m_int (by decide +kernel) rfl)) xa_nil)))) (x_cb (sim_two sim_isi) (pe_callB (kIsi K rfl) (by rfl) T.m_isinstance (by decide +kernel) (xa_cons (x_var (pv 1)) (xa_cons (x_ty (pe_bltn (v := .ty "int") (by rfl) T.m_int (by decide +kernel) rfl)) xa_nil)))) (nomark _)) (xs_one (xs_ret (ps_ret (x_val pe_bl (.bl _))))) xs_nil)
    (xs_one (xs_ret (ps_ret (x_and (x_cb (sim_two sim_isi) (pe_callB (kIsi K rfl) (by rfl) T.m_isinstance (by decide +kernel) (xa_cons (x_var (pv 0)) (xa_cons (x_tup (pe_tupN (xa_cons (x_ty (pe_bltn (v := .ty "int") (by rfl) T.m_int (by decide +kernel) rfl)) (xa_cons (x_ty (pe_bltn (v := .ty "str") (by rfl) T.m_str (by decide +kernel) rfl)) xa_nil)))) xa_nil)))) (x_one (x_cmp sim_eq (kEq K rfl hr.units) (x_var (pv 0)) (x_var (pv 1)) (nomark _)))))))) xs_nil)
    (xs_cons (xs_if (PW.pt (xw_or (xt_cmp sim_ne (kNe K rfl hr.units) (x_cb (sim_two sim_isi) (pe_callB (kIsi K rfl) (by rfl) T.m_isinstance (by decide +kernel) (xa_cons (x_var (pv 1)) (xa_cons (x_ty (pe_bltn (v := .ty "tuple") (by rfl) T.m_tuple (by decide +kernel) rfl)) xa_nil)))) (x_cb (sim_two sim_isi) (pe_callB (kIsi K rfl) (by rfl) T.m_isinstance (by decide +kernel) (xa_cons (x_var (pv 0)) (xa_cons (x_ty (pe_bltn (v := .ty "tuple") (by rfl) T.m_tuple (by decide +kernel) rfl)) xa_nil)))) (nomark _)) (xw_or1 (xt_cmp sim_ne (kNe K rfl hr.units) (x_cb (sim_two sim_isi) (pe_callB (kIsi K rfl) (by rfl) T.m_isinstance (by decide +kernel) (xa_cons (x_var (pv 1)) (xa_cons (x_ty (pe_bltn (v := .ty "list") (by rfl) T.m_list (by decide +kernel) rfl)) xa_nil)))) (x_cb (sim_two sim_isi) (pe_callB (kIsi K rfl) (by rfl) T.m_isinstance (by decide +kernel) (xa_cons (x_var (pv 0)) (xa_cons (x_ty (pe_bltn (v := .ty "list") (by rfl) T.m_list (by decide +kernel) rfl)) xa_nil)))) (nomark _))))) (xs_one (xs_ret (ps_ret (x_val pe_bl (.bl _))))) xs_nil)
    (xs_cons (xs_if (xt_cmp sim_ne (kNe K rfl hr.units) (x_cb (sim_one sim_len) (pe_callB (kLen K rfl) (by rfl) T.m_len PySem.boot_len (xa_cons (x_var (pv 0)) xa_nil))) (x_cb (sim_one sim_len) (pe_callB (kLen K rfl) (by rfl) T.m_len PySem.boot_len (xa_cons (x_var (pv 1)) xa_nil))) (nomark _)) (xs_one (xs_ret (ps_ret (x_val pe_bl (.bl _))))) xs_nil)
    (xs_one (xs_ret (ps_ret (x_cmp sim_nin (kNin K rfl) (x_val pe_bl (.bl _)) (x_lc0 (pe_lc (own := [("one", 2), ("other", 3)]) (tt := tYes) rfl sc__law_same.nd (xi_zip (K := K) (pi_zip2 K rfl (by rfl) T.m_zip (xa_cons (x_var (pv 0)) (xa_cons (x_var (pv 1)) xa_nil)))) (blkOk_by (N := ["found", "due", "one", "other"]) (sc := (defScope s__law_same)) (by decide +kernel)) (fun _ _ _ _ _ => (xg_tup rfl (kTg K rfl (n := 2) rfl (xgs_cons (xg_name rfl (pg_name (i := 2) sc__law_same.nd rfl (Or.inl rfl))) (xgs_cons (xg_name rfl (pg_name (i := 3) sc__law_same.nd rfl (Or.inl rfl))) xgs_nil))))) (fun _ _ _ _ _ => pts_nil) (fun _ _ _ _ _ => (x_call .nil (pe_call G__law_same (hr.mono (by first | decide | omega)) (by rfl) T.g__law_same T.F__law_same.kp T.b__law_same .nil pass0 (xa_cons (x_var (pv 2)) (xa_cons (x_var (pv 3)) xa_nil))))))) rfl))))))))), fun as Qc hc => ?_⟩)
  obtain ⟨a, b, rfl, q⟩ := hc
  ((conv => whnf); repeat ((first | refine ⟨_, rfl, ?_⟩ | refine ⟨Nat.le_of_ble_eq_true rfl, ?_⟩ | refine ⟨rfl, ?_⟩ | refine ⟨_, _, rfl, rfl, ?_⟩ | refine ⟨_, _, _, _, rfl, rfl, rfl, ?_⟩); conv => whnf))
  refine okB ?_ q
  exact Bool.false_xor _
def c_lnum : Ct := fun as Q => ∃ (x : PyData) (n : Int), as = [.d x, .d (.int n)] ∧ Q (.d (.bool (isNum n x))) [.un, .un]
theorem x_lnum (T : Top K mg) : FnOk P w K mg base CX0 1 T.f__law_is_number T.fd__law_is_number ["thing", "bound"] (spP c_lnum) := by
  refine okP T.F__law_is_number sc__law_is_number [false, false] rfl (by decide) (fun as Q h => by obtain ⟨x, n, rfl, _⟩ := h; rfl) (fun cdv A outer s H E hr => ⟨_, (xs_one (xs_ret (ps_ret (x_and (x_cb (sim_two sim_isi) (pe_callB (kIsi K rfl) (by rfl) T.m_isinstance (by decide +kernel) (xa_cons (x_var (pv 0)) (xa_cons (x_ty (pe_bltn (v := .ty "int") (by rfl) T.m_int (by decide +kernel) rfl)) xa_nil)))) (x_and (x_not (x_cb (sim_two sim_isi) (pe_callB (kIsi K rfl) (by rfl) T.m_isinstance (by decide +kernel) (xa_cons (x_var (pv 0)) (xa_cons (x_ty (pe_bltn (v := .ty "bool") (by rfl) T.m_bool (by decide +kernel) rfl)) xa_nil))))) (x_one (x_chain sim_cmp sim_cmp (pe_chain op_leP op_ltP (x_val pe_int (.int _)) (x_var (pv 0)) (x_var (pv 1)))))))))), fun as Qc hc => ?_⟩)
  obtain ⟨x, n, rfl, q⟩ := hc
  cases x with
  | int i =>
    ((conv => whnf); repeat ((first | refine ⟨_, rfl, ?_⟩ | refine ⟨Nat.le_of_ble_eq_true rfl, ?_⟩ | refine ⟨rfl, ?_⟩ | refine ⟨_, _, rfl, rfl, ?_⟩ | refine ⟨_, _, _, _, rfl, rfl, rfl, ?_⟩); conv => whnf))
    have q : Qc (.d (.bool (decide (0 ≤ i) && decide (i < n)))) _ := q
    refine pick_of (fun h => ?_) (fun h => ?_)
    · have h : decide (0 ≤ i) = true := h
      rw [h] at q
      ((conv => whnf); repeat ((first | refine ⟨_, rfl, ?_⟩ | refine ⟨Nat.le_of_ble_eq_true rfl, ?_⟩ | refine ⟨rfl, ?_⟩ | refine ⟨_, _, rfl, rfl, ?_⟩ | refine ⟨_, _, _, _, rfl, rfl, rfl, ?_⟩); conv => whnf))
      exact q
    · have h : decide (0 ≤ i) = false := h
      rw [h] at q
      ((conv => whnf); repeat ((first | refine ⟨_, rfl, ?_⟩ | refine ⟨Nat.le_of_ble_eq_true rfl, ?_⟩ | refine ⟨rfl, ?_⟩ | refine ⟨_, _, rfl, rfl, ?_⟩ | refine ⟨_, _, _, _, rfl, rfl, rfl, ?_⟩); conv => whnf))
      exact q
  | bool b =>
    ((conv => whnf); repeat ((first | refine ⟨_, rfl, ?_⟩ | refine ⟨Nat.le_of_ble_eq_true rfl, ?_⟩ | refine ⟨rfl, ?_⟩ | refine ⟨_, _, rfl, rfl, ?_⟩ | refine ⟨_, _, _, _, rfl, rfl, rfl, ?_⟩); conv => whnf))
    exact q
  | _ =>
    ((conv => whnf); repeat ((first | refine ⟨_, rfl, ?_⟩ | refine ⟨Nat.le_of_ble_eq_true rfl, ?_⟩ | refine ⟨rfl, ?_⟩ | refine ⟨_, _, rfl, rfl, ?_⟩ | refine ⟨_, _, _, _, rfl, rfl, rfl, ?_⟩); conv => whnf))
    exact q
theorem adj_pair : ∀ {t : Cs}, adj t = true ↔ t.Pairwise (· < ·)
  | [] => ⟨fun _ => .nil, fun _ => rfl⟩
  | [c] => ⟨fun _ => List.pairwise_singleton _ c, fun _ => rfl⟩
  | c :: d :: t => by
    have ih := adj_pair (t := d :: t)
    show (decide (c < d) && adj (d :: t)) = true ↔ _
    rw [Bool.and_eq_true, ih, decide_eq_true_iff, List.pairwise_cons (a := c)]
    constructor
    · rintro ⟨h1, h2⟩
      refine ⟨fun x hx => ?_, h2⟩
      rcases List.mem_cons.mp hx with rfl | hx
      · exact h1
      · exact Nat.lt_trans h1 ((List.pairwise_cons.mp h2).1 x hx)
    · rintro ⟨h1, h2⟩
      exact ⟨h1 d (List.mem_cons_self ..), h2⟩
theorem up_eq : ∀ {t u : Cs}, t.Pairwise (· < ·) → u.Pairwise (· < ·) → (∀ c, c ∈ u ↔ c ∈ t) → t = u
  | [], [], _, _, _ => rfl
  | [], b :: u, _, _, h => nomatch (h b).mp (List.mem_cons_self ..)
  | a :: t, [], _, _, h => nomatch (h a).mpr (List.mem_cons_self ..)
  | a :: t, b :: u, h1, h2, h => by
    obtain ⟨p1, q1⟩ := List.pairwise_cons.mp h1
    obtain ⟨p2, q2⟩ := List.pairwise_cons.mp h2
    have ab : a = b := by
      rcases List.mem_cons.mp ((h a).mpr (List.mem_cons_self ..)) with e | m
      · exact e
      · rcases List.mem_cons.mp ((h b).mp (List.mem_cons_self ..)) with e | m2
        · exact e.symm
        · have := p1 b m2
          have := p2 a m
          omega
    subst ab
    congr 1
    refine up_eq q1 q2 fun c => ⟨fun m => ?_, fun m => ?_⟩
    · rcases List.mem_cons.mp ((h c).mp (List.mem_cons_of_mem _ m)) with e | m2
      · subst e
        exact absurd (p2 c m) (Nat.lt_irrefl _)
      · exact m2
    · rcases List.mem_cons.mp ((h c).mpr (List.mem_cons_of_mem _ m)) with e | m2
      · subst e
        exact absurd (p1 c m) (Nat.lt_irrefl _)
      · exact m2
theorem eqv_ones : ∀ (t u : Cs), PyData.eqv (.list (t.map fun c => .str (tx [c]))) (.list (u.map fun c => .str (tx [c]))) = decide (t = u) := by
  have go : ∀ (t u : Cs), PyData.eqvAll (t.map fun c => .str (tx [c])) (u.map fun c => .str (tx [c])) = decide (t = u) := by
    intro t
    induction t with
    | nil =>
      intro u
      cases u <;> simp [PyData.eqvAll]
    | cons c t ih =>
      intro u
      cases u with
      | nil => simp [PyData.eqvAll]
      | cons d u =>
        simp only [List.map_cons, PyData.eqvAll, ih, PyData.eqv]
        by_cases e : c = d
        · subst e
          simp
        · have n : tx [c] ≠ tx [d] := fun z => e (by have := congrArg tl z; rw [tl_tx, tl_tx] at this; exact (List.cons.inj this).1)
          have b : (tx [c] == tx [d]) = false := beq_eq_false_iff_ne.mpr n
          rw [b, Bool.false_and, decide_eq_false (fun z => e (List.cons.inj z).1)]
  intro t u
  have := go t u
  simpa [PyData.eqv] using this
def c_lsig : Ct := fun as Q => ∃ (x : PyData), as = [.d x] ∧ (∀ z, x = .str z → (tl z).length ≤ 16777216 ∧ ∀ c ∈ tl z, c < 1114112) ∧ Q (.d (.bool (isSig x))) [.un]
theorem x_lsig (T : Top K mg) : FnOk P w K mg base CX0 1 T.f__law_are_signs T.fd__law_are_signs ["thing"] (spP c_lsig) := by
  refine okP T.F__law_are_signs sc__law_are_signs [false] rfl (by decide) (fun as Q h => by obtain ⟨x, rfl, _⟩ := h; rfl) (fun cdv A outer s H E hr => ⟨_, (xs_cons (xs_if (PW.pt (xw_or (xt_not (xt_val (x_cb (sim_two sim_isi) (pe_callB (kIsi K rfl) (by rfl) T.m_isinstance (by decide +kernel) (xa_cons (x_var (pv 0)) (xa_cons (x_ty (pe_bltn (v := .ty "str") (by rfl) T.m_str (by decide +kernel) rfl)) xa_nil)))))) (xw_or1 (xt_not (xt_chain sim_cmp sim_cmp (pt_chain op_leP op_leP (x_val pe_int (.int _)) (x_cb (sim_one sim_len) (pe_callB (kLen K rfl) (by rfl) T.m_len PySem.boot_len (xa_cons (x_var (pv 0)) xa_nil))) (x_val pe_int (.int _)))))))) (xs_one (xs_ret (ps_ret (x_val pe_bl (.bl _))))) xs_nil)
    (xs_one (xs_ret (ps_ret (x_and (x_cmp sim_eqL0 (op_eqL0 (un0 hr)) (x_lc (pe_lc (own := [("sign", 1)]) rfl sc__law_are_signs.nd (xi_val K rfl (x_var (pv 0))) (blkOk_by (N := ["thing", "sign"]) (sc := (defScope s__law_are_signs)) (by decide +kernel)) (fun _ _ _ _ _ => (xg_name rfl (pg_name (i := 1) sc__law_are_signs.nd rfl (Or.inl rfl)))) (fun _ _ _ _ _ => pts_one (xt_not (xt_chain sim_cmp sim_cmp (pt_chain op_leP op_leP (x_strC (cs := [33]) pe_str (by decide +kernel)) (x_var (pv 1)) (x_strC (cs := [126]) pe_str (by decide +kernel)))))) (fun _ _ _ _ _ => (x_var (pv 1))))) (x_lst (pe_lstN xa_nil)) (nomark _)) (x_one (x_cmp sim_eq (kEq K rfl hr.units) (x_cb (sim_one sim_list) (pe_callTy (kList K rfl rfl) (by rfl) T.m_list (by decide +kernel) (xa_cons (x_var (pv 0)) xa_nil))) (x_cb (sim_one (sim_sortset (Pw := (P, w)))) (pe_callB (kSortT rfl rfl) (by rfl) T.m_sorted (by decide +kernel) (xa_cons (x_cb (sim_one (sim_set (Pw := (P, w)))) (pe_callTy (kSetTx rfl rfl) (by rfl) T.m_set (by decide +kernel) (xa_cons (x_var (pv 0)) xa_nil))) xa_nil))) (nomark _)))))))), fun as Qc hc => ?_⟩)
  obtain ⟨x, rfl, sz, q⟩ := hc
  cases x with
  | str z =>
    have sz := sz z rfl
    obtain ⟨t, rfl⟩ : ∃ t, z = tx t := ⟨tl z, (tx_tl z).symm⟩
    rw [tl_tx] at sz
    obtain ⟨sz, cs⟩ := sz
    have q : Qc (.d (.bool (sigC (tl (tx t))))) _ := q
    rw [tl_tx] at q
    unfold sigC at q
    ((conv => whnf); repeat ((first | refine ⟨_, rfl, ?_⟩ | refine ⟨Nat.le_of_ble_eq_true rfl, ?_⟩ | refine ⟨rfl, ?_⟩ | refine ⟨_, _, rfl, rfl, ?_⟩ | refine ⟨_, _, _, _, rfl, rfl, rfl, ?_⟩); conv => whnf))
    refine ⟨sz, ?_⟩
    ((conv => whnf); repeat ((first | refine ⟨_, rfl, ?_⟩ | refine ⟨Nat.le_of_ble_eq_true rfl, ?_⟩ | refine ⟨rfl, ?_⟩ | refine ⟨_, _, rfl, rfl, ?_⟩ | refine ⟨_, _, _, _, rfl, rfl, rfl, ?_⟩); conv => whnf))
    by_cases h1 : 1 ≤ t.length
    · rw [decide_eq_true h1] at q
      refine pickT (yesD (show (1 : Int) ≤ (t.length : Int) by omega)) ?_
      ((conv => whnf); repeat ((first | refine ⟨_, rfl, ?_⟩ | refine ⟨Nat.le_of_ble_eq_true rfl, ?_⟩ | refine ⟨rfl, ?_⟩ | refine ⟨_, _, rfl, rfl, ?_⟩ | refine ⟨_, _, _, _, rfl, rfl, rfl, ?_⟩); conv => whnf))
      by_cases h8 : t.length ≤ 8
      · rw [decide_eq_true h8] at q
        refine pickF (nYes (yesD (show (t.length : Int) ≤ 8 by omega))) ?_
        ((conv => whnf); repeat ((first | refine ⟨_, rfl, ?_⟩ | refine ⟨Nat.le_of_ble_eq_true rfl, ?_⟩ | refine ⟨rfl, ?_⟩ | refine ⟨_, _, rfl, rfl, ?_⟩ | refine ⟨_, _, _, _, rfl, rfl, rfl, ?_⟩); conv => whnf))
        refine lc_fil t (fun c => .str (tx [c])) (fun c => .str (tx [c])) (fun c => !(decide (33 ≤ c) && decide (c ≤ 126))) rfl (by omega) (fun c hc R N hR hN => ?_) ?_
        · ((conv => whnf); repeat ((first | refine ⟨_, rfl, ?_⟩ | refine ⟨Nat.le_of_ble_eq_true rfl, ?_⟩ | refine ⟨rfl, ?_⟩ | refine ⟨_, _, rfl, rfl, ?_⟩ | refine ⟨_, _, _, _, rfl, rfl, rfl, ?_⟩); conv => whnf))
          refine pick_of (fun h => ?_) (fun h => ?_)
          · have h : (!decide ([c] < [33])) = true := h
            rw [le1] at h
            ((conv => whnf); repeat ((first | refine ⟨_, rfl, ?_⟩ | refine ⟨Nat.le_of_ble_eq_true rfl, ?_⟩ | refine ⟨rfl, ?_⟩ | refine ⟨_, _, rfl, rfl, ?_⟩ | refine ⟨_, _, _, _, rfl, rfl, rfl, ?_⟩); conv => whnf))
            refine pick_of (fun h2 => ?_) (fun h2 => ?_)
            · have h2 : (!!decide ([126] < [c])) = true := h2
              rw [le1] at h2
              ((conv => whnf); repeat ((first | refine ⟨_, rfl, ?_⟩ | refine ⟨Nat.le_of_ble_eq_true rfl, ?_⟩ | refine ⟨rfl, ?_⟩ | refine ⟨_, _, rfl, rfl, ?_⟩ | refine ⟨_, _, _, _, rfl, rfl, rfl, ?_⟩); conv => whnf))
              exact hR (by rw [h, Bool.true_and]; exact h2) _ rfl
            · have h2 : (!!decide ([126] < [c])) = false := h2
              rw [le1] at h2
              ((conv => whnf); repeat ((first | refine ⟨_, rfl, ?_⟩ | refine ⟨Nat.le_of_ble_eq_true rfl, ?_⟩ | refine ⟨rfl, ?_⟩ | refine ⟨_, _, rfl, rfl, ?_⟩ | refine ⟨_, _, _, _, rfl, rfl, rfl, ?_⟩); conv => whnf))
              exact hN (by rw [h, Bool.true_and]; exact h2) _ rfl
          · have h : (!decide ([c] < [33])) = false := h
            rw [le1] at h
            ((conv => whnf); repeat ((first | refine ⟨_, rfl, ?_⟩ | refine ⟨Nat.le_of_ble_eq_true rfl, ?_⟩ | refine ⟨rfl, ?_⟩ | refine ⟨_, _, rfl, rfl, ?_⟩ | refine ⟨_, _, _, _, rfl, rfl, rfl, ?_⟩); conv => whnf))
            exact hR (by rw [h]; rfl) _ rfl
        · ((conv => whnf); repeat ((first | refine ⟨_, rfl, ?_⟩ | refine ⟨Nat.le_of_ble_eq_true rfl, ?_⟩ | refine ⟨rfl, ?_⟩ | refine ⟨_, _, rfl, rfl, ?_⟩ | refine ⟨_, _, _, _, rfl, rfl, rfl, ?_⟩); conv => whnf))
          have ee : (((t.filter fun c => !(decide (33 ≤ c) && decide (c ≤ 126))).map fun c => PyData.str (tx [c])).isEmpty) = t.all fun c => decide (33 ≤ c) && decide (c ≤ 126) := by
            rw [Bool.eq_iff_iff, List.isEmpty_iff, List.map_eq_nil_iff, List.filter_eq_nil_iff, List.all_eq_true]
            exact forall₂_congr fun c _ => by simp
          rw [ee]
          refine pick_of (fun h => ?_) (fun h => ?_)
          · have h := (Bool.false_xor _).symm.trans h
            rw [h] at q
            ((conv => whnf); repeat ((first | refine ⟨_, rfl, ?_⟩ | refine ⟨Nat.le_of_ble_eq_true rfl, ?_⟩ | refine ⟨rfl, ?_⟩ | refine ⟨_, _, rfl, rfl, ?_⟩ | refine ⟨_, _, _, _, rfl, rfl, rfl, ?_⟩); conv => whnf))
            refine ⟨by show t.length ≤ _; omega, ?_⟩
            ((conv => whnf); repeat ((first | refine ⟨_, rfl, ?_⟩ | refine ⟨Nat.le_of_ble_eq_true rfl, ?_⟩ | refine ⟨rfl, ?_⟩ | refine ⟨_, _, rfl, rfl, ?_⟩ | refine ⟨_, _, _, _, rfl, rfl, rfl, ?_⟩); conv => whnf))
            refine ⟨by omega, ?_⟩
            ((conv => whnf); repeat ((first | refine ⟨_, rfl, ?_⟩ | refine ⟨Nat.le_of_ble_eq_true rfl, ?_⟩ | refine ⟨rfl, ?_⟩ | refine ⟨_, _, rfl, rfl, ?_⟩ | refine ⟨_, _, _, _, rfl, rfl, rfl, ?_⟩); conv => whnf))
            refine ⟨by omega, fun u up mem => ?_⟩
            ((conv => whnf); repeat ((first | refine ⟨_, rfl, ?_⟩ | refine ⟨Nat.le_of_ble_eq_true rfl, ?_⟩ | refine ⟨rfl, ?_⟩ | refine ⟨_, _, rfl, rfl, ?_⟩ | refine ⟨_, _, _, _, rfl, rfl, rfl, ?_⟩); conv => whnf))
            have k1 : (t.map fun c => PyData.str (tx [c])).all okD = true := ok_map t fun c m => Px.ok_text fun d hd => by rw [List.mem_singleton.mp hd]; exact cs c m
            have k2 : (u.map fun c => PyData.str (tx [c])).all okD = true := ok_map u fun c m => Px.ok_text fun d hd => by rw [List.mem_singleton.mp hd]; exact cs c ((mem c).mp m)
            refine ⟨list_shape k1, list_shape k2, ?_⟩
            ((conv => whnf); repeat ((first | refine ⟨_, rfl, ?_⟩ | refine ⟨Nat.le_of_ble_eq_true rfl, ?_⟩ | refine ⟨rfl, ?_⟩ | refine ⟨_, _, rfl, rfl, ?_⟩ | refine ⟨_, _, _, _, rfl, rfl, rfl, ?_⟩); conv => whnf))
            refine okB ?_ q
            show (false ^^ PyData.eqv (.list (t.map fun c => .str (tx [c]))) (.list (u.map fun c => .str (tx [c])))) = adj t
            rw [Bool.false_xor, eqv_ones]
            cases ha : adj t with
            | true => exact decide_eq_true (up_eq (adj_pair.mp ha) up mem)
            | false => exact decide_eq_false fun z => by rw [adj_pair.mpr (z ▸ up)] at ha; cases ha
          · have h := (Bool.false_xor _).symm.trans h
            rw [h] at q
            ((conv => whnf); repeat ((first | refine ⟨_, rfl, ?_⟩ | refine ⟨Nat.le_of_ble_eq_true rfl, ?_⟩ | refine ⟨rfl, ?_⟩ | refine ⟨_, _, rfl, rfl, ?_⟩ | refine ⟨_, _, _, _, rfl, rfl, rfl, ?_⟩); conv => whnf))
            exact q
      · rw [decide_eq_false h8] at q
        refine pickT (nNo (noD (show ¬ (t.length : Int) ≤ 8 by omega))) ?_
        ((conv => whnf); repeat ((first | refine ⟨_, rfl, ?_⟩ | refine ⟨Nat.le_of_ble_eq_true rfl, ?_⟩ | refine ⟨rfl, ?_⟩ | refine ⟨_, _, rfl, rfl, ?_⟩ | refine ⟨_, _, _, _, rfl, rfl, rfl, ?_⟩); conv => whnf))
        exact q
    · rw [decide_eq_false h1] at q
      refine pickF (noD (show ¬ (1 : Int) ≤ (t.length : Int) by omega)) ?_
      ((conv => whnf); repeat ((first | refine ⟨_, rfl, ?_⟩ | refine ⟨Nat.le_of_ble_eq_true rfl, ?_⟩ | refine ⟨rfl, ?_⟩ | refine ⟨_, _, rfl, rfl, ?_⟩ | refine ⟨_, _, _, _, rfl, rfl, rfl, ?_⟩); conv => whnf))
      exact q
  | _ =>
    ((conv => whnf); repeat ((first | refine ⟨_, rfl, ?_⟩ | refine ⟨Nat.le_of_ble_eq_true rfl, ?_⟩ | refine ⟨rfl, ?_⟩ | refine ⟨_, _, rfl, rfl, ?_⟩ | refine ⟨_, _, _, _, rfl, rfl, rfl, ?_⟩); conv => whnf))
    exact q
def c_same2 : Ct := fun as Q => ∃ (a b c d : Bool), as = [.l [.bool a, .bool b], .l [.bool c, .bool d]] ∧ Q (.d (.bool ((a == c) && (b == d)))) [.un, .un]
theorem x_same2 (T : Top K mg) : FnOk P w K mg base CX0 2 T.f__law_same T.fd__law_same ["found", "due"] (spP c_same2) := by
  have G__law_same := x_same (P := P) (w := w) (base := base) T
  refine okP T.F__law_same sc__law_same [false, false] rfl (by decide) (fun as Q h => by obtain ⟨a, b, c, d, rfl, _⟩ := h; rfl) (fun cdv A outer s H E hr => ⟨_, (xs_cons (xs_if (PW.pt (xw_or (xt_cmp sim_isN op_isN (x_var (pv 1)) (x_val pe_non .non) (nomark _)) (xw_or1 (xt_cmp sim_isN op_isN (x_var (pv 0)) (x_val pe_non .non) (nomark _))))) (xs_one (xs_ret (ps_ret (x_and (x_cmp sim_isN op_isN (x_var (pv 1)) (x_val pe_non .non) (nomark _)) (x_one (x_cmp sim_isN op_isN (x_var (pv 0)) (x_val pe_non .non) (nomark _))))))) xs_nil)
    (xs_cons (xs_if (PW.pt (xw_or (xt_val (x_cb (sim_two sim_isi) (pe_callB (kIsi K rfl) (by rfl) T.m_isinstance (by decide +kernel) (xa_cons (x_var (pv 1)) (xa_cons (x_ty (pe_bltn (v := .ty "bool") (by rfl) T.m_bool (by decide +kernel) rfl)) xa_nil))))) (xw_or1 (xt_val (x_cb (sim_two sim_isi) (pe_callB (kIsi K rfl) (by rfl) T.m_isinstance (by decide +kernel) (xa_cons (x_var (pv 0)) (xa_cons (x_ty (pe_bltn (v := .ty "bool") (by rfl) T.m_bool (by decide +kernel) rfl)) xa_nil)))))))) (xs_one (xs_ret (ps_ret (x_and (x_cb (sim_two sim_isi) (pe_callB (kIsi K rfl) (by rfl) T.m_isinstance (by decide +kernel) (xa_cons (x_var (pv 1)) (xa_cons (x_ty (pe_bltn (v := .ty "bool") (by rfl) T.m_bool (by decide +kernel) rfl)) xa_nil)))) (x_and (x_cb (sim_two sim_isi) (pe_callB (kIsi K rfl) (by rfl) T.m_isinstance (by decide +kernel) (xa_cons (x_var (pv 0)) (xa_cons (x_ty (pe_bltn (v := .ty "bool") (by rfl) T.m_bool (by decide +kernel) rfl)) xa_nil)))) (x_one (x_cmp sim_eq (kEq K rfl hr.units) (x_var (pv 0)) (x_var (pv 1)) (nomark _)))))))) xs_nil)
    (xs_cons (xs_if (xt_val (x_cb (sim_two sim_isi) (pe_callB (kIsi K rfl) (by rfl) T.m_isinstance (by decide +kernel) (xa_cons (x_var (pv 1)) (xa_cons (x_tup (pe_tupN (xa_cons (x_ty (pe_bltn (v := .ty "int") (by rfl) T.m_int (by decide +kernel) rfl)) (xa_cons (x_ty (pe_bltn (v := .ty "str") (by rfl) T.m_str (by decide +kernel) rfl)) xa_nil)))) xa_nil))))) (xs_cons (xs_if (xt_cmp sim_ne (kNe K rfl hr.units) (x_cb (sim_two sim_isi) (pe_callB (kIsi K rfl) (by rfl) T.m_isinstance (by decide +kernel) (xa_cons (x_var (pv 0)) (xa_cons (x_ty (pe_bltn (v := .ty "int") (by rfl) T.m_int (by decide +kernel) rfl)) xa_nil)))) (x_cb (sim_two sim_isi) (pe_callB (kIsi K rfl) (by rfl) T.m_isinstance (by decide +kernel) (xa_cons (x_var (pv 1)) (xa_cons (x_ty (pe_bltn (v := .ty "int") (by rfl) T.m_int (by decide +kernel) rfl)) xa_nil)))) (nomark _)) (xs_one (xs_ret (ps_ret (x_val pe_bl (.bl _))))) xs_nil)
    (xs_one (xs_ret (ps_ret (x_and (x_cb (sim_two sim_isi) (pe_callB (kIsi K rfl) (by rfl) T.m_isinstance (by decide +kernel) (xa_cons (x_var (pv 0)) (xa_cons (x_tup (pe_tupN (xa_cons (x_ty (pe_bltn (v := .ty "int") (by rfl) T.m_int (by decide +kernel) rfl)) (xa_cons (x_ty (pe_bltn (v := .ty "str") (by rfl) T.m_str (by decide +kernel) rfl)) xa_nil)))) xa_nil)))) (x_one (x_cmp sim_eq (kEq K rfl hr.units) (x_var (pv 0)) (x_var (pv 1)) (nomark _)))))))) xs_nil)
    (xs_cons (xs_if (PW.pt (xw_or (xt_cmp sim_ne (kNe K rfl hr.units) (x_cb (sim_two sim_isi) (pe_callB (kIsi K rfl) (by rfl) T.m_isinstance (by decide +kernel) (xa_cons (x_var (pv 1)) (xa_cons (x_ty (pe_bltn (v := .ty "tuple") (by rfl) T.m_tuple (by decide +kernel) rfl)) xa_nil)))) (x_cb (sim_two sim_isi) (pe_callB (kIsi K rfl) (by rfl) T.m_isinstance (by decide +kernel) (xa_cons (x_var (pv 0)) (xa_cons (x_ty (pe_bltn (v := .ty "tuple") (by rfl) T.m_tuple (by decide +kernel) rfl)) xa_nil)))) (nomark _)) (xw_or1 (xt_cmp sim_ne (kNe K rfl hr.units) (x_cb (sim_two sim_isi) (pe_callB (kIsi K rfl) (by rfl) T.m_isinstance (by decide +kernel) (xa_cons (x_var (pv 1)) (xa_cons (x_ty (pe_bltn (v := .ty "list") (by rfl) T.m_list (by decide +kernel) rfl)) xa_nil)))) (x_cb (sim_two sim_isi) (pe_callB (kIsi K rfl) (by rfl) T.m_isinstance (by decide +kernel) (xa_cons (x_var (pv 0)) (xa_cons (x_ty (pe_bltn (v := .ty "list") (by rfl) T.m_list (by decide +kernel) rfl)) xa_nil)))) (nomark _))))) (xs_one (xs_ret (ps_ret (x_val pe_bl (.bl _))))) xs_nil)
    (xs_cons (xs_if (xt_cmp sim_ne (kNe K rfl hr.units) (x_cb (sim_one sim_len) (pe_callB (kLen K rfl) (by rfl) T.m_len PySem.boot_len (xa_cons (x_var (pv 0)) xa_nil))) (x_cb (sim_one sim_len) (pe_callB (kLen K rfl) (by rfl) T.m_len PySem.boot_len (xa_cons (x_var (pv 1)) xa_nil))) (nomark _)) (xs_one (xs_ret (ps_ret (x_val pe_bl (.bl _))))) xs_nil)
    (xs_one (xs_ret (ps_ret (x_cmp sim_nin (kNin K rfl) (x_val pe_bl (.bl _)) (x_lc0 (pe_lc (own := [("one", 2), ("other", 3)]) (tt := tYes) rfl sc__law_same.nd (xi_zip (K := K) (pi_zip2 K rfl (by rfl) T.m_zip (xa_cons (x_var (pv 0)) (xa_cons (x_var (pv 1)) xa_nil)))) (blkOk_by (N := ["found", "due", "one", "other"]) (sc := (defScope s__law_same)) (by decide +kernel)) (fun _ _ _ _ _ => (xg_tup rfl (kTg K rfl (n := 2) rfl (xgs_cons (xg_name rfl (pg_name (i := 2) sc__law_same.nd rfl (Or.inl rfl))) (xgs_cons (xg_name rfl (pg_name (i := 3) sc__law_same.nd rfl (Or.inl rfl))) xgs_nil))))) (fun _ _ _ _ _ => pts_nil) (fun _ _ _ _ _ => (x_call .nil (pe_call G__law_same (hr.mono (by first | decide | omega)) (by rfl) T.g__law_same T.F__law_same.kp T.b__law_same .nil pass0 (xa_cons (x_var (pv 2)) (xa_cons (x_var (pv 3)) xa_nil))))))) rfl))))))))), fun as Qc hc => ?_⟩)
  obtain ⟨a, b, c, d, rfl, q⟩ := hc
  ((conv => whnf); repeat ((first | refine ⟨_, rfl, ?_⟩ | refine ⟨Nat.le_of_ble_eq_true rfl, ?_⟩ | refine ⟨rfl, ?_⟩ | refine ⟨_, _, rfl, rfl, ?_⟩ | refine ⟨_, _, _, _, rfl, rfl, rfl, ?_⟩); conv => whnf))
  refine lc_unr (Nat.le_of_ble_eq_true rfl) ?_
  ((conv => whnf); repeat ((first | refine ⟨_, rfl, ?_⟩ | refine ⟨Nat.le_of_ble_eq_true rfl, ?_⟩ | refine ⟨rfl, ?_⟩ | refine ⟨_, _, rfl, rfl, ?_⟩ | refine ⟨_, _, _, _, rfl, rfl, rfl, ?_⟩); conv => whnf))
  refine ⟨_, _, rfl, ?_⟩
  ((conv => whnf); repeat ((first | refine ⟨_, rfl, ?_⟩ | refine ⟨Nat.le_of_ble_eq_true rfl, ?_⟩ | refine ⟨rfl, ?_⟩ | refine ⟨_, _, rfl, rfl, ?_⟩ | refine ⟨_, _, _, _, rfl, rfl, rfl, ?_⟩); conv => whnf))
  refine ⟨_, _, rfl, ?_⟩
  ((conv => whnf); repeat ((first | refine ⟨_, rfl, ?_⟩ | refine ⟨Nat.le_of_ble_eq_true rfl, ?_⟩ | refine ⟨rfl, ?_⟩ | refine ⟨_, _, rfl, rfl, ?_⟩ | refine ⟨_, _, _, _, rfl, rfl, rfl, ?_⟩); conv => whnf))
  refine okB ?_ q
  have e : ∀ x y : Bool, inD (.bool false) [.bool x, .bool y] = !(x && y) := fun x y => by
    unfold inD
    cases x <;> cases y <;> simp [PyData.eqv]
  show (true ^^ inD (.bool false) [.bool (a == c), .bool (b == d)]) = _
  rw [e]
  cases (a == c) <;> cases (b == d) <;> rfl
def c_ltxt : Ct := fun as Q => ∃ (x : PyData) (g : Cs) (m : Nat), as = [.d x, .d (dT g), .d (.int (m : Int))] ∧ Good x ∧ Q (.d (.bool (isTxt g m x))) [.un, .un, .un]
theorem x_ltxt (T : Top K mg) : FnOk P w K mg base CX0 1 T.f__law_is_text T.fd__law_is_text ["thing", "signs", "most"] (spP c_ltxt) := by
  refine okP T.F__law_is_text sc__law_is_text [false, false, false] rfl (by decide) (fun as Q h => by obtain ⟨x, g, m, rfl, _⟩ := h; rfl) (fun cdv A outer s H E hr => ⟨_, (xs_one (xs_ret (ps_ret (x_and (x_cb (sim_two sim_isi) (pe_callB (kIsi K rfl) (by rfl) T.m_isinstance (by decide +kernel) (xa_cons (x_var (pv 0)) (xa_cons (x_ty (pe_bltn (v := .ty "str") (by rfl) T.m_str (by decide +kernel) rfl)) xa_nil)))) (x_and (x_cmp sim_cmp op_leP (x_cb (sim_one sim_len) (pe_callB (kLen K rfl) (by rfl) T.m_len PySem.boot_len (xa_cons (x_var (pv 0)) xa_nil))) (x_var (pv 2)) (nomark _)) (x_one (x_cmp sim_eqL0 (op_eqL0 (un0 hr)) (x_lc (pe_lc (own := [("sign", 3)]) rfl sc__law_is_text.nd (xi_val K rfl (x_var (pv 0))) (blkOk_by (N := ["thing", "signs", "most", "sign"]) (sc := (defScope s__law_is_text)) (by decide +kernel)) (fun _ _ _ _ _ => (xg_name rfl (pg_name (i := 3) sc__law_is_text.nd rfl (Or.inl rfl)))) (fun _ _ _ _ _ => pts_one (xt_cmp sim_nin (kNin K rfl) (x_var (pv 3)) (x_var (pv 1)) rfl)) (fun _ _ _ _ _ => (x_var (pv 3))))) (x_lst (pe_lstN xa_nil)) (nomark _)))))))), fun as Qc hc => ?_⟩)
  obtain ⟨x, g, m, rfl, G, q⟩ := hc
  cases x with
  | str z =>
    obtain ⟨sz, _⟩ := G.txt
    obtain ⟨t, rfl⟩ : ∃ t, z = tx t := ⟨tl z, (tx_tl z).symm⟩
    have q : Qc (.d (.bool (decide ((tl (tx t)).length ≤ m) && (tl (tx t)).all fun c => decide (c ∈ g)))) _ := q
    rw [tl_tx] at q sz
    ((conv => whnf); repeat ((first | refine ⟨_, rfl, ?_⟩ | refine ⟨Nat.le_of_ble_eq_true rfl, ?_⟩ | refine ⟨rfl, ?_⟩ | refine ⟨_, _, rfl, rfl, ?_⟩ | refine ⟨_, _, _, _, rfl, rfl, rfl, ?_⟩); conv => whnf))
    refine ⟨by show t.length ≤ _; omega, ?_⟩
    ((conv => whnf); repeat ((first | refine ⟨_, rfl, ?_⟩ | refine ⟨Nat.le_of_ble_eq_true rfl, ?_⟩ | refine ⟨rfl, ?_⟩ | refine ⟨_, _, rfl, rfl, ?_⟩ | refine ⟨_, _, _, _, rfl, rfl, rfl, ?_⟩); conv => whnf))
    refine pick_of (fun h => ?_) (fun h => ?_)
    · have h := of_decide_eq_true h
      have h : (t.length : Int) ≤ (m : Int) := h
      rw [decide_eq_true (show t.length ≤ m by omega), Bool.true_and] at q
      ((conv => whnf); repeat ((first | refine ⟨_, rfl, ?_⟩ | refine ⟨Nat.le_of_ble_eq_true rfl, ?_⟩ | refine ⟨rfl, ?_⟩ | refine ⟨_, _, rfl, rfl, ?_⟩ | refine ⟨_, _, _, _, rfl, rfl, rfl, ?_⟩); conv => whnf))
      refine lc_fil t (fun c => .str (tx [c])) (fun c => .str (tx [c])) (fun c => !decide (c ∈ g)) rfl (by omega) (fun c hc R N hR hN => ?_) ?_
      · ((conv => whnf); repeat ((first | refine ⟨_, rfl, ?_⟩ | refine ⟨Nat.le_of_ble_eq_true rfl, ?_⟩ | refine ⟨rfl, ?_⟩ | refine ⟨_, _, rfl, rfl, ?_⟩ | refine ⟨_, _, _, _, rfl, rfl, rfl, ?_⟩); conv => whnf))
        have e : (true ^^ decide (c ∈ tl (tx g))) = !decide (c ∈ g) := by
          rw [Bool.true_xor]
          exact congrArg _ (decide_eq_decide.mpr (by rw [tl_tx]))
        rw [e]
        refine pick_of (fun h => ?_) (fun h => ?_)
        · exact hR h _ rfl
        · exact hN h _ rfl
      · ((conv => whnf); repeat ((first | refine ⟨_, rfl, ?_⟩ | refine ⟨Nat.le_of_ble_eq_true rfl, ?_⟩ | refine ⟨rfl, ?_⟩ | refine ⟨_, _, rfl, rfl, ?_⟩ | refine ⟨_, _, _, _, rfl, rfl, rfl, ?_⟩); conv => whnf))
        refine okB ?_ q
        rw [Bool.false_xor, Bool.eq_iff_iff, List.isEmpty_iff, List.map_eq_nil_iff, List.filter_eq_nil_iff, List.all_eq_true]
        exact forall₂_congr fun c _ => by simp
    · have h := of_decide_eq_false h
      have h : ¬ (t.length : Int) ≤ (m : Int) := h
      rw [decide_eq_false (show ¬ t.length ≤ m by omega)] at q
      ((conv => whnf); repeat ((first | refine ⟨_, rfl, ?_⟩ | refine ⟨Nat.le_of_ble_eq_true rfl, ?_⟩ | refine ⟨rfl, ?_⟩ | refine ⟨_, _, rfl, rfl, ?_⟩ | refine ⟨_, _, _, _, rfl, rfl, rfl, ?_⟩); conv => whnf))
      exact q
  | _ =>
    ((conv => whnf); repeat ((first | refine ⟨_, rfl, ?_⟩ | refine ⟨Nat.le_of_ble_eq_true rfl, ?_⟩ | refine ⟨rfl, ?_⟩ | refine ⟨_, _, rfl, rfl, ?_⟩ | refine ⟨_, _, _, _, rfl, rfl, rfl, ?_⟩); conv => whnf))
    exact q
end
end Kx

-- @zip2
-- @any
namespace Kx
open PySem PySem.Spec PyProof.Rows L2 Fo Px TL
section
variable {P : Program} {w : World} {K : PySem.W.Frag} {mg : Str → Option Value} {base : Heap}
theorem isSt_parts {m n : Nat} {g : Cs} {ws : List PyData} {e : PyData} : isSt m n g (.tuple [.tuple ws, e]) = (((decide (m ≤ ws.length) && decide (ws.length ≤ m)) && ws.all (isWy n g)) && isEnd g e) := rfl
def c_lrdr : Ct := fun as Q => ∃ (x : PyData), as = [.d x] ∧ Good x ∧ Q (.d (.bool (isRdr x))) [.un]
theorem x_lrdr (T : Top K mg) : FnOk P w K mg base CX0 3 T.f__law_is_reader T.fd__law_is_reader ["thing"] (spP c_lrdr) := by
  have G__law_are_signs := x_lsig (P := P) (w := w) (base := base) T
  have G__law_is_number := x_lnum (P := P) (w := w) (base := base) T
  have G__law_is_text := x_ltxt (P := P) (w := w) (base := base) T
  refine okP T.F__law_is_reader sc__law_is_reader [false] rfl (by decide) (fun as Q h => by obtain ⟨x, rfl, _⟩ := h; rfl) (fun cdv A outer s H E hr => ⟨_, (xs_cons (xs_if (PW.pt (xw_or (xt_not (xt_val (x_cb (sim_two sim_isi) (pe_callB (kIsi K rfl) (by rfl) T.m_isinstance (by decide +kernel) (xa_cons (x_var (pv 0)) (xa_cons (x_ty (pe_bltn (v := .ty "tuple") (by rfl) T.m_tuple (by decide +kernel) rfl)) xa_nil)))))) (xw_or (xt_cmp sim_ne (kNe K rfl hr.units) (x_cb (sim_one sim_len) (pe_callB (kLen K rfl) (by rfl) T.m_len PySem.boot_len (xa_cons (x_var (pv 0)) xa_nil))) (x_val pe_int (.int _)) (nomark _)) (xw_or (xt_not (xt_val (x_call .nil (pe_call G__law_are_signs (hr.mono (by first | decide | omega)) (by rfl) T.g__law_are_signs T.F__law_are_signs.kp T.b__law_are_signs .nil pass0 (xa_cons (x_ix (K := K) (pe_ix (kIx K rfl) (x_var (pv 0)) (x_val pe_int (.int _)) (fun _ _ => rfl))) xa_nil))))) (xw_or1 (xt_not (xt_val (x_call .nil (pe_call G__law_are_signs (hr.mono (by first | decide | omega)) (by rfl) T.g__law_are_signs T.F__law_are_signs.kp T.b__law_are_signs .nil pass0 (xa_cons (x_ix (K := K) (pe_ix (kIx K rfl) (x_var (pv 0)) (x_val pe_int (.int _)) (fun _ _ => rfl))) xa_nil)))))))))) (xs_one (xs_ret (ps_ret (x_val pe_bl (.bl _))))) xs_nil)
    (xs_cons (xs_asg (ps_asg (x_var (pv 0)) (xg_tup rfl (kTg K rfl (n := 3) rfl (xgs_cons (xg_name rfl (pg_name (i := 1) sc__law_is_reader.nd rfl (Or.inl rfl))) (xgs_cons (xg_name rfl (pg_name (i := 2) sc__law_is_reader.nd rfl (Or.inl rfl))) (xgs_cons (xg_name rfl (pg_name (i := 3) sc__law_is_reader.nd rfl (Or.inl rfl))) xgs_nil)))))))
    (xs_cons (xs_if (PW.pt (xw_or (xt_not (xt_val (x_cb (sim_two sim_isi) (pe_callB (kIsi K rfl) (by rfl) T.m_isinstance (by decide +kernel) (xa_cons (x_var (pv 3)) (xa_cons (x_ty (pe_bltn (v := .ty "tuple") (by rfl) T.m_tuple (by decide +kernel) rfl)) xa_nil)))))) (xw_or1 (xt_not (xt_chain sim_cmp sim_cmp (pt_chain op_leP op_leP (x_val pe_int (.int _)) (x_cb (sim_one sim_len) (pe_callB (kLen K rfl) (by rfl) T.m_len PySem.boot_len (xa_cons (x_var (pv 3)) xa_nil))) (x_val pe_int (.int _)))))))) (xs_one (xs_ret (ps_ret (x_val pe_bl (.bl _))))) xs_nil)
    (xs_cons (xs_for (ps_for PassesOwn.never rfl (xi_val K rfl (x_var (pv 3))) (xg_name rfl (pg_name (i := 4) sc__law_is_reader.nd rfl (Or.inl rfl))) (xs_cons (xs_if (PW.pt (xw_or (xt_not (xt_val (x_cb (sim_two sim_isi) (pe_callB (kIsi K rfl) (by rfl) T.m_isinstance (by decide +kernel) (xa_cons (x_var (pv 4)) (xa_cons (x_ty (pe_bltn (v := .ty "tuple") (by rfl) T.m_tuple (by decide +kernel) rfl)) xa_nil)))))) (xw_or (xt_cmp sim_ne (kNe K rfl hr.units) (x_cb (sim_one sim_len) (pe_callB (kLen K rfl) (by rfl) T.m_len PySem.boot_len (xa_cons (x_var (pv 4)) xa_nil))) (x_val pe_int (.int _)) (nomark _)) (xw_or1 (xt_not (xt_val (x_cb (sim_two sim_isi) (pe_callB (kIsi K rfl) (by rfl) T.m_isinstance (by decide +kernel) (xa_cons (x_ix (K := K) (pe_ix (kIx K rfl) (x_var (pv 4)) (x_val pe_int (.int _)) (fun _ _ => rfl))) (xa_cons (x_ty (pe_bltn (v := .ty "tuple") (by rfl) T.m_tuple (by decide +kernel) rfl)) xa_nil)))))))))) (xs_one (xs_ret (ps_ret (x_val pe_bl (.bl _))))) xs_nil)
    (xs_cons (xs_if (PW.pt (xw_or (xt_cmp sim_ne (kNe K rfl hr.units) (x_cb (sim_one sim_len) (pe_callB (kLen K rfl) (by rfl) T.m_len PySem.boot_len (xa_cons (x_ix (K := K) (pe_ix (kIx K rfl) (x_var (pv 4)) (x_val pe_int (.int _)) (fun _ _ => rfl))) xa_nil))) (x_cb (sim_one sim_len) (pe_callB (kLen K rfl) (by rfl) T.m_len PySem.boot_len (xa_cons (x_var (pv 1)) xa_nil))) (nomark _)) (xw_or1 (PW.pt (xw_and (xt_cmp sim_notN op_notN (x_ix (K := K) (pe_ix (kIx K rfl) (x_var (pv 4)) (x_val pe_int (.int _)) (fun _ _ => rfl))) (x_val pe_non .non) (nomark _)) (xw_and1 (xt_not (xt_val (x_call .nil (pe_call G__law_is_text (hr.mono (by first | decide | omega)) (by rfl) T.g__law_is_text T.F__law_is_text.kp T.b__law_is_text .nil pass0 (xa_cons (x_ix (K := K) (pe_ix (kIx K rfl) (x_var (pv 4)) (x_val pe_int (.int _)) (fun _ _ => rfl))) (xa_cons (x_var (pv 2)) (xa_cons (x_val pe_int (.int _)) xa_nil))))))))))))) (xs_one (xs_ret (ps_ret (x_val pe_bl (.bl _))))) xs_nil)
    (xs_one (xs_for (ps_for PassesOwn.never rfl (xi_val K rfl (x_ix (K := K) (pe_ix (kIx K rfl) (x_var (pv 4)) (x_val pe_int (.int _)) (fun _ _ => rfl)))) (xg_name rfl (pg_name (i := 5) sc__law_is_reader.nd rfl (Or.inl rfl))) (xs_cons (xs_if (PW.pt (xw_or (xt_not (xt_val (x_cb (sim_two sim_isi) (pe_callB (kIsi K rfl) (by rfl) T.m_isinstance (by decide +kernel) (xa_cons (x_var (pv 5)) (xa_cons (x_ty (pe_bltn (v := .ty "tuple") (by rfl) T.m_tuple (by decide +kernel) rfl)) xa_nil)))))) (xw_or1 (xt_cmp sim_ne (kNe K rfl hr.units) (x_cb (sim_one sim_len) (pe_callB (kLen K rfl) (by rfl) T.m_len PySem.boot_len (xa_cons (x_var (pv 5)) xa_nil))) (x_val pe_int (.int _)) (nomark _))))) (xs_one (xs_ret (ps_ret (x_val pe_bl (.bl _))))) xs_nil)
    (xs_one (xs_if (PW.pt (xw_or (xt_not (xt_val (x_call .nil (pe_call G__law_is_number (hr.mono (by first | decide | omega)) (by rfl) T.g__law_is_number T.F__law_is_number.kp T.b__law_is_number .nil pass0 (xa_cons (x_ix (K := K) (pe_ix (kIx K rfl) (x_var (pv 5)) (x_val pe_int (.int _)) (fun _ _ => rfl))) (xa_cons (x_cb (sim_one sim_len) (pe_callB (kLen K rfl) (by rfl) T.m_len PySem.boot_len (xa_cons (x_var (pv 3)) xa_nil))) xa_nil)))))) (xw_or1 (xt_not (xt_val (x_call .nil (pe_call G__law_is_text (hr.mono (by first | decide | omega)) (by rfl) T.g__law_is_text T.F__law_is_text.kp T.b__law_is_text .nil pass0 (xa_cons (x_ix (K := K) (pe_ix (kIx K rfl) (x_var (pv 5)) (x_val pe_int (.int _)) (fun _ _ => rfl))) (xa_cons (x_var (pv 2)) (xa_cons (x_val pe_int (.int _)) xa_nil)))))))))) (xs_one (xs_ret (ps_ret (x_val pe_bl (.bl _))))) xs_nil))))))))))
    (xs_one (xs_ret (ps_ret (x_val pe_bl (.bl _))))))))), fun as Qc hc => ?_⟩)
  obtain ⟨x, rfl, G, q⟩ := hc
  have cond : ∀ y, Good y → ∀ z, y = .str z → (tl z).length ≤ 16777216 ∧ ∀ c ∈ tl z, c < 1114112 := fun y Gy z e => by
    subst e
    have := Gy.txt
    exact ⟨by omega, this.2⟩
  cases x with
  | tuple ds =>
    by_cases h3 : ds.length = 3
    · obtain ⟨a, b, c, rfl⟩ : ∃ a b c, ds = [a, b, c] := by
        match ds, h3 with
        | [a, b, c], _ => exact ⟨a, b, c, rfl⟩
      obtain ⟨Ga, Gb, Gc⟩ := G.three
      have no : isSig a = false ∨ isSig b = false ∨ isTup 1 6 c = false → isRdr (.tuple [a, b, c]) = false := fun o => by
        cases c with
        | tuple ss =>
          show ((isSig a && isSig b) && ((decide (1 ≤ ss.length) && decide (ss.length ≤ 6)) && _)) = false
          rcases o with h | h | h
          · rw [h, Bool.false_and, Bool.false_and]
          · rw [h, Bool.and_false, Bool.false_and]
          · have h : (decide (1 ≤ ss.length) && decide (ss.length ≤ 6)) = false := h
            rw [h, Bool.false_and, Bool.and_false]
        | _ => rfl
      ((conv => whnf); repeat ((first | refine ⟨_, rfl, ?_⟩ | refine ⟨Nat.le_of_ble_eq_true rfl, ?_⟩ | refine ⟨rfl, ?_⟩ | refine ⟨_, _, rfl, rfl, ?_⟩ | refine ⟨_, _, _, _, rfl, rfl, rfl, ?_⟩); conv => whnf))
      refine ⟨cond a Ga, ?_⟩
      ((conv => whnf); repeat ((first | refine ⟨_, rfl, ?_⟩ | refine ⟨Nat.le_of_ble_eq_true rfl, ?_⟩ | refine ⟨rfl, ?_⟩ | refine ⟨_, _, rfl, rfl, ?_⟩ | refine ⟨_, _, _, _, rfl, rfl, rfl, ?_⟩); conv => whnf))
      cases h2 : isSig a with
      | false =>
        rw [no (.inl h2)] at q
        ((conv => whnf); repeat ((first | refine ⟨_, rfl, ?_⟩ | refine ⟨Nat.le_of_ble_eq_true rfl, ?_⟩ | refine ⟨rfl, ?_⟩ | refine ⟨_, _, rfl, rfl, ?_⟩ | refine ⟨_, _, _, _, rfl, rfl, rfl, ?_⟩); conv => whnf))
        exact q
      | true =>
        ((conv => whnf); repeat ((first | refine ⟨_, rfl, ?_⟩ | refine ⟨Nat.le_of_ble_eq_true rfl, ?_⟩ | refine ⟨rfl, ?_⟩ | refine ⟨_, _, rfl, rfl, ?_⟩ | refine ⟨_, _, _, _, rfl, rfl, rfl, ?_⟩); conv => whnf))
        refine ⟨cond b Gb, ?_⟩
        ((conv => whnf); repeat ((first | refine ⟨_, rfl, ?_⟩ | refine ⟨Nat.le_of_ble_eq_true rfl, ?_⟩ | refine ⟨rfl, ?_⟩ | refine ⟨_, _, rfl, rfl, ?_⟩ | refine ⟨_, _, _, _, rfl, rfl, rfl, ?_⟩); conv => whnf))
        cases h4 : isSig b with
        | false =>
          rw [no (.inr (.inl h4))] at q
          ((conv => whnf); repeat ((first | refine ⟨_, rfl, ?_⟩ | refine ⟨Nat.le_of_ble_eq_true rfl, ?_⟩ | refine ⟨rfl, ?_⟩ | refine ⟨_, _, rfl, rfl, ?_⟩ | refine ⟨_, _, _, _, rfl, rfl, rfl, ?_⟩); conv => whnf))
          exact q
        | true =>
          cases c with
          | tuple ss =>
            ((conv => whnf); repeat ((first | refine ⟨_, rfl, ?_⟩ | refine ⟨Nat.le_of_ble_eq_true rfl, ?_⟩ | refine ⟨rfl, ?_⟩ | refine ⟨_, _, rfl, rfl, ?_⟩ | refine ⟨_, _, _, _, rfl, rfl, rfl, ?_⟩); conv => whnf))
            by_cases l1 : 1 ≤ ss.length
            · refine pickT (yesD (show (1 : Int) ≤ (ss.length : Int) by omega)) ?_
              ((conv => whnf); repeat ((first | refine ⟨_, rfl, ?_⟩ | refine ⟨Nat.le_of_ble_eq_true rfl, ?_⟩ | refine ⟨rfl, ?_⟩ | refine ⟨_, _, rfl, rfl, ?_⟩ | refine ⟨_, _, _, _, rfl, rfl, rfl, ?_⟩); conv => whnf))
              by_cases l6 : ss.length ≤ 6
              · refine pickF (nYes (yesD (show (ss.length : Int) ≤ 6 by omega))) ?_
                ((conv => whnf); repeat ((first | refine ⟨_, rfl, ?_⟩ | refine ⟨Nat.le_of_ble_eq_true rfl, ?_⟩ | refine ⟨rfl, ?_⟩ | refine ⟨_, _, rfl, rfl, ?_⟩ | refine ⟨_, _, _, _, rfl, rfl, rfl, ?_⟩); conv => whnf))
                have q : Qc (.d (.bool ((isSig a && isSig b) && ((decide (1 ≤ ss.length) && decide (ss.length ≤ 6)) && ss.all (isSt (txS a).length ss.length (txS b)))))) _ := q
                rw [h2, h4, decide_eq_true l1, decide_eq_true l6] at q
                obtain ⟨ga, rfl, sga⟩ := isSig_str h2
                obtain ⟨gb, rfl, sgb⟩ := isSig_str h4
                have q : Qc (.d (.bool (ss.all (isSt (tl (tx ga)).length ss.length (tl (tx gb)))))) _ := q
                rw [tl_tx, tl_tx] at q
                have f8 := sig_few sga
                have bad : ∀ y ∈ ss, isSt ga.length ss.length gb y = false → Qc (.d (.bool false)) [.un] := fun y hy e => by
                  have : ss.all (isSt ga.length ss.length gb) = false := by
                    cases h : ss.all (isSt ga.length ss.length gb) with
                    | false => rfl
                    | true => exact absurd (List.all_eq_true.mp h y hy) (by rw [e]; exact Bool.false_ne_true)
                  rw [this] at q
                  exact q
                refine ForR.mk (fun k S => ∃ y4 y5, S = [.d (.tuple [dT ga, dT gb, .tuple ss]), .d (dT ga), .d (dT gb), .d (.tuple ss), y4, y5] ∧ (ss.take k).all (isSt ga.length ss.length gb) = true) ⟨_, _, rfl, rfl⟩ (fun k y S e j => ?_) (fun S j => ?_)
                · obtain ⟨y4, y5, rfl, al⟩ := j
                  have ym := List.mem_of_getElem? e
                  have Gy := Gc.sub ym
                  cases y with
                  | tuple ds =>
                    by_cases h2 : ds.length = 2
                    · obtain ⟨c, d, rfl⟩ : ∃ c d, ds = [c, d] := by
                        match ds, h2 with
                        | [c, d], _ => exact ⟨c, d, rfl⟩
                      obtain ⟨Gw, Gd⟩ := Gy.two
                      cases c with
                      | tuple ws =>
                        ((conv => whnf); repeat ((first | refine ⟨_, rfl, ?_⟩ | refine ⟨Nat.le_of_ble_eq_true rfl, ?_⟩ | refine ⟨rfl, ?_⟩ | refine ⟨_, _, rfl, rfl, ?_⟩ | refine ⟨_, _, _, _, rfl, rfl, rfl, ?_⟩); conv => whnf))
                        refine ⟨by show ga.length ≤ _; omega, ?_⟩
                        ((conv => whnf); repeat ((first | refine ⟨_, rfl, ?_⟩ | refine ⟨Nat.le_of_ble_eq_true rfl, ?_⟩ | refine ⟨rfl, ?_⟩ | refine ⟨_, _, rfl, rfl, ?_⟩ | refine ⟨_, _, _, _, rfl, rfl, rfl, ?_⟩); conv => whnf))
                        have et : (tl (tx ga)).length = ga.length := by rw [tl_tx]
                        by_cases hl : ws.length = ga.length
                        · refine pickF (neD (show (ws.length : Int) = ((tl (tx ga)).length : Int) by rw [et, hl])) ?_
                          have el0 : isSt ga.length ss.length gb (.tuple [.tuple ws, d]) = (ws.all (isWy ss.length gb) && isEnd gb d) := by
                            rw [isSt_parts, decide_eq_true (show ga.length ≤ ws.length by omega), decide_eq_true (show ws.length ≤ ga.length by omega), Bool.true_and, Bool.true_and]
                          ((conv => whnf); repeat ((first | refine ⟨_, rfl, ?_⟩ | refine ⟨Nat.le_of_ble_eq_true rfl, ?_⟩ | refine ⟨rfl, ?_⟩ | refine ⟨_, _, rfl, rfl, ?_⟩ | refine ⟨_, _, _, _, rfl, rfl, rfl, ?_⟩); conv => whnf))
                          cases d with
                          | none =>
                            have el : isSt ga.length ss.length gb (.tuple [.tuple ws, .none]) = (ws.all (isWy ss.length gb) && isEnd gb .none) := el0
                            have ed : isEnd gb .none = true := rfl
                            refine ⟨true, rfl, ?_⟩
                            ((conv => whnf); repeat ((first | refine ⟨_, rfl, ?_⟩ | refine ⟨Nat.le_of_ble_eq_true rfl, ?_⟩ | refine ⟨rfl, ?_⟩ | refine ⟨_, _, rfl, rfl, ?_⟩ | refine ⟨_, _, _, _, rfl, rfl, rfl, ?_⟩); conv => whnf))
                            refine ForR.mk (fun j S => ∃ y5, S = [.d (.tuple [dT ga, dT gb, .tuple ss]), .d (dT ga), .d (dT gb), .d (.tuple ss), .d (.tuple [.tuple ws, .none]), y5] ∧ (ws.take j).all (isWy ss.length gb) = true) ⟨_, rfl, rfl⟩ (fun j v S e2 jj => ?_) (fun S jj => ?_)
                            · obtain ⟨y5, rfl, al2⟩ := jj
                              have vm := List.mem_of_getElem? e2
                              have Gv := Gw.sub vm
                              have bad2 : isWy ss.length gb v = false → Qc (.d (.bool false)) [.un] := fun ev => bad _ ym (by
                                have : ws.all (isWy ss.length gb) = false := by
                                  cases h : ws.all (isWy ss.length gb) with
                                  | false => rfl
                                  | true => exact absurd (List.all_eq_true.mp h v vm) (by rw [ev]; exact Bool.false_ne_true)
                                rw [el, this, Bool.false_and])
                              cases v with
                              | tuple ds =>
                                by_cases hv : ds.length = 2
                                · obtain ⟨p, r, rfl⟩ : ∃ p r, ds = [p, r] := by
                                    match ds, hv with
                                    | [p, r], _ => exact ⟨p, r, rfl⟩
                                  have ew : isWy ss.length gb (.tuple [p, r]) = (isNum (ss.length : Int) p && isTxt gb 3 r) := rfl
                                  ((conv => whnf); repeat ((first | refine ⟨_, rfl, ?_⟩ | refine ⟨Nat.le_of_ble_eq_true rfl, ?_⟩ | refine ⟨rfl, ?_⟩ | refine ⟨_, _, rfl, rfl, ?_⟩ | refine ⟨_, _, _, _, rfl, rfl, rfl, ?_⟩); conv => whnf))
                                  refine ⟨p, ss.length, rfl, ?_⟩
                                  ((conv => whnf); repeat ((first | refine ⟨_, rfl, ?_⟩ | refine ⟨Nat.le_of_ble_eq_true rfl, ?_⟩ | refine ⟨rfl, ?_⟩ | refine ⟨_, _, rfl, rfl, ?_⟩ | refine ⟨_, _, _, _, rfl, rfl, rfl, ?_⟩); conv => whnf))
                                  cases hp : isNum (ss.length : Int) p with
                                  | false =>
                                    ((conv => whnf); repeat ((first | refine ⟨_, rfl, ?_⟩ | refine ⟨Nat.le_of_ble_eq_true rfl, ?_⟩ | refine ⟨rfl, ?_⟩ | refine ⟨_, _, rfl, rfl, ?_⟩ | refine ⟨_, _, _, _, rfl, rfl, rfl, ?_⟩); conv => whnf))
                                    exact bad2 (by rw [ew, hp, Bool.false_and])
                                  | true =>
                                    ((conv => whnf); repeat ((first | refine ⟨_, rfl, ?_⟩ | refine ⟨Nat.le_of_ble_eq_true rfl, ?_⟩ | refine ⟨rfl, ?_⟩ | refine ⟨_, _, rfl, rfl, ?_⟩ | refine ⟨_, _, _, _, rfl, rfl, rfl, ?_⟩); conv => whnf))
                                    refine ⟨r, gb, 3, rfl, Gv.two.2, ?_⟩
                                    ((conv => whnf); repeat ((first | refine ⟨_, rfl, ?_⟩ | refine ⟨Nat.le_of_ble_eq_true rfl, ?_⟩ | refine ⟨rfl, ?_⟩ | refine ⟨_, _, rfl, rfl, ?_⟩ | refine ⟨_, _, _, _, rfl, rfl, rfl, ?_⟩); conv => whnf))
                                    cases hr3 : isTxt gb 3 r with
                                    | false =>
                                      ((conv => whnf); repeat ((first | refine ⟨_, rfl, ?_⟩ | refine ⟨Nat.le_of_ble_eq_true rfl, ?_⟩ | refine ⟨rfl, ?_⟩ | refine ⟨_, _, rfl, rfl, ?_⟩ | refine ⟨_, _, _, _, rfl, rfl, rfl, ?_⟩); conv => whnf))
                                      exact bad2 (by rw [ew, hr3, Bool.and_false])
                                    | true =>
                                      ((conv => whnf); repeat ((first | refine ⟨_, rfl, ?_⟩ | refine ⟨Nat.le_of_ble_eq_true rfl, ?_⟩ | refine ⟨rfl, ?_⟩ | refine ⟨_, _, rfl, rfl, ?_⟩ | refine ⟨_, _, _, _, rfl, rfl, rfl, ?_⟩); conv => whnf))
                                      rw [take_snoc e2, List.all_append, al2]
                                      show (true && (isWy ss.length gb (.tuple [p, r]) && true)) = true
                                      rw [ew, hp, hr3]
                                      rfl
                                · ((conv => whnf); repeat ((first | refine ⟨_, rfl, ?_⟩ | refine ⟨Nat.le_of_ble_eq_true rfl, ?_⟩ | refine ⟨rfl, ?_⟩ | refine ⟨_, _, rfl, rfl, ?_⟩ | refine ⟨_, _, _, _, rfl, rfl, rfl, ?_⟩); conv => whnf))
                                  refine pickT (notD (show ¬ ((ds.length : Nat) : Int) = 2 by omega)) ?_
                                  ((conv => whnf); repeat ((first | refine ⟨_, rfl, ?_⟩ | refine ⟨Nat.le_of_ble_eq_true rfl, ?_⟩ | refine ⟨rfl, ?_⟩ | refine ⟨_, _, rfl, rfl, ?_⟩ | refine ⟨_, _, _, _, rfl, rfl, rfl, ?_⟩); conv => whnf))
                                  refine bad2 ?_
                                  match ds, hv with
                                  | [], _ => rfl
                                  | [a], _ => rfl
                                  | a :: b :: c :: r, _ => rfl
                                  | [a, b], h => exact absurd rfl h
                              | _ =>
                                ((conv => whnf); repeat ((first | refine ⟨_, rfl, ?_⟩ | refine ⟨Nat.le_of_ble_eq_true rfl, ?_⟩ | refine ⟨rfl, ?_⟩ | refine ⟨_, _, rfl, rfl, ?_⟩ | refine ⟨_, _, _, _, rfl, rfl, rfl, ?_⟩); conv => whnf))
                                exact bad2 rfl
                            · obtain ⟨y5, rfl, al2⟩ := jj
                              rw [List.take_length] at al2
                              refine ⟨_, _, rfl, ?_⟩
                              rw [take_snoc e, List.all_append, al]
                              show (true && (isSt ga.length ss.length gb (.tuple [.tuple ws, .none]) && true)) = true
                              rw [el, al2, ed]
                              rfl
                          | str z =>
                            have el : isSt ga.length ss.length gb (.tuple [.tuple ws, .str z]) = (ws.all (isWy ss.length gb) && isEnd gb (.str z)) := el0
                            refine ⟨false, rfl, ?_⟩
                            ((conv => whnf); repeat ((first | refine ⟨_, rfl, ?_⟩ | refine ⟨Nat.le_of_ble_eq_true rfl, ?_⟩ | refine ⟨rfl, ?_⟩ | refine ⟨_, _, rfl, rfl, ?_⟩ | refine ⟨_, _, _, _, rfl, rfl, rfl, ?_⟩); conv => whnf))
                            refine ⟨_, gb, 3, rfl, Gd, ?_⟩
                            ((conv => whnf); repeat ((first | refine ⟨_, rfl, ?_⟩ | refine ⟨Nat.le_of_ble_eq_true rfl, ?_⟩ | refine ⟨rfl, ?_⟩ | refine ⟨_, _, rfl, rfl, ?_⟩ | refine ⟨_, _, _, _, rfl, rfl, rfl, ?_⟩); conv => whnf))
                            cases hd : isTxt gb 3 (.str z) with
                            | false =>
                              ((conv => whnf); repeat ((first | refine ⟨_, rfl, ?_⟩ | refine ⟨Nat.le_of_ble_eq_true rfl, ?_⟩ | refine ⟨rfl, ?_⟩ | refine ⟨_, _, rfl, rfl, ?_⟩ | refine ⟨_, _, _, _, rfl, rfl, rfl, ?_⟩); conv => whnf))
                              exact bad _ ym (by rw [el, show isEnd gb (.str z) = isTxt gb 3 (.str z) from rfl, hd, Bool.and_false])
                            | true =>
                              have ed : isEnd gb (.str z) = true := hd
                              ((conv => whnf); repeat ((first | refine ⟨_, rfl, ?_⟩ | refine ⟨Nat.le_of_ble_eq_true rfl, ?_⟩ | refine ⟨rfl, ?_⟩ | refine ⟨_, _, rfl, rfl, ?_⟩ | refine ⟨_, _, _, _, rfl, rfl, rfl, ?_⟩); conv => whnf))
                              refine ForR.mk (fun j S => ∃ y5, S = [.d (.tuple [dT ga, dT gb, .tuple ss]), .d (dT ga), .d (dT gb), .d (.tuple ss), .d (.tuple [.tuple ws, .str z]), y5] ∧ (ws.take j).all (isWy ss.length gb) = true) ⟨_, rfl, rfl⟩ (fun j v S e2 jj => ?_) (fun S jj => ?_)
                              · obtain ⟨y5, rfl, al2⟩ := jj
                                have vm := List.mem_of_getElem? e2
                                have Gv := Gw.sub vm
                                have bad2 : isWy ss.length gb v = false → Qc (.d (.bool false)) [.un] := fun ev => bad _ ym (by
                                  have : ws.all (isWy ss.length gb) = false := by
                                    cases h : ws.all (isWy ss.length gb) with
                                    | false => rfl
                                    | true => exact absurd (List.all_eq_true.mp h v vm) (by rw [ev]; exact Bool.false_ne_true)
                                  rw [el, this, Bool.false_and])
                                cases v with
                                | tuple ds =>
                                  by_cases hv : ds.length = 2
                                  · obtain ⟨p, r, rfl⟩ : ∃ p r, ds = [p, r] := by
                                      match ds, hv with
                                      | [p, r], _ => exact ⟨p, r, rfl⟩
                                    have ew : isWy ss.length gb (.tuple [p, r]) = (isNum (ss.length : Int) p && isTxt gb 3 r) := rfl
                                    ((conv => whnf); repeat ((first | refine ⟨_, rfl, ?_⟩ | refine ⟨Nat.le_of_ble_eq_true rfl, ?_⟩ | refine ⟨rfl, ?_⟩ | refine ⟨_, _, rfl, rfl, ?_⟩ | refine ⟨_, _, _, _, rfl, rfl, rfl, ?_⟩); conv => whnf))
                                    refine ⟨p, ss.length, rfl, ?_⟩
                                    ((conv => whnf); repeat ((first | refine ⟨_, rfl, ?_⟩ | refine ⟨Nat.le_of_ble_eq_true rfl, ?_⟩ | refine ⟨rfl, ?_⟩ | refine ⟨_, _, rfl, rfl, ?_⟩ | refine ⟨_, _, _, _, rfl, rfl, rfl, ?_⟩); conv => whnf))
                                    cases hp : isNum (ss.length : Int) p with
                                    | false =>
                                      ((conv => whnf); repeat ((first | refine ⟨_, rfl, ?_⟩ | refine ⟨Nat.le_of_ble_eq_true rfl, ?_⟩ | refine ⟨rfl, ?_⟩ | refine ⟨_, _, rfl, rfl, ?_⟩ | refine ⟨_, _, _, _, rfl, rfl, rfl, ?_⟩); conv => whnf))
                                      exact bad2 (by rw [ew, hp, Bool.false_and])
                                    | true =>
                                      ((conv => whnf); repeat ((first | refine ⟨_, rfl, ?_⟩ | refine ⟨Nat.le_of_ble_eq_true rfl, ?_⟩ | refine ⟨rfl, ?_⟩ | refine ⟨_, _, rfl, rfl, ?_⟩ | refine ⟨_, _, _, _, rfl, rfl, rfl, ?_⟩); conv => whnf))
                                      refine ⟨r, gb, 3, rfl, Gv.two.2, ?_⟩
                                      ((conv => whnf); repeat ((first | refine ⟨_, rfl, ?_⟩ | refine ⟨Nat.le_of_ble_eq_true rfl, ?_⟩ | refine ⟨rfl, ?_⟩ | refine ⟨_, _, rfl, rfl, ?_⟩ | refine ⟨_, _, _, _, rfl, rfl, rfl, ?_⟩); conv => whnf))
                                      cases hr3 : isTxt gb 3 r with
                                      | false =>
                                        ((conv => whnf); repeat ((first | refine ⟨_, rfl, ?_⟩ | refine ⟨Nat.le_of_ble_eq_true rfl, ?_⟩ | refine ⟨rfl, ?_⟩ | refine ⟨_, _, rfl, rfl, ?_⟩ | refine ⟨_, _, _, _, rfl, rfl, rfl, ?_⟩); conv => whnf))
                                        exact bad2 (by rw [ew, hr3, Bool.and_false])
                                      | true =>
                                        ((conv => whnf); repeat ((first | refine ⟨_, rfl, ?_⟩ | refine ⟨Nat.le_of_ble_eq_true rfl, ?_⟩ | refine ⟨rfl, ?_⟩ | refine ⟨_, _, rfl, rfl, ?_⟩ | refine ⟨_, _, _, _, rfl, rfl, rfl, ?_⟩); conv => whnf))
                                        rw [take_snoc e2, List.all_append, al2]
                                        show (true && (isWy ss.length gb (.tuple [p, r]) && true)) = true
                                        rw [ew, hp, hr3]
                                        rfl
                                  · ((conv => whnf); repeat ((first | refine ⟨_, rfl, ?_⟩ | refine ⟨Nat.le_of_ble_eq_true rfl, ?_⟩ | refine ⟨rfl, ?_⟩ | refine ⟨_, _, rfl, rfl, ?_⟩ | refine ⟨_, _, _, _, rfl, rfl, rfl, ?_⟩); conv => whnf))
                                    refine pickT (notD (show ¬ ((ds.length : Nat) : Int) = 2 by omega)) ?_
                                    ((conv => whnf); repeat ((first | refine ⟨_, rfl, ?_⟩ | refine ⟨Nat.le_of_ble_eq_true rfl, ?_⟩ | refine ⟨rfl, ?_⟩ | refine ⟨_, _, rfl, rfl, ?_⟩ | refine ⟨_, _, _, _, rfl, rfl, rfl, ?_⟩); conv => whnf))
                                    refine bad2 ?_
                                    match ds, hv with
                                    | [], _ => rfl
                                    | [a], _ => rfl
                                    | a :: b :: c :: r, _ => rfl
                                    | [a, b], h => exact absurd rfl h
                                | _ =>
                                  ((conv => whnf); repeat ((first | refine ⟨_, rfl, ?_⟩ | refine ⟨Nat.le_of_ble_eq_true rfl, ?_⟩ | refine ⟨rfl, ?_⟩ | refine ⟨_, _, rfl, rfl, ?_⟩ | refine ⟨_, _, _, _, rfl, rfl, rfl, ?_⟩); conv => whnf))
                                  exact bad2 rfl
                              · obtain ⟨y5, rfl, al2⟩ := jj
                                rw [List.take_length] at al2
                                refine ⟨_, _, rfl, ?_⟩
                                rw [take_snoc e, List.all_append, al]
                                show (true && (isSt ga.length ss.length gb (.tuple [.tuple ws, .str z]) && true)) = true
                                rw [el, al2, ed]
                                rfl
                          | _ =>
                            refine ⟨false, rfl, ?_⟩
                            ((conv => whnf); repeat ((first | refine ⟨_, rfl, ?_⟩ | refine ⟨Nat.le_of_ble_eq_true rfl, ?_⟩ | refine ⟨rfl, ?_⟩ | refine ⟨_, _, rfl, rfl, ?_⟩ | refine ⟨_, _, _, _, rfl, rfl, rfl, ?_⟩); conv => whnf))
                            refine ⟨_, gb, 3, rfl, Gd, ?_⟩
                            ((conv => whnf); repeat ((first | refine ⟨_, rfl, ?_⟩ | refine ⟨Nat.le_of_ble_eq_true rfl, ?_⟩ | refine ⟨rfl, ?_⟩ | refine ⟨_, _, rfl, rfl, ?_⟩ | refine ⟨_, _, _, _, rfl, rfl, rfl, ?_⟩); conv => whnf))
                            exact bad _ ym (by rw [el0]; exact Bool.and_false _)
                        · refine pickT (notD (show ¬ (ws.length : Int) = ((tl (tx ga)).length : Int) by rw [et]; omega)) ?_
                          ((conv => whnf); repeat ((first | refine ⟨_, rfl, ?_⟩ | refine ⟨Nat.le_of_ble_eq_true rfl, ?_⟩ | refine ⟨rfl, ?_⟩ | refine ⟨_, _, rfl, rfl, ?_⟩ | refine ⟨_, _, _, _, rfl, rfl, rfl, ?_⟩); conv => whnf))
                          refine bad _ ym ?_
                          rw [isSt_parts]
                          by_cases h3 : ga.length ≤ ws.length
                          · rw [decide_eq_false (show ¬ ws.length ≤ ga.length by omega), Bool.and_false, Bool.false_and, Bool.false_and]
                          · rw [decide_eq_false h3, Bool.false_and, Bool.false_and, Bool.false_and]
                      | _ =>
                        ((conv => whnf); repeat ((first | refine ⟨_, rfl, ?_⟩ | refine ⟨Nat.le_of_ble_eq_true rfl, ?_⟩ | refine ⟨rfl, ?_⟩ | refine ⟨_, _, rfl, rfl, ?_⟩ | refine ⟨_, _, _, _, rfl, rfl, rfl, ?_⟩); conv => whnf))
                        exact bad _ ym rfl
                    · ((conv => whnf); repeat ((first | refine ⟨_, rfl, ?_⟩ | refine ⟨Nat.le_of_ble_eq_true rfl, ?_⟩ | refine ⟨rfl, ?_⟩ | refine ⟨_, _, rfl, rfl, ?_⟩ | refine ⟨_, _, _, _, rfl, rfl, rfl, ?_⟩); conv => whnf))
                      refine pickT (notD (show ¬ ((ds.length : Nat) : Int) = 2 by omega)) ?_
                      ((conv => whnf); repeat ((first | refine ⟨_, rfl, ?_⟩ | refine ⟨Nat.le_of_ble_eq_true rfl, ?_⟩ | refine ⟨rfl, ?_⟩ | refine ⟨_, _, rfl, rfl, ?_⟩ | refine ⟨_, _, _, _, rfl, rfl, rfl, ?_⟩); conv => whnf))
                      refine bad _ ym ?_
                      match ds, h2 with
                      | [], _ => rfl
                      | [a], _ => cases a <;> rfl
                      | a :: b :: c :: r, _ => cases a <;> rfl
                      | [a, b], h => exact absurd rfl h
                  | _ =>
                    ((conv => whnf); repeat ((first | refine ⟨_, rfl, ?_⟩ | refine ⟨Nat.le_of_ble_eq_true rfl, ?_⟩ | refine ⟨rfl, ?_⟩ | refine ⟨_, _, rfl, rfl, ?_⟩ | refine ⟨_, _, _, _, rfl, rfl, rfl, ?_⟩); conv => whnf))
                    exact bad _ ym rfl
                · obtain ⟨y4, y5, rfl, al⟩ := j
                  rw [List.take_length] at al
                  rw [al] at q
                  ((conv => whnf); repeat ((first | refine ⟨_, rfl, ?_⟩ | refine ⟨Nat.le_of_ble_eq_true rfl, ?_⟩ | refine ⟨rfl, ?_⟩ | refine ⟨_, _, rfl, rfl, ?_⟩ | refine ⟨_, _, _, _, rfl, rfl, rfl, ?_⟩); conv => whnf))
                  exact q
              · refine pickT (nNo (noD (show ¬ (ss.length : Int) ≤ 6 by omega))) ?_
                ((conv => whnf); repeat ((first | refine ⟨_, rfl, ?_⟩ | refine ⟨Nat.le_of_ble_eq_true rfl, ?_⟩ | refine ⟨rfl, ?_⟩ | refine ⟨_, _, rfl, rfl, ?_⟩ | refine ⟨_, _, _, _, rfl, rfl, rfl, ?_⟩); conv => whnf))
                rw [no (.inr (.inr (by show (decide (1 ≤ ss.length) && decide (ss.length ≤ 6)) = false; rw [decide_eq_false l6, Bool.and_false])))] at q
                exact q
            · refine pickF (noD (show ¬ (1 : Int) ≤ (ss.length : Int) by omega)) ?_
              ((conv => whnf); repeat ((first | refine ⟨_, rfl, ?_⟩ | refine ⟨Nat.le_of_ble_eq_true rfl, ?_⟩ | refine ⟨rfl, ?_⟩ | refine ⟨_, _, rfl, rfl, ?_⟩ | refine ⟨_, _, _, _, rfl, rfl, rfl, ?_⟩); conv => whnf))
              rw [no (.inr (.inr (by show (decide (1 ≤ ss.length) && decide (ss.length ≤ 6)) = false; rw [decide_eq_false l1, Bool.false_and])))] at q
              exact q
          | _ =>
            ((conv => whnf); repeat ((first | refine ⟨_, rfl, ?_⟩ | refine ⟨Nat.le_of_ble_eq_true rfl, ?_⟩ | refine ⟨rfl, ?_⟩ | refine ⟨_, _, rfl, rfl, ?_⟩ | refine ⟨_, _, _, _, rfl, rfl, rfl, ?_⟩); conv => whnf))
            exact q
    · ((conv => whnf); repeat ((first | refine ⟨_, rfl, ?_⟩ | refine ⟨Nat.le_of_ble_eq_true rfl, ?_⟩ | refine ⟨rfl, ?_⟩ | refine ⟨_, _, rfl, rfl, ?_⟩ | refine ⟨_, _, _, _, rfl, rfl, rfl, ?_⟩); conv => whnf))
      refine pickT (notD (show ¬ ((ds.length : Nat) : Int) = 3 by omega)) ?_
      ((conv => whnf); repeat ((first | refine ⟨_, rfl, ?_⟩ | refine ⟨Nat.le_of_ble_eq_true rfl, ?_⟩ | refine ⟨rfl, ?_⟩ | refine ⟨_, _, rfl, rfl, ?_⟩ | refine ⟨_, _, _, _, rfl, rfl, rfl, ?_⟩); conv => whnf))
      have e : isRdr (.tuple ds) = false := by
        match ds, h3 with
        | [], _ => rfl
        | [a], _ => rfl
        | [a, b], _ => rfl
        | a :: b :: c :: d :: r, _ => cases c <;> rfl
        | [a, b, c], h => exact absurd rfl h
      rw [e] at q
      exact q
  | _ =>
    ((conv => whnf); repeat ((first | refine ⟨_, rfl, ?_⟩ | refine ⟨Nat.le_of_ble_eq_true rfl, ?_⟩ | refine ⟨rfl, ?_⟩ | refine ⟨_, _, rfl, rfl, ?_⟩ | refine ⟨_, _, _, _, rfl, rfl, rfl, ?_⟩); conv => whnf))
    exact q
end
end Kx

-- @zip2
-- @any
-- @mask _law_odd 10
namespace Kx
open PySem PySem.Spec PyProof.Rows L2 Fo Px TL
section
variable {P : Program} {w : World} {K : PySem.W.Frag} {mg : Str → Option Value} {base : Heap}
def c_odd : Ct := fun as Q => ∃ (n j k M : Nat) (x : PyData), as = [pen n, .d x] ∧ Any j k M x ∧ 3 ≤ n ∧ j ≤ 50 ∧ k ≤ 50 ∧ M ≤ 100000 ∧ ∀ (y : PyData) (n' : Nat), Any (j + 1) (k + 1) (3 * M + 30) y → n ≤ n' + 3 → Q (.d y) [pen n', .un]
theorem at12 {L : List PyData} {m : Nat} (h : m < L.length) : ∃ z, atI L (m : Int) = some z ∧ z ∈ L := ⟨L[m], atI_nat (List.getElem?_eq_getElem h), List.getElem_mem h⟩
theorem an {α : Type} {Pr : α → Prop} : ∀ z ∈ ([] : List α), Pr z := fun _ m => nomatch m
theorem ac {α : Type} {Pr : α → Prop} {a : α} {l : List α} (h : Pr a) (t : ∀ z ∈ l, Pr z) : ∀ z ∈ a :: l, Pr z := fun z m => by
  rcases List.mem_cons.mp m with rfl | m
  · exact h
  · exact t z m
theorem cut_len {α : Type} (xs : List α) (lo hi : Option Int) : (Px.cutD xs lo hi).length ≤ xs.length := by
  unfold Px.cutD
  rw [List.length_take, List.length_drop]
  omega
theorem cut_mem {α : Type} {xs : List α} {lo hi : Option Int} {x : α} (m : x ∈ Px.cutD xs lo hi) : x ∈ xs := List.mem_of_mem_drop (List.mem_of_mem_take m)
theorem AnyA_cut {j k M : Nat} {ds : List PyData} (h : AnyA j k M ds) (lo hi : Option Int) : AnyA j k M (Px.cutD ds lo hi) := (h.drop _).take _
theorem x_odd (T : Top K mg) : FnOk P w K mg base CX0 3 T.f__law_odd T.fd__law_odd ["pen", "thing"] (spP c_odd) := by
  have G__law_take := x_take (P := P) (w := w) (base := base) T
  refine okP T.F__law_odd sc__law_odd [true, false] rfl (by decide) (fun as Q h => by obtain ⟨n, j, k, M, x, rfl, _⟩ := h; rfl) (fun cdv A outer s H E hr => ⟨_, (xs_cons (xs_set rfl (ps_set (i := 2) sc__law_odd.nd rfl (Or.inl rfl) (x_call .nil (pe_call G__law_take (hr.mono (by first | decide | omega)) (by rfl) T.g__law_take T.F__law_take.kp T.b__law_take .nil pass0 (xa_cons (x_var (pv 0)) (xa_cons (x_val pe_int (.int _)) xa_nil))))))
    (xs_cons (xs_if (xt_val (x_cb (sim_two sim_isi) (pe_callB (kIsi K rfl) (by rfl) T.m_isinstance (by decide +kernel) (xa_cons (x_var (pv 1)) (xa_cons (x_ty (pe_bltn (v := .ty "tuple") (by rfl) T.m_tuple (by decide +kernel) rfl)) xa_nil))))) (xs_cons (xs_set rfl (ps_set (i := 3) sc__law_odd.nd rfl (Or.inl rfl) (x_call .nil (pe_call G__law_take (hr.mono (by first | decide | omega)) (by rfl) T.g__law_take T.F__law_take.kp T.b__law_take .nil pass0 (xa_cons (x_var (pv 0)) (xa_cons (x_op sim_add op_addG (x_cb (sim_one sim_len) (pe_callB (kLen K rfl) (by rfl) T.m_len PySem.boot_len (xa_cons (x_var (pv 1)) xa_nil))) (x_val pe_int (.int _))) xa_nil))))))
    (xs_cons (xs_set rfl (ps_set (i := 4) sc__law_odd.nd rfl (Or.inl rfl) (x_lst (pe_lstN (xa_cons (x_op sim_add op_addG (x_slice (K := K) (pe_slice (kSl K rfl) (x_var (pv 1)) xo_none (xo_some (x_var (pv 3))))) (x_slice (K := K) (pe_slice (kSl K rfl) (x_var (pv 1)) (xo_some (x_op sim_add op_addG (x_var (pv 3)) (x_val pe_int (.int _)))) xo_none))) (xa_cons (x_op sim_add op_addG (x_op sim_add op_addG (x_slice (K := K) (pe_slice (kSl K rfl) (x_var (pv 1)) xo_none (xo_some (x_var (pv 3))))) (x_slice (K := K) (pe_slice (kSl K rfl) (x_var (pv 1)) (xo_some (x_var (pv 3))) (xo_some (x_op sim_add op_addG (x_var (pv 3)) (x_val pe_int (.int _))))))) (x_slice (K := K) (pe_slice (kSl K rfl) (x_var (pv 1)) (xo_some (x_var (pv 3))) xo_none))) (xa_cons (x_backG (pe_backG (x_var (pv 1)) (po_some (x_neg (pe_un un_neg (x_val pe_int (.int _))))))) (xa_cons (x_cb (sim_one sim_list) (pe_callTy (kList K rfl rfl) (by rfl) T.m_list (by decide +kernel) (xa_cons (x_var (pv 1)) xa_nil))) xa_nil))))))))
    (xs_one (xs_ret (ps_ret (x_ix (K := K) (pe_ix (kIx K rfl) (x_op sim_add op_addG (x_var (pv 4)) (x_lst (pe_lstN (xa_cons (x_op sim_add op_addG (x_var (pv 1)) (x_tup (pe_tupN (xa_cons (x_val pe_int (.int _)) xa_nil)))) (xa_cons (x_tup (pe_tupN xa_nil)) (xa_cons (x_val pe_non .non) (xa_cons (x_tup (pe_tupN (xa_cons (x_var (pv 1)) xa_nil))) (xa_cons (x_op sim_add op_addG (x_var (pv 1)) (x_slice (K := K) (pe_slice (kSl K rfl) (x_var (pv 1)) xo_none (xo_some (x_val pe_int (.int _)))))) (xa_cons (x_slice (K := K) (pe_slice (kSl K rfl) (x_var (pv 1)) xo_none (xo_some (x_val pe_int (.int _))))) (xa_cons (x_strC (cs := [97]) pe_str (by decide +kernel)) (xa_cons (x_dct0 pe_dnewK) xa_nil))))))))))) (x_var (pv 2)) (fun _ _ => rfl)))))))) xs_nil)
    (xs_cons (xs_if (xt_val (x_cb (sim_two sim_isi) (pe_callB (kIsi K rfl) (by rfl) T.m_isinstance (by decide +kernel) (xa_cons (x_var (pv 1)) (xa_cons (x_ty (pe_bltn (v := .ty "str") (by rfl) T.m_str (by decide +kernel) rfl)) xa_nil))))) (xs_cons (xs_par rfl rfl (ps_par (i := 3) (j := 5) rfl sc__law_odd.nd rfl rfl (by decide) rfl rfl (xa_cons (x_call .nil (pe_call G__law_take (hr.mono (by first | decide | omega)) (by rfl) T.g__law_take T.F__law_take.kp T.b__law_take .nil pass0 (xa_cons (x_var (pv 0)) (xa_cons (x_op sim_add op_addG (x_cb (sim_one sim_len) (pe_callB (kLen K rfl) (by rfl) T.m_len PySem.boot_len (xa_cons (x_var (pv 1)) xa_nil))) (x_val pe_int (.int _))) xa_nil)))) (xa_cons (x_ix (K := K) (pe_ix (kIx K rfl) (x_strC (cs := [32, 10, 126, 33, 97, 90, 48, 9, 45, 98]) pe_str (by decide +kernel)) (x_call .nil (pe_call G__law_take (hr.mono (by first | decide | omega)) (by rfl) T.g__law_take T.F__law_take.kp T.b__law_take .nil pass0 (xa_cons (x_var (pv 0)) (xa_cons (x_val pe_int (.int _)) xa_nil)))) (fun _ _ => rfl))) xa_nil)) rfl))
    (xs_cons (xs_set rfl (ps_set (i := 4) sc__law_odd.nd rfl (Or.inl rfl) (x_lst (pe_lstN (xa_cons (x_op sim_add op_addG (x_op sim_add op_addG (x_slice (K := K) (pe_slice (kSl K rfl) (x_var (pv 1)) xo_none (xo_some (x_var (pv 3))))) (x_var (pv 5))) (x_slice (K := K) (pe_slice (kSl K rfl) (x_var (pv 1)) (xo_some (x_var (pv 3))) xo_none))) (xa_cons (x_op sim_add op_addG (x_slice (K := K) (pe_slice (kSl K rfl) (x_var (pv 1)) xo_none (xo_some (x_var (pv 3))))) (x_slice (K := K) (pe_slice (kSl K rfl) (x_var (pv 1)) (xo_some (x_op sim_add op_addG (x_var (pv 3)) (x_val pe_int (.int _)))) xo_none))) (xa_cons (x_op sim_add op_addG (x_var (pv 1)) (x_var (pv 1))) (xa_cons (x_backG (pe_backG (x_var (pv 1)) (po_some (x_neg (pe_un un_neg (x_val pe_int (.int _))))))) (xa_cons (x_strC (cs := []) pe_str (by decide +kernel)) (xa_cons (x_val pe_non .non) (xa_cons (x_val pe_int (.int _)) xa_nil)))))))))))
    (xs_one (xs_ret (ps_ret (x_ix (K := K) (pe_ix (kIx K rfl) (x_op sim_add op_addG (x_var (pv 4)) (x_lst (pe_lstN (xa_cons (x_tup (pe_tupN (xa_cons (x_var (pv 1)) xa_nil))) (xa_cons (x_cb (sim_one sim_list) (pe_callTy (kList K rfl rfl) (by rfl) T.m_list (by decide +kernel) (xa_cons (x_var (pv 1)) xa_nil))) (xa_cons (x_val pe_bl (.bl _)) (xa_cons (x_op sim_add op_addG (x_var (pv 1)) (x_var (pv 5))) (xa_cons (x_op sim_add op_addG (x_op sim_add op_addG (x_slice (K := K) (pe_slice (kSl K rfl) (x_var (pv 1)) xo_none (xo_some (x_var (pv 3))))) (x_slice (K := K) (pe_slice (kSl K rfl) (x_var (pv 1)) (xo_some (x_var (pv 3))) (xo_some (x_op sim_add op_addG (x_var (pv 3)) (x_val pe_int (.int _))))))) (x_slice (K := K) (pe_slice (kSl K rfl) (x_var (pv 1)) (xo_some (x_var (pv 3))) xo_none))) xa_nil)))))))) (x_var (pv 2)) (fun _ _ => rfl)))))))) xs_nil)
    (xs_cons (xs_if (PW.pt (xw_and (xt_val (x_cb (sim_two sim_isi) (pe_callB (kIsi K rfl) (by rfl) T.m_isinstance (by decide +kernel) (xa_cons (x_var (pv 1)) (xa_cons (x_ty (pe_bltn (v := .ty "int") (by rfl) T.m_int (by decide +kernel) rfl)) xa_nil))))) (xw_and1 (xt_not (xt_val (x_cb (sim_two sim_isi) (pe_callB (kIsi K rfl) (by rfl) T.m_isinstance (by decide +kernel) (xa_cons (x_var (pv 1)) (xa_cons (x_ty (pe_bltn (v := .ty "bool") (by rfl) T.m_bool (by decide +kernel) rfl)) xa_nil))))))))) (xs_one (xs_ret (ps_ret (x_ix (K := K) (pe_ix (kIx K rfl) (x_lst (pe_lstN (xa_cons (x_op sim_add op_addG (x_var (pv 1)) (x_val pe_int (.int _))) (xa_cons (x_op sim_sub op_sub (x_var (pv 1)) (x_val pe_int (.int _))) (xa_cons (x_neg (pe_un un_neg (x_val pe_int (.int _)))) (xa_cons (x_val pe_bl (.bl _)) (xa_cons (x_val pe_bl (.bl _)) (xa_cons (x_val pe_non .non) (xa_cons (x_cb (sim_one sim_strOf) (pe_callTy call_str_int (by rfl) T.m_str (by decide +kernel) (xa_cons (x_var (pv 1)) xa_nil))) (xa_cons (x_op sim_pow op_pow (x_val pe_int (.int _)) (x_val pe_int (.int _))) (xa_cons (x_val pe_int (.int _)) (xa_cons (x_tup (pe_tupN (xa_cons (x_var (pv 1)) xa_nil))) (xa_cons (x_val pe_int (.int _)) (xa_cons (x_lst (pe_lstN (xa_cons (x_var (pv 1)) xa_nil))) xa_nil)))))))))))))) (x_var (pv 2)) (fun _ _ => rfl)))))) xs_nil)
    (xs_one (xs_ret (ps_ret (x_ix (K := K) (pe_ix (kIx K rfl) (x_lst (pe_lstN (xa_cons (x_val pe_int (.int _)) (xa_cons (x_val pe_int (.int _)) (xa_cons (x_strC (cs := []) pe_str (by decide +kernel)) (xa_cons (x_strC (cs := [97]) pe_str (by decide +kernel)) (xa_cons (x_val pe_non .non) (xa_cons (x_val pe_bl (.bl _)) (xa_cons (x_val pe_bl (.bl _)) (xa_cons (x_tup (pe_tupN xa_nil)) (xa_cons (x_lst (pe_lstN xa_nil)) (xa_cons (x_dct0 pe_dnewK) (xa_cons (x_neg (pe_un un_neg (x_val pe_int (.int _)))) (xa_cons (x_tup (pe_tupN (xa_cons (x_val pe_non .non) xa_nil))) xa_nil)))))))))))))) (x_var (pv 2)) (fun _ _ => rfl)))))))))), fun as Qc hc => ?_⟩)
  obtain ⟨n, j, k, M, x, rfl, A, n3, hj, hk, hM, q⟩ := hc
  ((conv => whnf); repeat ((first | refine ⟨_, rfl, ?_⟩ | refine ⟨Nat.le_of_ble_eq_true rfl, ?_⟩ | refine ⟨rfl, ?_⟩ | refine ⟨_, _, rfl, rfl, ?_⟩ | refine ⟨_, _, _, _, rfl, rfl, rfl, ?_⟩); conv => whnf))
  refine ⟨n, 12, rfl, by omega, by decide, by decide, fun at_ hat => ?_⟩
  ((conv => whnf); repeat ((first | refine ⟨_, rfl, ?_⟩ | refine ⟨Nat.le_of_ble_eq_true rfl, ?_⟩ | refine ⟨rfl, ?_⟩ | refine ⟨_, _, rfl, rfl, ?_⟩ | refine ⟨_, _, _, _, rfl, rfl, rfl, ?_⟩); conv => whnf))
  have hat : at_ < 12 := by omega
  have fin : ∀ (L : List PyData) (m : Nat), L.length = 12 → (∀ z ∈ L, Any (j + 1) (k + 1) (3 * M + 30) z) → n ≤ m + 3 → ∃ z, atI L (at_ : Int) = some z ∧ Qc (.d z) [pen m, .un] := fun L m hl h hm => by
    obtain ⟨z, e, zm⟩ := at12 (L := L) (m := at_) (by omega)
    exact ⟨z, e, q z m (h z zm) hm⟩
  cases x with
  | tuple ds =>
    obtain ⟨k0, rfl, B⟩ := A.unt
    have dl := B.len
    have cl := fun lo hi => cut_len ds lo hi
    have c1 := fun lo hi => AnyA_cut B lo hi
    have up : ∀ {l : List PyData} {m : Nat}, AnyA j k0 m l → m ≤ 3 * M + 30 → Any (j + 1) (k0 + 1 + 1) (3 * M + 30) (.tuple l) := fun h hm => (Any.tup h).le (by omega) (by omega) hm
    ((conv => whnf); repeat ((first | refine ⟨_, rfl, ?_⟩ | refine ⟨Nat.le_of_ble_eq_true rfl, ?_⟩ | refine ⟨rfl, ?_⟩ | refine ⟨_, _, rfl, rfl, ?_⟩ | refine ⟨_, _, _, _, rfl, rfl, rfl, ?_⟩); conv => whnf))
    refine ⟨n - 1, _, rfl, by omega, by omega, by omega, fun c hc => ?_⟩
    ((conv => whnf); repeat ((first | refine ⟨_, rfl, ?_⟩ | refine ⟨Nat.le_of_ble_eq_true rfl, ?_⟩ | refine ⟨rfl, ?_⟩ | refine ⟨_, _, rfl, rfl, ?_⟩ | refine ⟨_, _, _, _, rfl, rfl, rfl, ?_⟩); conv => whnf))
    refine ⟨by have := cl none (some (c : Int)); have := cl (some ((c : Int) + 1)) none; omega, ?_⟩
    ((conv => whnf); repeat ((first | refine ⟨_, rfl, ?_⟩ | refine ⟨Nat.le_of_ble_eq_true rfl, ?_⟩ | refine ⟨rfl, ?_⟩ | refine ⟨_, _, rfl, rfl, ?_⟩ | refine ⟨_, _, _, _, rfl, rfl, rfl, ?_⟩); conv => whnf))
    refine ⟨by have := cl none (some (c : Int)); have := cl (some (c : Int)) (some ((c : Int) + 1)); omega, ?_⟩
    ((conv => whnf); repeat ((first | refine ⟨_, rfl, ?_⟩ | refine ⟨Nat.le_of_ble_eq_true rfl, ?_⟩ | refine ⟨rfl, ?_⟩ | refine ⟨_, _, rfl, rfl, ?_⟩ | refine ⟨_, _, _, _, rfl, rfl, rfl, ?_⟩); conv => whnf))
    refine ⟨by have := cl none (some (c : Int)); have := cl (some (c : Int)) (some ((c : Int) + 1)); have := cl (some (c : Int)) none; rw [List.length_append]; omega, ?_⟩
    ((conv => whnf); repeat ((first | refine ⟨_, rfl, ?_⟩ | refine ⟨Nat.le_of_ble_eq_true rfl, ?_⟩ | refine ⟨rfl, ?_⟩ | refine ⟨_, _, rfl, rfl, ?_⟩ | refine ⟨_, _, _, _, rfl, rfl, rfl, ?_⟩); conv => whnf))
    refine ⟨by show _ + 1 ≤ _; omega, ?_⟩
    ((conv => whnf); repeat ((first | refine ⟨_, rfl, ?_⟩ | refine ⟨Nat.le_of_ble_eq_true rfl, ?_⟩ | refine ⟨rfl, ?_⟩ | refine ⟨_, _, rfl, rfl, ?_⟩ | refine ⟨_, _, _, _, rfl, rfl, rfl, ?_⟩); conv => whnf))
    refine ⟨by have := cl none (some 1); omega, ?_⟩
    ((conv => whnf); repeat ((first | refine ⟨_, rfl, ?_⟩ | refine ⟨Nat.le_of_ble_eq_true rfl, ?_⟩ | refine ⟨rfl, ?_⟩ | refine ⟨_, _, rfl, rfl, ?_⟩ | refine ⟨_, _, _, _, rfl, rfl, rfl, ?_⟩); conv => whnf))
    refine fin _ (n - 1 - 1) rfl ?_ (by omega)
    refine ac ?_ (ac ?_ (ac ?_ (ac ?_ (ac ?_ (ac ?_ (ac ?_ (ac ?_ (ac ?_ (ac ?_ (ac ?_ (ac ?_ an)))))))))))
    · exact up (AnyA.app (c1 _ _) (c1 _ _)) (by omega)
    · exact up (AnyA.app (AnyA.app (c1 _ _) (c1 _ _)) (c1 _ _)) (by omega)
    · exact up B.rev (by omega)
    · exact (Any.lst B).le (by omega) (by omega) (by omega)
    · exact (Any.tup (k := k0) (AnyA.app (B.le (Nat.le_succ j) (Nat.le_refl _) (Nat.le_refl _)) (AnyA.cons (M := 0) (M' := 0) (.int (by omega)) .nil))).le (Nat.le_refl _) (by omega) (by omega)
    · exact Any.tup .nil
    · exact .none
    · exact (Any.tup (AnyA.cons (M' := 0) A .nil)).le (by omega) (by omega) (by omega)
    · exact up (AnyA.app B (c1 _ _)) (by omega)
    · exact up (c1 _ _) (by omega)
    · exact .str (t := [97]) (by decide) (by show 1 ≤ _; omega)
    · exact .dict0
  | str z =>
    obtain ⟨zl, zc⟩ := A.unS
    ((conv => whnf); repeat ((first | refine ⟨_, rfl, ?_⟩ | refine ⟨Nat.le_of_ble_eq_true rfl, ?_⟩ | refine ⟨rfl, ?_⟩ | refine ⟨_, _, rfl, rfl, ?_⟩ | refine ⟨_, _, _, _, rfl, rfl, rfl, ?_⟩); conv => whnf))
    refine ⟨by omega, ?_⟩
    ((conv => whnf); repeat ((first | refine ⟨_, rfl, ?_⟩ | refine ⟨Nat.le_of_ble_eq_true rfl, ?_⟩ | refine ⟨rfl, ?_⟩ | refine ⟨_, _, rfl, rfl, ?_⟩ | refine ⟨_, _, _, _, rfl, rfl, rfl, ?_⟩); conv => whnf))
    refine ⟨n - 1, _, rfl, by omega, by omega, by omega, fun c hc => ?_⟩
    ((conv => whnf); repeat ((first | refine ⟨_, rfl, ?_⟩ | refine ⟨Nat.le_of_ble_eq_true rfl, ?_⟩ | refine ⟨rfl, ?_⟩ | refine ⟨_, _, rfl, rfl, ?_⟩ | refine ⟨_, _, _, _, rfl, rfl, rfl, ?_⟩); conv => whnf))
    refine ⟨n - 1 - 1, 10, rfl, by omega, by decide, by decide, fun b hb => ?_⟩
    ((conv => whnf); repeat ((first | refine ⟨_, rfl, ?_⟩ | refine ⟨Nat.le_of_ble_eq_true rfl, ?_⟩ | refine ⟨rfl, ?_⟩ | refine ⟨_, _, rfl, rfl, ?_⟩ | refine ⟨_, _, _, _, rfl, rfl, rfl, ?_⟩); conv => whnf))
    have hb : b < [32, 10, 126, 33, 97, 90, 48, 9, 45, 98].length := by show b < 10; omega
    obtain ⟨g, eg, gm⟩ : ∃ g, atI [32, 10, 126, 33, 97, 90, 48, 9, 45, 98] (b : Int) = some g ∧ g ∈ [32, 10, 126, 33, 97, 90, 48, 9, 45, 98] := ⟨_, atI_nat (List.getElem?_eq_getElem hb), List.getElem_mem hb⟩
    have gc : g < 1114112 := by
      have : ∀ x ∈ [32, 10, 126, 33, 97, 90, 48, 9, 45, 98], x < 1114112 := by decide
      exact this g gm
    refine ⟨g, eg, by decide, ?_⟩
    ((conv => whnf); repeat ((first | refine ⟨_, rfl, ?_⟩ | refine ⟨Nat.le_of_ble_eq_true rfl, ?_⟩ | refine ⟨rfl, ?_⟩ | refine ⟨_, _, rfl, rfl, ?_⟩ | refine ⟨_, _, _, _, rfl, rfl, rfl, ?_⟩); conv => whnf))
    obtain ⟨t, rfl⟩ : ∃ t, z = tx t := ⟨tl z, (tx_tl z).symm⟩
    rw [tl_tx] at zl zc
    have cl := fun lo hi => cut_len t lo hi
    have cm := fun (lo hi : Option Int) (x : Nat) (m : x ∈ Px.cutD t lo hi) => zc x (cut_mem m)
    have l1 := cl none (some (c : Int))
    have l2 := cl (some (c : Int)) none
    have l3 := cl (some ((c : Int) + 1)) none
    have l4 := cl (some (c : Int)) (some ((c : Int) + 1))
    refine ⟨by simp only [tl_tx, List.length_append, List.length_cons, List.length_nil]; omega, ?_⟩
    ((conv => whnf); repeat ((first | refine ⟨_, rfl, ?_⟩ | refine ⟨Nat.le_of_ble_eq_true rfl, ?_⟩ | refine ⟨rfl, ?_⟩ | refine ⟨_, _, rfl, rfl, ?_⟩ | refine ⟨_, _, _, _, rfl, rfl, rfl, ?_⟩); conv => whnf))
    refine ⟨by simp only [tl_tx, List.length_append, List.length_cons, List.length_nil]; omega, ?_⟩
    ((conv => whnf); repeat ((first | refine ⟨_, rfl, ?_⟩ | refine ⟨Nat.le_of_ble_eq_true rfl, ?_⟩ | refine ⟨rfl, ?_⟩ | refine ⟨_, _, rfl, rfl, ?_⟩ | refine ⟨_, _, _, _, rfl, rfl, rfl, ?_⟩); conv => whnf))
    refine ⟨by simp only [tl_tx, List.length_append, List.length_cons, List.length_nil]; omega, ?_⟩
    ((conv => whnf); repeat ((first | refine ⟨_, rfl, ?_⟩ | refine ⟨Nat.le_of_ble_eq_true rfl, ?_⟩ | refine ⟨rfl, ?_⟩ | refine ⟨_, _, rfl, rfl, ?_⟩ | refine ⟨_, _, _, _, rfl, rfl, rfl, ?_⟩); conv => whnf))
    refine ⟨by simp only [tl_tx, List.length_append, List.length_cons, List.length_nil]; omega, ?_⟩
    ((conv => whnf); repeat ((first | refine ⟨_, rfl, ?_⟩ | refine ⟨Nat.le_of_ble_eq_true rfl, ?_⟩ | refine ⟨rfl, ?_⟩ | refine ⟨_, _, rfl, rfl, ?_⟩ | refine ⟨_, _, _, _, rfl, rfl, rfl, ?_⟩); conv => whnf))
    refine ⟨by simp only [tl_tx, List.length_append, List.length_cons, List.length_nil]; omega, ?_⟩
    ((conv => whnf); repeat ((first | refine ⟨_, rfl, ?_⟩ | refine ⟨Nat.le_of_ble_eq_true rfl, ?_⟩ | refine ⟨rfl, ?_⟩ | refine ⟨_, _, rfl, rfl, ?_⟩ | refine ⟨_, _, _, _, rfl, rfl, rfl, ?_⟩); conv => whnf))
    refine ⟨by simp only [tl_tx, List.length_append, List.length_cons, List.length_nil]; omega, ?_⟩
    ((conv => whnf); repeat ((first | refine ⟨_, rfl, ?_⟩ | refine ⟨Nat.le_of_ble_eq_true rfl, ?_⟩ | refine ⟨rfl, ?_⟩ | refine ⟨_, _, rfl, rfl, ?_⟩ | refine ⟨_, _, _, _, rfl, rfl, rfl, ?_⟩); conv => whnf))
    refine ⟨by simp only [tl_tx, List.length_append, List.length_cons, List.length_nil]; omega, ?_⟩
    ((conv => whnf); repeat ((first | refine ⟨_, rfl, ?_⟩ | refine ⟨Nat.le_of_ble_eq_true rfl, ?_⟩ | refine ⟨rfl, ?_⟩ | refine ⟨_, _, rfl, rfl, ?_⟩ | refine ⟨_, _, _, _, rfl, rfl, rfl, ?_⟩); conv => whnf))
    refine ⟨by simp only [tl_tx, List.length_append, List.length_cons, List.length_nil]; omega, ?_⟩
    ((conv => whnf); repeat ((first | refine ⟨_, rfl, ?_⟩ | refine ⟨Nat.le_of_ble_eq_true rfl, ?_⟩ | refine ⟨rfl, ?_⟩ | refine ⟨_, _, rfl, rfl, ?_⟩ | refine ⟨_, _, _, _, rfl, rfl, rfl, ?_⟩); conv => whnf))
    refine ⟨by simp only [tl_tx, List.length_append, List.length_cons, List.length_nil]; omega, ?_⟩
    ((conv => whnf); repeat ((first | refine ⟨_, rfl, ?_⟩ | refine ⟨Nat.le_of_ble_eq_true rfl, ?_⟩ | refine ⟨rfl, ?_⟩ | refine ⟨_, _, rfl, rfl, ?_⟩ | refine ⟨_, _, _, _, rfl, rfl, rfl, ?_⟩); conv => whnf))
    refine ⟨by simp only [tl_tx, List.length_append, List.length_cons, List.length_nil]; omega, ?_⟩
    ((conv => whnf); repeat ((first | refine ⟨_, rfl, ?_⟩ | refine ⟨Nat.le_of_ble_eq_true rfl, ?_⟩ | refine ⟨rfl, ?_⟩ | refine ⟨_, _, rfl, rfl, ?_⟩ | refine ⟨_, _, _, _, rfl, rfl, rfl, ?_⟩); conv => whnf))
    refine ⟨by simp only [tl_tx, List.length_append, List.length_cons, List.length_nil]; omega, ?_⟩
    ((conv => whnf); repeat ((first | refine ⟨_, rfl, ?_⟩ | refine ⟨Nat.le_of_ble_eq_true rfl, ?_⟩ | refine ⟨rfl, ?_⟩ | refine ⟨_, _, rfl, rfl, ?_⟩ | refine ⟨_, _, _, _, rfl, rfl, rfl, ?_⟩); conv => whnf))
    refine ⟨by simp only [tl_tx, List.length_append, List.length_cons, List.length_nil]; omega, ?_⟩
    ((conv => whnf); repeat ((first | refine ⟨_, rfl, ?_⟩ | refine ⟨Nat.le_of_ble_eq_true rfl, ?_⟩ | refine ⟨rfl, ?_⟩ | refine ⟨_, _, rfl, rfl, ?_⟩ | refine ⟨_, _, _, _, rfl, rfl, rfl, ?_⟩); conv => whnf))
    refine ⟨by simp only [tl_tx, List.length_append, List.length_cons, List.length_nil]; omega, ?_⟩
    ((conv => whnf); repeat ((first | refine ⟨_, rfl, ?_⟩ | refine ⟨Nat.le_of_ble_eq_true rfl, ?_⟩ | refine ⟨rfl, ?_⟩ | refine ⟨_, _, rfl, rfl, ?_⟩ | refine ⟨_, _, _, _, rfl, rfl, rfl, ?_⟩); conv => whnf))
    refine ⟨by simp only [tl_tx, List.length_append, List.length_cons, List.length_nil]; omega, ?_⟩
    ((conv => whnf); repeat ((first | refine ⟨_, rfl, ?_⟩ | refine ⟨Nat.le_of_ble_eq_true rfl, ?_⟩ | refine ⟨rfl, ?_⟩ | refine ⟨_, _, rfl, rfl, ?_⟩ | refine ⟨_, _, _, _, rfl, rfl, rfl, ?_⟩); conv => whnf))
    refine ⟨by simp only [tl_tx, List.length_append, List.length_cons, List.length_nil]; omega, ?_⟩
    ((conv => whnf); repeat ((first | refine ⟨_, rfl, ?_⟩ | refine ⟨Nat.le_of_ble_eq_true rfl, ?_⟩ | refine ⟨rfl, ?_⟩ | refine ⟨_, _, rfl, rfl, ?_⟩ | refine ⟨_, _, _, _, rfl, rfl, rfl, ?_⟩); conv => whnf))
    refine ⟨by simp only [tl_tx, List.length_append, List.length_cons, List.length_nil]; omega, ?_⟩
    ((conv => whnf); repeat ((first | refine ⟨_, rfl, ?_⟩ | refine ⟨Nat.le_of_ble_eq_true rfl, ?_⟩ | refine ⟨rfl, ?_⟩ | refine ⟨_, _, rfl, rfl, ?_⟩ | refine ⟨_, _, _, _, rfl, rfl, rfl, ?_⟩); conv => whnf))
    refine fin _ (n - 1 - 1 - 1) rfl ?_ (by omega)
    have gm : ∀ x ∈ [g], x < 1114112 := fun x m => by rw [List.mem_singleton.mp m]; exact gc
    have ap : ∀ {u v : Cs}, (∀ x ∈ u, x < 1114112) → (∀ x ∈ v, x < 1114112) → ∀ x ∈ u ++ v, x < 1114112 := fun h1 h2 x m => (List.mem_append.mp m).elim (h1 x) (h2 x)
    have S : ∀ u : Cs, (∀ x ∈ u, x < 1114112) → u.length ≤ 3 * M + 30 → Any (j + 1) (k + 1) (3 * M + 30) (.str (tx u)) := fun u h1 h2 => Any.str h1 h2
    refine ac ?_ (ac ?_ (ac ?_ (ac ?_ (ac ?_ (ac ?_ (ac ?_ (ac ?_ (ac ?_ (ac ?_ (ac ?_ (ac ?_ an)))))))))))
    · exact S (Px.cutD t none (some (c : Int)) ++ [g] ++ Px.cutD t (some (c : Int)) none) (ap (ap (cm _ _) gm) (cm _ _)) (by simp only [List.length_append, List.length_cons, List.length_nil]; omega)
    · exact S (Px.cutD t none (some (c : Int)) ++ Px.cutD t (some ((c : Int) + 1)) none) (ap (cm _ _) (cm _ _)) (by simp only [List.length_append]; omega)
    · exact S (t ++ t) (ap zc zc) (by simp only [List.length_append]; omega)
    · exact S t.reverse (fun x m => zc x (List.mem_reverse.mp m)) (by rw [List.length_reverse]; omega)
    · exact S [] (fun _ m => nomatch m) (Nat.zero_le _)
    · exact .none
    · exact .int (by omega)
    · exact (Any.tup (k := k) (AnyA.cons (M' := 0) (Any.str (j := j + 1) (M := t.length) zc (Nat.le_refl _)) .nil)).le (Nat.le_refl _) (Nat.le_refl _) (by omega)
    · exact (Any.lst (k := k) (AnyA.ones zc)).le (Nat.le_refl _) (Nat.le_refl _) (by omega)
    · exact .bool
    · exact S (t ++ [g]) (ap zc gm) (by simp only [List.length_append, List.length_cons, List.length_nil]; omega)
    · exact S (Px.cutD t none (some (c : Int)) ++ Px.cutD t (some (c : Int)) (some ((c : Int) + 1)) ++ Px.cutD t (some (c : Int)) none) (ap (ap (cm _ _) (cm _ _)) (cm _ _)) (by simp only [List.length_append]; omega)
  | int i =>
    have hi := A.unI
    ((conv => whnf); repeat ((first | refine ⟨_, rfl, ?_⟩ | refine ⟨Nat.le_of_ble_eq_true rfl, ?_⟩ | refine ⟨rfl, ?_⟩ | refine ⟨_, _, rfl, rfl, ?_⟩ | refine ⟨_, _, _, _, rfl, rfl, rfl, ?_⟩); conv => whnf))
    refine ⟨of_decide_eq_true (by have := (int_show hi (by omega)).1; simpa only [PyData.showable] using this), ?_⟩
    ((conv => whnf); repeat ((first | refine ⟨_, rfl, ?_⟩ | refine ⟨Nat.le_of_ble_eq_true rfl, ?_⟩ | refine ⟨rfl, ?_⟩ | refine ⟨_, _, rfl, rfl, ?_⟩ | refine ⟨_, _, _, _, rfl, rfl, rfl, ?_⟩); conv => whnf))
    refine ⟨⟨by decide, by decide, by decide⟩, ?_⟩
    ((conv => whnf); repeat ((first | refine ⟨_, rfl, ?_⟩ | refine ⟨Nat.le_of_ble_eq_true rfl, ?_⟩ | refine ⟨rfl, ?_⟩ | refine ⟨_, _, rfl, rfl, ?_⟩ | refine ⟨_, _, _, _, rfl, rfl, rfl, ?_⟩); conv => whnf))
    refine fin _ (n - 1) rfl ?_ (by omega)
    have p20 : ((10 : Int) ^ (Int.toNat 20)).natAbs = 10 ^ 20 := by decide
    exact ac (.int (by omega)) (ac (.int (show (i - 1).natAbs ≤ _ by omega)) (ac (.int (by omega)) (ac .bool (ac .bool (ac .none (ac (Any.num (by omega) (by omega) (by omega)) (ac (.int (show ((10 : Int) ^ (Int.toNat 20)).natAbs ≤ _ by omega)) (ac (.int (by omega)) (ac ((Any.tup (k := k) (AnyA.cons (M := 0) (M' := 0) (.int (by omega)) .nil)).le (Nat.le_refl _) (Nat.le_refl _) (by omega)) (ac (.int (by omega)) (ac ((Any.lst (k := k) (AnyA.cons (M := 0) (M' := 0) (.int (by omega)) .nil)).le (Nat.le_refl _) (Nat.le_refl _) (by omega)) an)))))))))))
  | _ =>
    ((conv => whnf); repeat ((first | refine ⟨_, rfl, ?_⟩ | refine ⟨Nat.le_of_ble_eq_true rfl, ?_⟩ | refine ⟨rfl, ?_⟩ | refine ⟨_, _, rfl, rfl, ?_⟩ | refine ⟨_, _, _, _, rfl, rfl, rfl, ?_⟩); conv => whnf))
    refine fin _ (n - 1) rfl ?_ (by omega)
    exact ac (.int (by omega)) (ac (.int (by omega)) (ac (.str (t := []) (fun _ m => nomatch m) (Nat.zero_le _)) (ac (.str (t := [97]) (by decide) (by show 1 ≤ _; omega)) (ac .none (ac .bool (ac .bool (ac (Any.tup .nil) (ac (Any.lst .nil) (ac .dict0 (ac (.int (by omega)) (ac ((Any.tup (k := k) (AnyA.cons (M := 0) (M' := 0) .none .nil)).le (Nat.le_refl _) (Nat.le_refl _) (by omega)) an)))))))))))
end
end Kx

-- @zip2
-- @any
-- @mask _law_odd 10
-- @mask _law_bent 10
namespace Kx
open PySem PySem.Spec PyProof.Rows L2 Fo Px TL
section
variable {P : Program} {w : World} {K : PySem.W.Frag} {mg : Str → Option Value} {base : Heap}
def c_bent (N : Nat) : Ct := fun as Q => ∃ (n j k M : Nat) (x : PyData), as = [pen n, .d x] ∧ Any j k M x ∧ k < N ∧ 2 * k + 6 ≤ n ∧ j ≤ 50 ∧ k ≤ 50 ∧ M ≤ 100000 ∧ ∀ (y : PyData) (n' : Nat), Any (j + 1) (k + 1) (4 * M + 40) y → n ≤ n' + (2 * k + 6) → Q (.d y) [pen n', .un]
theorem x_bent_s (T : Top K mg) (N : Nat) (G__law_bent : FnOk P w K mg base CX0 (N + 3) T.f__law_bent T.fd__law_bent ["pen", "thing"] (spP (c_bent N))) :
    FnOk P w K mg base CX0 (N + 4) T.f__law_bent T.fd__law_bent ["pen", "thing"] (spP (c_bent (N + 1))) := by
  have G__law_take := x_take (P := P) (w := w) (base := base) T
  have G__law_odd := x_odd (P := P) (w := w) (base := base) T
  refine okP T.F__law_bent sc__law_bent [true, false] rfl (by decide) (fun as Q h => by obtain ⟨n, j, k, M, x, rfl, _⟩ := h; rfl) (fun cdv A outer s H E hr => ⟨_, (xs_cons (xs_if (PW.pt (xw_or (xt_not (xt_val (x_cb (sim_two sim_isi) (pe_callB (kIsi K rfl) (by rfl) T.m_isinstance (by decide +kernel) (xa_cons (x_var (pv 1)) (xa_cons (x_ty (pe_bltn (v := .ty "tuple") (by rfl) T.m_tuple (by decide +kernel) rfl)) xa_nil)))))) (xw_or (xt_cmp sim_eq0 (op_eq0 (un0 hr)) (x_var (pv 1)) (x_tup (pe_tupN xa_nil)) (nomark _)) (xw_or1 (xt_cmp sim_eq (kEq K rfl hr.units) (x_call .nil (pe_call G__law_take (hr.mono (by first | decide | omega)) (by rfl) T.g__law_take T.F__law_take.kp T.b__law_take .nil pass0 (xa_cons (x_var (pv 0)) (xa_cons (x_val pe_int (.int _)) xa_nil)))) (x_val pe_int (.int _)) (nomark _)))))) (xs_one (xs_ret (ps_ret (x_call .nil (pe_call G__law_odd (hr.mono (by first | decide | omega)) (by rfl) T.g__law_odd T.F__law_odd.kp T.b__law_odd .nil pass0 (xa_cons (x_var (pv 0)) (xa_cons (x_var (pv 1)) xa_nil))))))) xs_nil)
    (xs_cons (xs_set rfl (ps_set (i := 2) sc__law_bent.nd rfl (Or.inl rfl) (x_call .nil (pe_call G__law_take (hr.mono (by first | decide | omega)) (by rfl) T.g__law_take T.F__law_take.kp T.b__law_take .nil pass0 (xa_cons (x_var (pv 0)) (xa_cons (x_cb (sim_one sim_len) (pe_callB (kLen K rfl) (by rfl) T.m_len PySem.boot_len (xa_cons (x_var (pv 1)) xa_nil))) xa_nil))))))
    (xs_one (xs_ret (ps_ret (x_op sim_add op_addG (x_op sim_add op_addG (x_slice (K := K) (pe_slice (kSl K rfl) (x_var (pv 1)) xo_none (xo_some (x_var (pv 2))))) (x_tup (pe_tupN (xa_cons (x_call .nil (pe_call G__law_bent (hr.mono (by first | decide | omega)) (by rfl) T.g__law_bent T.F__law_bent.kp T.b__law_bent .nil pass0 (xa_cons (x_var (pv 0)) (xa_cons (x_ix (K := K) (pe_ix (kIx K rfl) (x_var (pv 1)) (x_var (pv 2)) (fun _ _ => rfl))) xa_nil)))) xa_nil)))) (x_slice (K := K) (pe_slice (kSl K rfl) (x_var (pv 1)) (xo_some (x_op sim_add op_addG (x_var (pv 2)) (x_val pe_int (.int _)))) xo_none)))))))), fun as Qc hc => ?_⟩)
  obtain ⟨n, j, k, M, x, rfl, A, kN, n3, hj, hk, hM, q⟩ := hc
  ((conv => whnf); repeat ((first | refine ⟨_, rfl, ?_⟩ | refine ⟨Nat.le_of_ble_eq_true rfl, ?_⟩ | refine ⟨rfl, ?_⟩ | refine ⟨_, _, rfl, rfl, ?_⟩ | refine ⟨_, _, _, _, rfl, rfl, rfl, ?_⟩); conv => whnf))
  cases x with
  | tuple ds =>
    obtain ⟨k0, rfl, B⟩ := A.unt
    have dl := B.len
    cases ds with
    | nil =>
      ((conv => whnf); repeat ((first | refine ⟨_, rfl, ?_⟩ | refine ⟨Nat.le_of_ble_eq_true rfl, ?_⟩ | refine ⟨rfl, ?_⟩ | refine ⟨_, _, rfl, rfl, ?_⟩ | refine ⟨_, _, _, _, rfl, rfl, rfl, ?_⟩); conv => whnf))
      refine ⟨n, j, k0 + 1, M, _, rfl, A, by omega, hj, hk, hM, fun y n' Y hn => ?_⟩
      ((conv => whnf); repeat ((first | refine ⟨_, rfl, ?_⟩ | refine ⟨Nat.le_of_ble_eq_true rfl, ?_⟩ | refine ⟨rfl, ?_⟩ | refine ⟨_, _, rfl, rfl, ?_⟩ | refine ⟨_, _, _, _, rfl, rfl, rfl, ?_⟩); conv => whnf))
      exact q y n' (Y.le (Nat.le_refl _) (Nat.le_refl _) (by omega)) (by omega)
    | cons d0 ds =>
      ((conv => whnf); repeat ((first | refine ⟨_, rfl, ?_⟩ | refine ⟨Nat.le_of_ble_eq_true rfl, ?_⟩ | refine ⟨rfl, ?_⟩ | refine ⟨_, _, rfl, rfl, ?_⟩ | refine ⟨_, _, _, _, rfl, rfl, rfl, ?_⟩); conv => whnf))
      refine ⟨n, 5, rfl, by omega, by decide, by decide, fun t ht => ?_⟩
      ((conv => whnf); repeat ((first | refine ⟨_, rfl, ?_⟩ | refine ⟨Nat.le_of_ble_eq_true rfl, ?_⟩ | refine ⟨rfl, ?_⟩ | refine ⟨_, _, rfl, rfl, ?_⟩ | refine ⟨_, _, _, _, rfl, rfl, rfl, ?_⟩); conv => whnf))
      refine pick_of (fun h => ?_) (fun h => ?_)
      · ((conv => whnf); repeat ((first | refine ⟨_, rfl, ?_⟩ | refine ⟨Nat.le_of_ble_eq_true rfl, ?_⟩ | refine ⟨rfl, ?_⟩ | refine ⟨_, _, rfl, rfl, ?_⟩ | refine ⟨_, _, _, _, rfl, rfl, rfl, ?_⟩); conv => whnf))
        refine ⟨n - 1, j, k0 + 1, M, _, rfl, A, by omega, hj, hk, hM, fun y n' Y hn => ?_⟩
        ((conv => whnf); repeat ((first | refine ⟨_, rfl, ?_⟩ | refine ⟨Nat.le_of_ble_eq_true rfl, ?_⟩ | refine ⟨rfl, ?_⟩ | refine ⟨_, _, rfl, rfl, ?_⟩ | refine ⟨_, _, _, _, rfl, rfl, rfl, ?_⟩); conv => whnf))
        exact q y n' (Y.le (Nat.le_refl _) (Nat.le_refl _) (by omega)) (by omega)
      · ((conv => whnf); repeat ((first | refine ⟨_, rfl, ?_⟩ | refine ⟨Nat.le_of_ble_eq_true rfl, ?_⟩ | refine ⟨rfl, ?_⟩ | refine ⟨_, _, rfl, rfl, ?_⟩ | refine ⟨_, _, _, _, rfl, rfl, rfl, ?_⟩); conv => whnf))
        refine ⟨n - 1, _, rfl, by omega, by show (0 : Int) < ((ds.length + 1 : Nat) : Int); omega, by have : (d0 :: ds).length = ds.length + 1 := rfl; omega, fun a ha => ?_⟩
        have al : a < (d0 :: ds).length := by omega
        obtain ⟨d, ed⟩ : ∃ d, (d0 :: ds)[a]? = some d := ⟨_, List.getElem?_eq_getElem al⟩
        obtain ⟨m1, m, m2, ml, p1, p2, p3⟩ := B.part ed
        generalize d0 :: ds = xs at A B dl ha al ed p1 p3
        ((conv => whnf); repeat ((first | refine ⟨_, rfl, ?_⟩ | refine ⟨Nat.le_of_ble_eq_true rfl, ?_⟩ | refine ⟨rfl, ?_⟩ | refine ⟨_, _, rfl, rfl, ?_⟩ | refine ⟨_, _, _, _, rfl, rfl, rfl, ?_⟩); conv => whnf))
        refine ⟨d, atI_nat ed, ?_⟩
        ((conv => whnf); repeat ((first | refine ⟨_, rfl, ?_⟩ | refine ⟨Nat.le_of_ble_eq_true rfl, ?_⟩ | refine ⟨rfl, ?_⟩ | refine ⟨_, _, rfl, rfl, ?_⟩ | refine ⟨_, _, _, _, rfl, rfl, rfl, ?_⟩); conv => whnf))
        refine ⟨n - 1 - 1, j, k0, m, d, rfl, p2, by omega, by omega, hj, by omega, by omega, fun y n' Y hn => ?_⟩
        ((conv => whnf); repeat ((first | refine ⟨_, rfl, ?_⟩ | refine ⟨Nat.le_of_ble_eq_true rfl, ?_⟩ | refine ⟨rfl, ?_⟩ | refine ⟨_, _, rfl, rfl, ?_⟩ | refine ⟨_, _, _, _, rfl, rfl, rfl, ?_⟩); conv => whnf))
        rw [cut_to]
        refine ⟨by rw [List.length_take]; show _ + 1 ≤ _; omega, ?_⟩
        ((conv => whnf); repeat ((first | refine ⟨_, rfl, ?_⟩ | refine ⟨Nat.le_of_ble_eq_true rfl, ?_⟩ | refine ⟨rfl, ?_⟩ | refine ⟨_, _, rfl, rfl, ?_⟩ | refine ⟨_, _, _, _, rfl, rfl, rfl, ?_⟩); conv => whnf))
        rw [show ((a : Int) + 1) = ((a + 1 : Nat) : Int) from rfl, cut_from]
        refine ⟨by rw [List.length_append, List.length_take, List.length_drop]; show _ + 1 + _ ≤ _; omega, ?_⟩
        ((conv => whnf); repeat ((first | refine ⟨_, rfl, ?_⟩ | refine ⟨Nat.le_of_ble_eq_true rfl, ?_⟩ | refine ⟨rfl, ?_⟩ | refine ⟨_, _, rfl, rfl, ?_⟩ | refine ⟨_, _, _, _, rfl, rfl, rfl, ?_⟩); conv => whnf))
        have up : ∀ {l : List PyData} {m : Nat}, AnyA j k0 m l → AnyA (j + 1) (k0 + 1) m l := fun h => h.le (by omega) (by omega) (Nat.le_refl _)
        have Z := Any.tup (AnyA.app (AnyA.app (up p1) (AnyA.cons (M' := 0) Y .nil)) (up p3))
        exact q _ n' (Z.le (Nat.le_refl _) (Nat.le_refl _) (by omega)) (by omega)
  | _ =>
    ((conv => whnf); repeat ((first | refine ⟨_, rfl, ?_⟩ | refine ⟨Nat.le_of_ble_eq_true rfl, ?_⟩ | refine ⟨rfl, ?_⟩ | refine ⟨_, _, rfl, rfl, ?_⟩ | refine ⟨_, _, _, _, rfl, rfl, rfl, ?_⟩); conv => whnf))
    refine ⟨n, j, k, M, _, rfl, A, by omega, hj, hk, hM, fun y n' Y hn => ?_⟩
    ((conv => whnf); repeat ((first | refine ⟨_, rfl, ?_⟩ | refine ⟨Nat.le_of_ble_eq_true rfl, ?_⟩ | refine ⟨rfl, ?_⟩ | refine ⟨_, _, rfl, rfl, ?_⟩ | refine ⟨_, _, _, _, rfl, rfl, rfl, ?_⟩); conv => whnf))
    exact q y n' (Y.le (Nat.le_refl _) (Nat.le_refl _) (by omega)) (by omega)
theorem x_bent (T : Top K mg) : ∀ N, FnOk P w K mg base CX0 (N + 3) T.f__law_bent T.fd__law_bent ["pen", "thing"] (spP (c_bent N))
  | 0 => fnNo.imp fun vs H Q E h => by
    obtain ⟨F, G, as, Qc, hr, hc, k⟩ := h
    obtain ⟨_, _, _, _, _, _, _, z, _⟩ := hc
    exact absurd z (Nat.not_lt_zero _)
  | N + 1 => x_bent_s T N (x_bent T N)
end
end Kx

-- @zip2
-- @any
-- @mask _law_great 10000
namespace Kx
open PySem PySem.Spec PyProof.Rows L2 Fo Px TL
section
variable {P : Program} {w : World} {K : PySem.W.Frag} {mg : Str → Option Value} {base : Heap}
theorem sig_of {g : Cs} {n : Nat} (h : Sgs g n) (h1 : 1 ≤ n) : sigC g = decide (n ≤ 8) := by
  have hl := h.len
  unfold sigC
  rw [hl, decide_eq_true h1, adj_pair.mpr h.up, Bool.and_true, Bool.true_and]
  have e : (g.all fun c => decide (33 ≤ c) && decide (c ≤ 126)) = true := List.all_eq_true.mpr fun c m => by
    have := h.sub c m
    simp [this.1, this.2]
  rw [e, Bool.and_true]
/-- a state as it has to be, but for one text of so many signs -/
structure StF (W N B : Nat) (h : Cs) (s : Sta) : Prop where
  len : s.ways.length = W
  way : ∀ w ∈ s.ways, w.1 < N ∧ w.2.length ≤ B ∧ ∀ c ∈ w.2, c ∈ h
  fin : ∀ t, s.fin = some t → t.length ≤ B ∧ ∀ c ∈ t, c ∈ h
theorem txt_is {g : Cs} {t : Cs} {m : Nat} (h : ∀ c ∈ t, c ∈ g) : isTxt g m (.str (tx t)) = decide (t.length ≤ m) := by
  show (decide ((tl (tx t)).length ≤ m) && (tl (tx t)).all fun c => decide (c ∈ g)) = _
  rw [tl_tx]
  have e : (t.all fun c => decide (c ∈ g)) = true := List.all_eq_true.mpr fun c m => decide_eq_true (h c m)
  rw [e, Bool.and_true]
theorem wy_is {g : Cs} {n : Nat} {w : Nat × Cs} (h1 : w.1 < n) (h2 : ∀ c ∈ w.2, c ∈ g) : isWy n g (dW w) = decide (w.2.length ≤ 3) := by
  show (isNum (n : Int) (.int (w.1 : Int)) && isTxt g 3 (.str (tx w.2))) = _
  rw [txt_is h2]
  have e : isNum (n : Int) (.int (w.1 : Int)) = true := by
    show (decide ((0 : Int) ≤ (w.1 : Int)) && decide ((w.1 : Int) < (n : Int))) = true
    rw [decide_eq_true (by omega), decide_eq_true (by omega)]
    rfl
  rw [e, Bool.true_and]
theorem end_is {g : Cs} {o : Option Cs} (h : ∀ t, o = some t → ∀ c ∈ t, c ∈ g) : isEnd g (dO o) = (o.all fun t => decide (t.length ≤ 3)) := by
  cases o with
  | none => rfl
  | some t => exact txt_is (h t rfl)
theorem st_is {W N B : Nat} {g : Cs} {s : Sta} (h : StF W N B g s) : isSt W N g (dS s) = ((s.ways.all fun w => decide (w.2.length ≤ 3)) && s.fin.all fun t => decide (t.length ≤ 3)) := by
  show (((decide (W ≤ (s.ways.map dW).length) && decide ((s.ways.map dW).length ≤ W)) && (s.ways.map dW).all (isWy N g)) && isEnd g (dO s.fin)) = _
  rw [List.length_map, h.len, decide_eq_true (Nat.le_refl _), Bool.true_and, Bool.true_and, end_is fun t e => (h.fin t e).2, List.all_map]
  congr 1
  rw [Bool.eq_iff_iff, List.all_eq_true, List.all_eq_true]
  exact forall₂_congr fun w m => by
    show isWy N g (dW w) = true ↔ _
    rw [wy_is (h.way w m).1 (h.way w m).2.2]
theorem rdr_is {r : Rdr} {a b : Nat} (h1 : Sgs r.reads a) (h2 : Sgs r.tells b) (a1 : 1 ≤ a) (b1 : 1 ≤ b) (n1 : 1 ≤ r.states.length) : isRdr (dR r) = ((decide (a ≤ 8) && decide (b ≤ 8)) && (decide (r.states.length ≤ 6) && r.states.all fun s => isSt r.reads.length r.states.length r.tells (dS s))) := by
  show ((sigC (tl (tx r.reads)) && sigC (tl (tx r.tells))) && ((decide (1 ≤ (r.states.map dS).length) && decide ((r.states.map dS).length ≤ 6)) && (r.states.map dS).all (isSt (tl (tx r.reads)).length (r.states.map dS).length (tl (tx r.tells))))) = _
  rw [tl_tx, tl_tx, sig_of h1 a1, sig_of h2 b1, List.length_map, decide_eq_true n1, Bool.true_and, List.all_map]
  rfl
theorem any_map {α : Type} {f : α → PyData} {j k m : Nat} : ∀ {l : List α}, (∀ x ∈ l, Any j k m (f x)) → AnyA j k (l.length * (m + 1)) (l.map f)
  | [], _ => .nil
  | a :: l, h => by
    have := AnyA.cons (h a (List.mem_cons_self ..)) (any_map fun x hx => h x (List.mem_cons_of_mem _ hx))
    exact this.le (Nat.le_refl _) (Nat.le_refl _) (by rw [List.length_cons, Nat.succ_mul]; omega)
theorem rdr_any {r : Rdr} {a b B : Nat} (h1 : Sgs r.reads a) (h2 : Sgs r.tells b) (a9 : a ≤ 9) (b9 : b ≤ 9) (l7 : r.states.length ≤ 7) (hB : B ≤ 4) (hs : ∀ s ∈ r.states, StF a r.states.length B r.tells s) : Any 0 5 700 (dR r) := by
  have la := h1.len
  have lb := h2.len
  have e1 : Any 0 4 9 (.str (tx r.reads)) := .str (fun c m => by have := h1.sub c m; omega) (by omega)
  have e2 : Any 0 4 9 (.str (tx r.tells)) := .str (fun c m => by have := h2.sub c m; omega) (by omega)
  have tc : ∀ t : Cs, (∀ c ∈ t, c ∈ r.tells) → ∀ c ∈ t, c < 1114112 := fun t h c m => by have := h2.sub c (h c m); omega
  have e3 : ∀ s ∈ r.states, Any 0 3 80 (dS s) := fun s hs' => by
    have S := hs s hs'
    have w : AnyA 0 1 (s.ways.length * (6 + 1)) (s.ways.map dW) := any_map fun x hx => by
      have y := S.way x hx
      exact (Any.tup (k := 0) (AnyA.cons (M := 0) (.int (by omega)) (AnyA.cons (M' := 0) (Any.str (M := 4) (tc _ y.2.2) (by omega)) .nil))).le (Nat.le_refl _) (Nat.le_refl _) (by omega)
    have f : Any 0 2 4 (dO s.fin) := by
      cases e : s.fin with
      | none => exact .none
      | some t =>
        have y := S.fin t e
        exact .str (tc _ y.2) (by omega)
    have wl := S.len
    exact (Any.tup (k := 2) (AnyA.cons (Any.tup w) (AnyA.cons (M' := 0) f .nil))).le (Nat.le_refl _) (Nat.le_refl _) (by omega)
  exact (Any.tup (k := 4) (AnyA.cons e1 (AnyA.cons e2 (AnyA.cons (M' := 0) (Any.tup (any_map e3)) .nil)))).le (Nat.le_refl _) (Nat.le_refl _) (by omega)
end
end Kx

-- @zip2
-- @any
namespace Kx
open PySem PySem.Spec PyProof.Rows L2 Fo Px TL
section
variable {P : Program} {w : World} {K : PySem.W.Frag} {mg : Str → Option Value} {base : Heap}
def fitD : PyData → PyData → Bool
  | .tuple [_, t, _], .tuple [r, _, _] => (txS t).all fun c => decide (c ∈ txS r)
  | _, _ => false
def isRow : PyData → Bool
  | .tuple rs => ((decide (1 ≤ rs.length) && decide (rs.length ≤ 3)) && rs.all isRdr) && (rs.zip (rs.drop 1)).all fun p => fitD p.1 p.2
  | _ => false
def headC : PyData → Cs
  | .tuple (.tuple (.str z :: _) :: _) => tl z
  | _ => []
def isWeb : PyData → Bool
  | .tuple ws => ((decide (1 ≤ ws.length) && decide (ws.length ≤ 3)) && ws.all isRow) && ws.all fun r => decide (headC r = headC (ws.headD .none))
  | _ => false
theorem isRdr_ex {x : PyData} (h : isRdr x = true) : ∃ a b c, x = .tuple [dT a, dT b, c] := by
  unfold isRdr at h
  split at h
  · rename_i a b ss
    rw [Bool.and_eq_true, Bool.and_eq_true] at h
    obtain ⟨ga, rfl, _⟩ := isSig_str h.1.1
    obtain ⟨gb, rfl, _⟩ := isSig_str h.1.2
    exact ⟨ga, gb, _, rfl⟩
  · cases h
theorem isRow_ex {x : PyData} (h : isRow x = true) : ∃ a b c rs, x = .tuple (.tuple [dT a, dT b, c] :: rs) := by
  unfold isRow at h
  split at h
  · rename_i rs
    rw [Bool.and_eq_true, Bool.and_eq_true, Bool.and_eq_true] at h
    have l1 := of_decide_eq_true h.1.1.1
    cases rs with
    | nil => exact absurd l1 (by decide)
    | cons r rs =>
      obtain ⟨a, b, c, rfl⟩ := isRdr_ex (List.all_eq_true.mp h.1.2 r (List.mem_cons_self ..))
      exact ⟨a, b, c, rs, rfl⟩
  · cases h
theorem isRow_no {x : PyData} (h : isTup 1 3 x = false) : isRow x = false := by
  cases x with
  | tuple rs =>
    have h : (decide (1 ≤ rs.length) && decide (rs.length ≤ 3)) = false := h
    show ((_ && _) && _) = false
    rw [h, Bool.false_and, Bool.false_and]
  | _ => rfl
theorem isWeb_no {x : PyData} (h : isTup 1 3 x = false) : isWeb x = false := by
  cases x with
  | tuple rs =>
    have h : (decide (1 ≤ rs.length) && decide (rs.length ≤ 3)) = false := h
    show ((_ && _) && _) = false
    rw [h, Bool.false_and, Bool.false_and]
  | _ => rfl
theorem zip_mem {rs : List PyData} {p : PyData × PyData} (h : p ∈ rs.zip (rs.drop 1)) : p.1 ∈ rs ∧ p.2 ∈ rs :=
  ⟨(List.of_mem_zip h).1, List.mem_of_mem_drop (List.of_mem_zip h).2⟩
theorem at0 {x : PyData} {xs : List PyData} : atI (x :: xs) 0 = some x := atI_nat (j := 0) rfl
def c_fits : Ct := fun as Q => ∃ (x y : PyData), as = [.d x, .d y] ∧ isRdr x = true ∧ isRdr y = true ∧ Good x ∧ Q (.d (.bool (fitD x y))) [.un, .un]
theorem x_fits (T : Top K mg) : FnOk P w K mg base CX0 2 T.f_fits T.fd_fits ["ahead", "behind"] (spP c_fits) := by
  have G_is_text := x_txt (P := P) (w := w) (base := base) T
  refine okP T.F_fits sc_fits [false, false] rfl (by decide) (fun as Q h => by obtain ⟨x, y, rfl, _⟩ := h; rfl) (fun cdv A outer s H E hr => ⟨_, (xs_cons (xs_set rfl (ps_set (i := 2) sc_fits.nd rfl (Or.inl rfl) (x_ix (K := K) (pe_ix (kIx K rfl) (x_var (pv 0)) (x_val pe_int (.int _)) (fun _ _ => rfl)))))
    (xs_one (xs_ret (ps_ret (x_call .nil (pe_call G_is_text (hr.mono (by first | decide | omega)) (by rfl) T.g_is_text T.F_is_text.kp T.b_is_text .nil pass0 (xa_cons (x_var (pv 2)) (xa_cons (x_ix (K := K) (pe_ix (kIx K rfl) (x_var (pv 1)) (x_val pe_int (.int _)) (fun _ _ => rfl))) (xa_cons (x_cb (sim_one sim_len) (pe_callB (kLen K rfl) (by rfl) T.m_len PySem.boot_len (xa_cons (x_var (pv 2)) xa_nil))) xa_nil))))))))), fun as Qc hc => ?_⟩)
  obtain ⟨x, y, rfl, h1, h2, G, q⟩ := hc
  obtain ⟨a, b, c, rfl⟩ := isRdr_ex h1
  obtain ⟨a', b', c', rfl⟩ := isRdr_ex h2
  have Gb := G.three.2.1
  have lb := Gb.txt.1
  rw [tl_tx] at lb
  have q : Qc (.d (.bool ((tl (tx b)).all fun c => decide (c ∈ tl (tx a'))))) _ := q
  rw [tl_tx, tl_tx] at q
  ((conv => whnf); repeat ((first | refine ⟨_, rfl, ?_⟩ | refine ⟨Nat.le_of_ble_eq_true rfl, ?_⟩ | refine ⟨rfl, ?_⟩ | refine ⟨_, _, rfl, rfl, ?_⟩ | refine ⟨_, _, _, _, rfl, rfl, rfl, ?_⟩); conv => whnf))
  refine ⟨by show b.length ≤ _; omega, ?_⟩
  ((conv => whnf); repeat ((first | refine ⟨_, rfl, ?_⟩ | refine ⟨Nat.le_of_ble_eq_true rfl, ?_⟩ | refine ⟨rfl, ?_⟩ | refine ⟨_, _, rfl, rfl, ?_⟩ | refine ⟨_, _, _, _, rfl, rfl, rfl, ?_⟩); conv => whnf))
  refine ⟨dT b, a', b.length, rfl, Gb, ?_⟩
  refine okD' ?_ q
  show (decide ((tl (tx b)).length ≤ b.length) && (tl (tx b)).all fun c => decide (c ∈ a')) = _
  rw [tl_tx, decide_eq_true (Nat.le_refl _), Bool.true_and]
def c_row : Ct := fun as Q => ∃ (x : PyData), as = [.d x] ∧ Good x ∧ Q (.d (.bool (isRow x))) [.un]
theorem x_row (T : Top K mg) : FnOk P w K mg base CX0 5 T.f_is_row T.fd_is_row ["thing"] (spP c_row) := by
  have G_is_tuple := x_isTup (P := P) (w := w) (base := base) T
  have G_is_reader := x_rdr (P := P) (w := w) (base := base) T
  have G_fits := x_fits (P := P) (w := w) (base := base) T
  refine okP T.F_is_row sc_is_row [false] rfl (by decide) (fun as Q h => by obtain ⟨x, rfl, _⟩ := h; rfl) (fun cdv A outer s H E hr => ⟨_, (xs_cons (xs_if (xt_not (xt_val (x_call .nil (pe_call G_is_tuple (hr.mono (by first | decide | omega)) (by rfl) T.g_is_tuple T.F_is_tuple.kp T.b_is_tuple .nil pass0 (xa_cons (x_var (pv 0)) (xa_cons (x_val pe_int (.int _)) (xa_cons (x_val (pe_globI (by rfl) T.m_MOST_READERS) (.int _)) xa_nil))))))) (xs_one (xs_ret (ps_ret (x_val pe_bl (.bl _))))) xs_nil)
    (xs_cons (xs_if (xt_not (xt_val (x_cb (sim_one sim_all) (pe_callB (kAll K rfl rfl) (by rfl) T.m_all (by decide +kernel) (xa_cons (x_lc0 (pe_lc (own := [("part", 3)]) (tt := tYes) rfl sc_is_row.nd (xi_val K rfl (x_var (pv 0))) (blkOk_by (N := ["thing", "ahead", "behind", "part"]) (sc := (defScope s_is_row)) (by decide +kernel)) (fun _ _ _ _ _ => (xg_name rfl (pg_name (i := 3) sc_is_row.nd rfl (Or.inl rfl)))) (fun _ _ _ _ _ => pts_nil) (fun _ _ _ _ _ => (x_call .nil (pe_call G_is_reader (hr.mono (by first | decide | omega)) (by rfl) T.g_is_reader T.F_is_reader.kp T.b_is_reader .nil pass0 (xa_cons (x_var (pv 3)) xa_nil)))))) xa_nil))))) (xs_one (xs_ret (ps_ret (x_val pe_bl (.bl _))))) xs_nil)
    (xs_one (xs_ret (ps_ret (x_cb (sim_one sim_all) (pe_callB (kAll K rfl rfl) (by rfl) T.m_all (by decide +kernel) (xa_cons (x_lc0 (pe_lc (own := [("ahead", 1), ("behind", 2)]) (tt := tYes) rfl sc_is_row.nd (xi_zip (K := K) (pi_zip2 K rfl (by rfl) T.m_zip (xa_cons (x_var (pv 0)) (xa_cons (x_slice (K := K) (pe_slice (kSl K rfl) (x_var (pv 0)) (xo_some (x_val pe_int (.int _))) xo_none)) xa_nil)))) (blkOk_by (N := ["thing", "ahead", "behind", "part"]) (sc := (defScope s_is_row)) (by decide +kernel)) (fun _ _ _ _ _ => (xg_tup rfl (kTg K rfl (n := 2) rfl (xgs_cons (xg_name rfl (pg_name (i := 1) sc_is_row.nd rfl (Or.inl rfl))) (xgs_cons (xg_name rfl (pg_name (i := 2) sc_is_row.nd rfl (Or.inl rfl))) xgs_nil))))) (fun _ _ _ _ _ => pts_nil) (fun _ _ _ _ _ => (x_call .nil (pe_call G_fits (hr.mono (by first | decide | omega)) (by rfl) T.g_fits T.F_fits.kp T.b_fits .nil pass0 (xa_cons (x_var (pv 1)) (xa_cons (x_var (pv 2)) xa_nil))))))) xa_nil)))))))), fun as Qc hc => ?_⟩)
  obtain ⟨x, rfl, G, q⟩ := hc
  ((conv => whnf); repeat ((first | refine ⟨_, rfl, ?_⟩ | refine ⟨Nat.le_of_ble_eq_true rfl, ?_⟩ | refine ⟨rfl, ?_⟩ | refine ⟨_, _, rfl, rfl, ?_⟩ | refine ⟨_, _, _, _, rfl, rfl, rfl, ?_⟩); conv => whnf))
  refine ⟨x, 1, 3, rfl, ?_⟩
  ((conv => whnf); repeat ((first | refine ⟨_, rfl, ?_⟩ | refine ⟨Nat.le_of_ble_eq_true rfl, ?_⟩ | refine ⟨rfl, ?_⟩ | refine ⟨_, _, rfl, rfl, ?_⟩ | refine ⟨_, _, _, _, rfl, rfl, rfl, ?_⟩); conv => whnf))
  cases h : isTup 1 3 x with
  | false =>
    rw [isRow_no h] at q
    ((conv => whnf); repeat ((first | refine ⟨_, rfl, ?_⟩ | refine ⟨Nat.le_of_ble_eq_true rfl, ?_⟩ | refine ⟨rfl, ?_⟩ | refine ⟨_, _, rfl, rfl, ?_⟩ | refine ⟨_, _, _, _, rfl, rfl, rfl, ?_⟩); conv => whnf))
    exact q
  | true =>
    obtain ⟨ds, rfl, l1, l3⟩ := isTup_ex h
    have q : Qc (.d (.bool (((decide (1 ≤ ds.length) && decide (ds.length ≤ 3)) && ds.all isRdr) && (ds.zip (ds.drop 1)).all fun p => fitD p.1 p.2))) _ := q
    rw [decide_eq_true l1, decide_eq_true l3] at q
    ((conv => whnf); repeat ((first | refine ⟨_, rfl, ?_⟩ | refine ⟨Nat.le_of_ble_eq_true rfl, ?_⟩ | refine ⟨rfl, ?_⟩ | refine ⟨_, _, rfl, rfl, ?_⟩ | refine ⟨_, _, _, _, rfl, rfl, rfl, ?_⟩); conv => whnf))
    refine lc_of ds id (fun x => .bool (isRdr x)) (List.map_id ds).symm (by omega) (fun x hx R hR => ?_) ?_
    · ((conv => whnf); repeat ((first | refine ⟨_, rfl, ?_⟩ | refine ⟨Nat.le_of_ble_eq_true rfl, ?_⟩ | refine ⟨rfl, ?_⟩ | refine ⟨_, _, rfl, rfl, ?_⟩ | refine ⟨_, _, _, _, rfl, rfl, rfl, ?_⟩); conv => whnf))
      refine ⟨G.sub hx, ?_⟩
      ((conv => whnf); repeat ((first | refine ⟨_, rfl, ?_⟩ | refine ⟨Nat.le_of_ble_eq_true rfl, ?_⟩ | refine ⟨rfl, ?_⟩ | refine ⟨_, _, rfl, rfl, ?_⟩ | refine ⟨_, _, _, _, rfl, rfl, rfl, ?_⟩); conv => whnf))
      exact hR _ rfl
    · ((conv => whnf); repeat ((first | refine ⟨_, rfl, ?_⟩ | refine ⟨Nat.le_of_ble_eq_true rfl, ?_⟩ | refine ⟨rfl, ?_⟩ | refine ⟨_, _, rfl, rfl, ?_⟩ | refine ⟨_, _, _, _, rfl, rfl, rfl, ?_⟩); conv => whnf))
      refine ⟨_, _, rfl, truths_map _ _, ?_⟩
      ((conv => whnf); repeat ((first | refine ⟨_, rfl, ?_⟩ | refine ⟨Nat.le_of_ble_eq_true rfl, ?_⟩ | refine ⟨rfl, ?_⟩ | refine ⟨_, _, rfl, rfl, ?_⟩ | refine ⟨_, _, _, _, rfl, rfl, rfl, ?_⟩); conv => whnf))
      have ea : (ds.map isRdr).all id = ds.all isRdr := by rw [List.all_map]; rfl
      rw [ea]
      cases hw : ds.all isRdr with
      | false =>
        rw [hw] at q
        ((conv => whnf); repeat ((first | refine ⟨_, rfl, ?_⟩ | refine ⟨Nat.le_of_ble_eq_true rfl, ?_⟩ | refine ⟨rfl, ?_⟩ | refine ⟨_, _, rfl, rfl, ?_⟩ | refine ⟨_, _, _, _, rfl, rfl, rfl, ?_⟩); conv => whnf))
        exact q
      | true =>
        rw [hw] at q
        have ok : ∀ y ∈ ds, isRdr y = true := List.all_eq_true.mp hw
        ((conv => whnf); repeat ((first | refine ⟨_, rfl, ?_⟩ | refine ⟨Nat.le_of_ble_eq_true rfl, ?_⟩ | refine ⟨rfl, ?_⟩ | refine ⟨_, _, rfl, rfl, ?_⟩ | refine ⟨_, _, _, _, rfl, rfl, rfl, ?_⟩); conv => whnf))
        refine lc_of (ds.zip (ds.drop 1)) (fun p => .tuple [p.1, p.2]) (fun p => .bool (fitD p.1 p.2)) ?_ (by rw [List.length_zip]; omega) (fun p hp R hR => ?_) ?_
        · have := pairs_zip (f := id) (g := id) ds (ds.drop 1)
          rw [List.map_id, List.map_id] at this
          rw [show (1 : Int) = ((1 : Nat) : Int) from rfl, cut_from]
          exact this
        · have pm := zip_mem hp
          ((conv => whnf); repeat ((first | refine ⟨_, rfl, ?_⟩ | refine ⟨Nat.le_of_ble_eq_true rfl, ?_⟩ | refine ⟨rfl, ?_⟩ | refine ⟨_, _, rfl, rfl, ?_⟩ | refine ⟨_, _, _, _, rfl, rfl, rfl, ?_⟩); conv => whnf))
          refine ⟨p.1, p.2, rfl, ok _ pm.1, ok _ pm.2, G.sub pm.1, ?_⟩
          ((conv => whnf); repeat ((first | refine ⟨_, rfl, ?_⟩ | refine ⟨Nat.le_of_ble_eq_true rfl, ?_⟩ | refine ⟨rfl, ?_⟩ | refine ⟨_, _, rfl, rfl, ?_⟩ | refine ⟨_, _, _, _, rfl, rfl, rfl, ?_⟩); conv => whnf))
          exact hR _ rfl
        · ((conv => whnf); repeat ((first | refine ⟨_, rfl, ?_⟩ | refine ⟨Nat.le_of_ble_eq_true rfl, ?_⟩ | refine ⟨rfl, ?_⟩ | refine ⟨_, _, rfl, rfl, ?_⟩ | refine ⟨_, _, _, _, rfl, rfl, rfl, ?_⟩); conv => whnf))
          refine ⟨_, _, rfl, truths_map _ _, ?_⟩
          ((conv => whnf); repeat ((first | refine ⟨_, rfl, ?_⟩ | refine ⟨Nat.le_of_ble_eq_true rfl, ?_⟩ | refine ⟨rfl, ?_⟩ | refine ⟨_, _, rfl, rfl, ?_⟩ | refine ⟨_, _, _, _, rfl, rfl, rfl, ?_⟩); conv => whnf))
          refine okB ?_ q
          rw [List.all_map]
          rfl
def c_web : Ct := fun as Q => ∃ (x : PyData), as = [.d x] ∧ Good x ∧ Q (.d (.bool (isWeb x))) [.un]
theorem x_web (T : Top K mg) : FnOk P w K mg base CX0 6 T.f_is_web T.fd_is_web ["thing"] (spP c_web) := by
  have G_is_tuple := x_isTup (P := P) (w := w) (base := base) T
  have G_is_row := x_row (P := P) (w := w) (base := base) T
  refine okP T.F_is_web sc_is_web [false] rfl (by decide) (fun as Q h => by obtain ⟨x, rfl, _⟩ := h; rfl) (fun cdv A outer s H E hr => ⟨_, (xs_cons (xs_if (xt_not (xt_val (x_call .nil (pe_call G_is_tuple (hr.mono (by first | decide | omega)) (by rfl) T.g_is_tuple T.F_is_tuple.kp T.b_is_tuple .nil pass0 (xa_cons (x_var (pv 0)) (xa_cons (x_val pe_int (.int _)) (xa_cons (x_val (pe_globI (by rfl) T.m_MOST_ROWS) (.int _)) xa_nil))))))) (xs_one (xs_ret (ps_ret (x_val pe_bl (.bl _))))) xs_nil)
    (xs_cons (xs_if (xt_not (xt_val (x_cb (sim_one sim_all) (pe_callB (kAll K rfl rfl) (by rfl) T.m_all (by decide +kernel) (xa_cons (x_lc0 (pe_lc (own := [("part", 3)]) (tt := tYes) rfl sc_is_web.nd (xi_val K rfl (x_var (pv 0))) (blkOk_by (N := ["thing", "signs", "row", "part"]) (sc := (defScope s_is_web)) (by decide +kernel)) (fun _ _ _ _ _ => (xg_name rfl (pg_name (i := 3) sc_is_web.nd rfl (Or.inl rfl)))) (fun _ _ _ _ _ => pts_nil) (fun _ _ _ _ _ => (x_call .nil (pe_call G_is_row (hr.mono (by first | decide | omega)) (by rfl) T.g_is_row T.F_is_row.kp T.b_is_row .nil pass0 (xa_cons (x_var (pv 3)) xa_nil)))))) xa_nil))))) (xs_one (xs_ret (ps_ret (x_val pe_bl (.bl _))))) xs_nil)
    (xs_cons (xs_set rfl (ps_set (i := 1) sc_is_web.nd rfl (Or.inr rfl) (x_ix (K := K) (pe_ix (kIx K rfl) (x_ix (K := K) (pe_ix (kIx K rfl) (x_ix (K := K) (pe_ix (kIx K rfl) (x_var (pv 0)) (x_val pe_int (.int _)) (fun _ _ => rfl))) (x_val pe_int (.int _)) (fun _ _ => rfl))) (x_val pe_int (.int _)) (fun _ _ => rfl)))))
    (xs_one (xs_ret (ps_ret (x_cb (sim_one sim_all) (pe_callB (kAll K rfl rfl) (by rfl) T.m_all (by decide +kernel) (xa_cons (x_lc0 (pe_lc (own := [("row", 2)]) (tt := tYes) rfl sc_is_web.nd (xi_val K rfl (x_var (pv 0))) (blkOk_by (N := ["thing", "signs", "row", "part"]) (sc := (defScope s_is_web)) (by decide +kernel)) (fun _ _ _ _ _ => (xg_name rfl (pg_name (i := 2) sc_is_web.nd rfl (Or.inl rfl)))) (fun _ _ _ _ _ => pts_nil) (fun _ _ _ _ _ => (x_cmp sim_eq (kEq K rfl hr.units) (x_ix (K := K) (pe_ix (kIx K rfl) (x_ix (K := K) (pe_ix (kIx K rfl) (x_var (pv 2)) (x_val pe_int (.int _)) (fun _ _ => rfl))) (x_val pe_int (.int _)) (fun _ _ => rfl))) (x_var (pv 1)) (nomark _))))) xa_nil))))))))), fun as Qc hc => ?_⟩)
  obtain ⟨x, rfl, G, q⟩ := hc
  ((conv => whnf); repeat ((first | refine ⟨_, rfl, ?_⟩ | refine ⟨Nat.le_of_ble_eq_true rfl, ?_⟩ | refine ⟨rfl, ?_⟩ | refine ⟨_, _, rfl, rfl, ?_⟩ | refine ⟨_, _, _, _, rfl, rfl, rfl, ?_⟩); conv => whnf))
  refine ⟨x, 1, 3, rfl, ?_⟩
  ((conv => whnf); repeat ((first | refine ⟨_, rfl, ?_⟩ | refine ⟨Nat.le_of_ble_eq_true rfl, ?_⟩ | refine ⟨rfl, ?_⟩ | refine ⟨_, _, rfl, rfl, ?_⟩ | refine ⟨_, _, _, _, rfl, rfl, rfl, ?_⟩); conv => whnf))
  cases h : isTup 1 3 x with
  | false =>
    rw [isWeb_no h] at q
    ((conv => whnf); repeat ((first | refine ⟨_, rfl, ?_⟩ | refine ⟨Nat.le_of_ble_eq_true rfl, ?_⟩ | refine ⟨rfl, ?_⟩ | refine ⟨_, _, rfl, rfl, ?_⟩ | refine ⟨_, _, _, _, rfl, rfl, rfl, ?_⟩); conv => whnf))
    exact q
  | true =>
    obtain ⟨ds, rfl, l1, l3⟩ := isTup_ex h
    have q : Qc (.d (.bool (((decide (1 ≤ ds.length) && decide (ds.length ≤ 3)) && ds.all isRow) && ds.all fun r => decide (headC r = headC (ds.headD .none))))) _ := q
    rw [decide_eq_true l1, decide_eq_true l3] at q
    ((conv => whnf); repeat ((first | refine ⟨_, rfl, ?_⟩ | refine ⟨Nat.le_of_ble_eq_true rfl, ?_⟩ | refine ⟨rfl, ?_⟩ | refine ⟨_, _, rfl, rfl, ?_⟩ | refine ⟨_, _, _, _, rfl, rfl, rfl, ?_⟩); conv => whnf))
    refine lc_of ds id (fun x => .bool (isRow x)) (List.map_id ds).symm (by omega) (fun x hx R hR => ?_) ?_
    · ((conv => whnf); repeat ((first | refine ⟨_, rfl, ?_⟩ | refine ⟨Nat.le_of_ble_eq_true rfl, ?_⟩ | refine ⟨rfl, ?_⟩ | refine ⟨_, _, rfl, rfl, ?_⟩ | refine ⟨_, _, _, _, rfl, rfl, rfl, ?_⟩); conv => whnf))
      refine ⟨G.sub hx, ?_⟩
      ((conv => whnf); repeat ((first | refine ⟨_, rfl, ?_⟩ | refine ⟨Nat.le_of_ble_eq_true rfl, ?_⟩ | refine ⟨rfl, ?_⟩ | refine ⟨_, _, rfl, rfl, ?_⟩ | refine ⟨_, _, _, _, rfl, rfl, rfl, ?_⟩); conv => whnf))
      exact hR _ rfl
    · ((conv => whnf); repeat ((first | refine ⟨_, rfl, ?_⟩ | refine ⟨Nat.le_of_ble_eq_true rfl, ?_⟩ | refine ⟨rfl, ?_⟩ | refine ⟨_, _, rfl, rfl, ?_⟩ | refine ⟨_, _, _, _, rfl, rfl, rfl, ?_⟩); conv => whnf))
      refine ⟨_, _, rfl, truths_map _ _, ?_⟩
      ((conv => whnf); repeat ((first | refine ⟨_, rfl, ?_⟩ | refine ⟨Nat.le_of_ble_eq_true rfl, ?_⟩ | refine ⟨rfl, ?_⟩ | refine ⟨_, _, rfl, rfl, ?_⟩ | refine ⟨_, _, _, _, rfl, rfl, rfl, ?_⟩); conv => whnf))
      have ea : (ds.map isRow).all id = ds.all isRow := by rw [List.all_map]; rfl
      rw [ea]
      cases hw : ds.all isRow with
      | false =>
        rw [hw] at q
        ((conv => whnf); repeat ((first | refine ⟨_, rfl, ?_⟩ | refine ⟨Nat.le_of_ble_eq_true rfl, ?_⟩ | refine ⟨rfl, ?_⟩ | refine ⟨_, _, rfl, rfl, ?_⟩ | refine ⟨_, _, _, _, rfl, rfl, rfl, ?_⟩); conv => whnf))
        exact q
      | true =>
        rw [hw] at q
        have ok : ∀ y ∈ ds, isRow y = true := List.all_eq_true.mp hw
        obtain ⟨d0, ds', rfl⟩ : ∃ d0 ds', ds = d0 :: ds' := by
          cases ds with
          | nil => exact absurd l1 (by decide)
          | cons d ds => exact ⟨d, ds, rfl⟩
        obtain ⟨a, b, c, rs, rfl⟩ := isRow_ex (ok d0 (List.mem_cons_self ..))
        have q : Qc (.d (.bool ((PyData.tuple (.tuple [dT a, dT b, c] :: rs) :: ds').all fun r => decide (headC r = tl (tx a))))) _ := q
        rw [tl_tx] at q
        generalize hds : PyData.tuple (.tuple [dT a, dT b, c] :: rs) :: ds' = ds at ok q l3
        ((conv => whnf); repeat ((first | refine ⟨_, rfl, ?_⟩ | refine ⟨Nat.le_of_ble_eq_true rfl, ?_⟩ | refine ⟨rfl, ?_⟩ | refine ⟨_, _, rfl, rfl, ?_⟩ | refine ⟨_, _, _, _, rfl, rfl, rfl, ?_⟩); conv => whnf))
        refine ⟨.tuple (.tuple [dT a, dT b, c] :: rs), by rw [← hds]; exact at0, ?_⟩
        ((conv => whnf); repeat ((first | refine ⟨_, rfl, ?_⟩ | refine ⟨Nat.le_of_ble_eq_true rfl, ?_⟩ | refine ⟨rfl, ?_⟩ | refine ⟨_, _, rfl, rfl, ?_⟩ | refine ⟨_, _, _, _, rfl, rfl, rfl, ?_⟩); conv => whnf))
        refine ⟨_, at0, ?_⟩
        ((conv => whnf); repeat ((first | refine ⟨_, rfl, ?_⟩ | refine ⟨Nat.le_of_ble_eq_true rfl, ?_⟩ | refine ⟨rfl, ?_⟩ | refine ⟨_, _, rfl, rfl, ?_⟩ | refine ⟨_, _, _, _, rfl, rfl, rfl, ?_⟩); conv => whnf))
        refine lc_of ds id (fun x => .bool (decide (headC x = a))) (List.map_id ds).symm (by omega) (fun x hx R hR => ?_) ?_
        · obtain ⟨a2, b2, c2, rs2, rfl⟩ := isRow_ex (ok x hx)
          ((conv => whnf); repeat ((first | refine ⟨_, rfl, ?_⟩ | refine ⟨Nat.le_of_ble_eq_true rfl, ?_⟩ | refine ⟨rfl, ?_⟩ | refine ⟨_, _, rfl, rfl, ?_⟩ | refine ⟨_, _, _, _, rfl, rfl, rfl, ?_⟩); conv => whnf))
          refine ⟨_, at0, ?_⟩
          ((conv => whnf); repeat ((first | refine ⟨_, rfl, ?_⟩ | refine ⟨Nat.le_of_ble_eq_true rfl, ?_⟩ | refine ⟨rfl, ?_⟩ | refine ⟨_, _, rfl, rfl, ?_⟩ | refine ⟨_, _, _, _, rfl, rfl, rfl, ?_⟩); conv => whnf))
          refine okB ?_ (hR _ rfl)
          show _ = decide (tl (tx a2) = a)
          rw [Bool.false_xor, tl_tx, tl_tx]
        · ((conv => whnf); repeat ((first | refine ⟨_, rfl, ?_⟩ | refine ⟨Nat.le_of_ble_eq_true rfl, ?_⟩ | refine ⟨rfl, ?_⟩ | refine ⟨_, _, rfl, rfl, ?_⟩ | refine ⟨_, _, _, _, rfl, rfl, rfl, ?_⟩); conv => whnf))
          refine ⟨_, _, rfl, truths_map _ _, ?_⟩
          ((conv => whnf); repeat ((first | refine ⟨_, rfl, ?_⟩ | refine ⟨Nat.le_of_ble_eq_true rfl, ?_⟩ | refine ⟨rfl, ?_⟩ | refine ⟨_, _, rfl, rfl, ?_⟩ | refine ⟨_, _, _, _, rfl, rfl, rfl, ?_⟩); conv => whnf))
          refine okB ?_ q
          rw [List.all_map]
          rfl
end
end Kx

-- @zip2
-- @any
namespace Kx
open PySem PySem.Spec PyProof.Rows L2 Fo Px TL
section
variable {P : Program} {w : World} {K : PySem.W.Frag} {mg : Str → Option Value} {base : Heap}
theorem inD_all {α : Type} (p : α → Bool) : ∀ l : List α, inD (.bool false) (l.map fun x => .bool (p x)) = !(l.all p)
  | [] => rfl
  | a :: l => by
    have ih := inD_all p l
    unfold inD at ih ⊢
    rw [List.map_cons, List.any_cons, ih, List.all_cons]
    cases p a <;> simp [PyData.eqv]
def c_lrow : Ct := fun as Q => ∃ (x : PyData), as = [.d x] ∧ Good x ∧ Q (.d (.bool (isRow x))) [.un]
theorem x_lrow (T : Top K mg) : FnOk P w K mg base CX0 4 T.f__law_is_row T.fd__law_is_row ["thing"] (spP c_lrow) := by
  have G__law_is_reader := x_lrdr (P := P) (w := w) (base := base) T
  refine okP T.F__law_is_row sc__law_is_row [false] rfl (by decide) (fun as Q h => by obtain ⟨x, rfl, _⟩ := h; rfl) (fun cdv A outer s H E hr => ⟨_, (xs_cons (xs_if (PW.pt (xw_or (xt_not (xt_val (x_cb (sim_two sim_isi) (pe_callB (kIsi K rfl) (by rfl) T.m_isinstance (by decide +kernel) (xa_cons (x_var (pv 0)) (xa_cons (x_ty (pe_bltn (v := .ty "tuple") (by rfl) T.m_tuple (by decide +kernel) rfl)) xa_nil)))))) (xw_or (xt_not (xt_chain sim_cmp sim_cmp (pt_chain op_leP op_leP (x_val pe_int (.int _)) (x_cb (sim_one sim_len) (pe_callB (kLen K rfl) (by rfl) T.m_len PySem.boot_len (xa_cons (x_var (pv 0)) xa_nil))) (x_val pe_int (.int _))))) (xw_or1 (xt_cmp sim_in (kIn K rfl) (x_val pe_bl (.bl _)) (x_lc0 (pe_lc (own := [("one", 3)]) (tt := tYes) rfl sc__law_is_row.nd (xi_val K rfl (x_var (pv 0))) (blkOk_by (N := ["thing", "ahead", "after", "one", "sign"]) (sc := (defScope s__law_is_row)) (by decide +kernel)) (fun _ _ _ _ _ => (xg_name rfl (pg_name (i := 3) sc__law_is_row.nd rfl (Or.inl rfl)))) (fun _ _ _ _ _ => pts_nil) (fun _ _ _ _ _ => (x_call .nil (pe_call G__law_is_reader (hr.mono (by first | decide | omega)) (by rfl) T.g__law_is_reader T.F__law_is_reader.kp T.b__law_is_reader .nil pass0 (xa_cons (x_var (pv 3)) xa_nil)))))) rfl))))) (xs_one (xs_ret (ps_ret (x_val pe_bl (.bl _))))) xs_nil)
    (xs_cons (xs_for (ps_for PassesOwn.never rfl (xi_zip (K := K) (pi_zip2 K rfl (by rfl) T.m_zip (xa_cons (x_var (pv 0)) (xa_cons (x_slice (K := K) (pe_slice (kSl K rfl) (x_var (pv 0)) (xo_some (x_val pe_int (.int _))) xo_none)) xa_nil)))) (xg_tup rfl (kTg K rfl (n := 2) rfl (xgs_cons (xg_name rfl (pg_name (i := 1) sc__law_is_row.nd rfl (Or.inl rfl))) (xgs_cons (xg_name rfl (pg_name (i := 2) sc__law_is_row.nd rfl (Or.inr rfl))) xgs_nil)))) (xs_one (xs_if (xt_cmp sim_eqL0 (op_neL0 (un0 hr)) (x_lc (pe_lc (own := [("sign", 4)]) rfl sc__law_is_row.nd (xi_val K rfl (x_ix (K := K) (pe_ix (kIx K rfl) (x_var (pv 1)) (x_val pe_int (.int _)) (fun _ _ => rfl)))) (blkOk_by (N := ["thing", "ahead", "after", "one", "sign"]) (sc := (defScope s__law_is_row)) (by decide +kernel)) (fun _ _ _ _ _ => (xg_name rfl (pg_name (i := 4) sc__law_is_row.nd rfl (Or.inl rfl)))) (fun _ _ _ _ _ => pts_one (xt_cmp sim_nin (kNin K rfl) (x_var (pv 4)) (x_ix (K := K) (pe_ix (kIx K rfl) (x_var (pv 2)) (x_val pe_int (.int _)) (fun _ _ => rfl))) rfl)) (fun _ _ _ _ _ => (x_var (pv 4))))) (x_lst (pe_lstN xa_nil)) (nomark _)) (xs_one (xs_ret (ps_ret (x_val pe_bl (.bl _))))) xs_nil))))
    (xs_one (xs_ret (ps_ret (x_val pe_bl (.bl _))))))), fun as Qc hc => ?_⟩)
  obtain ⟨x, rfl, G, q⟩ := hc
  cases x with
  | tuple ds =>
    have q : Qc (.d (.bool (((decide (1 ≤ ds.length) && decide (ds.length ≤ 3)) && ds.all isRdr) && (ds.zip (ds.drop 1)).all fun p => fitD p.1 p.2))) _ := q
    ((conv => whnf); repeat ((first | refine ⟨_, rfl, ?_⟩ | refine ⟨Nat.le_of_ble_eq_true rfl, ?_⟩ | refine ⟨rfl, ?_⟩ | refine ⟨_, _, rfl, rfl, ?_⟩ | refine ⟨_, _, _, _, rfl, rfl, rfl, ?_⟩); conv => whnf))
    by_cases h1 : 1 ≤ ds.length
    · rw [decide_eq_true h1] at q
      refine pickT (yesD (show (1 : Int) ≤ (ds.length : Int) by omega)) ?_
      ((conv => whnf); repeat ((first | refine ⟨_, rfl, ?_⟩ | refine ⟨Nat.le_of_ble_eq_true rfl, ?_⟩ | refine ⟨rfl, ?_⟩ | refine ⟨_, _, rfl, rfl, ?_⟩ | refine ⟨_, _, _, _, rfl, rfl, rfl, ?_⟩); conv => whnf))
      by_cases h3 : ds.length ≤ 3
      · rw [decide_eq_true h3] at q
        refine pickF (nYes (yesD (show (ds.length : Int) ≤ 3 by omega))) ?_
        ((conv => whnf); repeat ((first | refine ⟨_, rfl, ?_⟩ | refine ⟨Nat.le_of_ble_eq_true rfl, ?_⟩ | refine ⟨rfl, ?_⟩ | refine ⟨_, _, rfl, rfl, ?_⟩ | refine ⟨_, _, _, _, rfl, rfl, rfl, ?_⟩); conv => whnf))
        refine lc_of ds id (fun x => .bool (isRdr x)) (List.map_id ds).symm (by omega) (fun x hx R hR => ?_) ?_
        · ((conv => whnf); repeat ((first | refine ⟨_, rfl, ?_⟩ | refine ⟨Nat.le_of_ble_eq_true rfl, ?_⟩ | refine ⟨rfl, ?_⟩ | refine ⟨_, _, rfl, rfl, ?_⟩ | refine ⟨_, _, _, _, rfl, rfl, rfl, ?_⟩); conv => whnf))
          refine ⟨G.sub hx, ?_⟩
          ((conv => whnf); repeat ((first | refine ⟨_, rfl, ?_⟩ | refine ⟨Nat.le_of_ble_eq_true rfl, ?_⟩ | refine ⟨rfl, ?_⟩ | refine ⟨_, _, rfl, rfl, ?_⟩ | refine ⟨_, _, _, _, rfl, rfl, rfl, ?_⟩); conv => whnf))
          exact hR _ rfl
        · ((conv => whnf); repeat ((first | refine ⟨_, rfl, ?_⟩ | refine ⟨Nat.le_of_ble_eq_true rfl, ?_⟩ | refine ⟨rfl, ?_⟩ | refine ⟨_, _, rfl, rfl, ?_⟩ | refine ⟨_, _, _, _, rfl, rfl, rfl, ?_⟩); conv => whnf))
          refine ⟨by rw [List.all_map]; exact List.all_eq_true.mpr fun _ _ => rfl, ?_⟩
          ((conv => whnf); repeat ((first | refine ⟨_, rfl, ?_⟩ | refine ⟨Nat.le_of_ble_eq_true rfl, ?_⟩ | refine ⟨rfl, ?_⟩ | refine ⟨_, _, rfl, rfl, ?_⟩ | refine ⟨_, _, _, _, rfl, rfl, rfl, ?_⟩); conv => whnf))
          rw [inD_all isRdr ds]
          cases hw : ds.all isRdr with
          | false =>
            rw [hw] at q
            ((conv => whnf); repeat ((first | refine ⟨_, rfl, ?_⟩ | refine ⟨Nat.le_of_ble_eq_true rfl, ?_⟩ | refine ⟨rfl, ?_⟩ | refine ⟨_, _, rfl, rfl, ?_⟩ | refine ⟨_, _, _, _, rfl, rfl, rfl, ?_⟩); conv => whnf))
            exact q
          | true =>
            rw [hw] at q
            have ok : ∀ y ∈ ds, isRdr y = true := List.all_eq_true.mp hw
            ((conv => whnf); repeat ((first | refine ⟨_, rfl, ?_⟩ | refine ⟨Nat.le_of_ble_eq_true rfl, ?_⟩ | refine ⟨rfl, ?_⟩ | refine ⟨_, _, rfl, rfl, ?_⟩ | refine ⟨_, _, _, _, rfl, rfl, rfl, ?_⟩); conv => whnf))
            have ez : pairsD ds (Px.cutD ds (some 1) none) = (ds.zip (ds.drop 1)).map fun p => .tuple [p.1, p.2] := by
              have := pairs_zip (f := id) (g := id) ds (ds.drop 1)
              rw [List.map_id, List.map_id] at this
              rw [show (1 : Int) = ((1 : Nat) : Int) from rfl, cut_from]
              exact this
            rw [ez]
            have sub : ∀ p ∈ ds.zip (ds.drop 1), (isRdr p.1 = true ∧ isRdr p.2 = true) ∧ Good p.1 := fun p hp => ⟨⟨ok _ (zip_mem hp).1, ok _ (zip_mem hp).2⟩, G.sub (zip_mem hp).1⟩
            have zl : (ds.zip (ds.drop 1)).length < 16777216 := by rw [List.length_zip]; omega
            generalize ds.zip (ds.drop 1) = L at q sub zl
            refine ForR.mk (fun k S => ∃ y1 y2, S = [.d (.tuple ds), y1, y2, .un, .un] ∧ (L.take k).all (fun p => fitD p.1 p.2) = true) ⟨_, _, rfl, rfl⟩ (fun k x S e j => ?_) (fun S j => ?_)
            · obtain ⟨y1, y2, rfl, al⟩ := j
              obtain ⟨p, ep, rfl⟩ := at_map e
              obtain ⟨⟨r1, r2⟩, Gp⟩ := sub p (List.mem_of_getElem? ep)
              obtain ⟨p1, p2⟩ := p
              obtain ⟨a, b, c, rfl⟩ := isRdr_ex r1
              obtain ⟨a', b', c', rfl⟩ := isRdr_ex r2
              have lb := Gp.three.2.1.txt.1
              rw [tl_tx] at lb
              ((conv => whnf); repeat ((first | refine ⟨_, rfl, ?_⟩ | refine ⟨Nat.le_of_ble_eq_true rfl, ?_⟩ | refine ⟨rfl, ?_⟩ | refine ⟨_, _, rfl, rfl, ?_⟩ | refine ⟨_, _, _, _, rfl, rfl, rfl, ?_⟩); conv => whnf))
              refine lc_fil b (fun c => .str (tx [c])) (fun c => .str (tx [c])) (fun c => !decide (c ∈ a')) rfl (by omega) (fun c hc R N hR hN => ?_) ?_
              · ((conv => whnf); repeat ((first | refine ⟨_, rfl, ?_⟩ | refine ⟨Nat.le_of_ble_eq_true rfl, ?_⟩ | refine ⟨rfl, ?_⟩ | refine ⟨_, _, rfl, rfl, ?_⟩ | refine ⟨_, _, _, _, rfl, rfl, rfl, ?_⟩); conv => whnf))
                have e : (true ^^ decide (c ∈ tl (tx a'))) = !decide (c ∈ a') := by
                  rw [Bool.true_xor]
                  exact congrArg _ (decide_eq_decide.mpr (by rw [tl_tx]))
                rw [e]
                refine pick_of (fun h => ?_) (fun h => ?_)
                · exact hR h _ rfl
                · exact hN h _ rfl
              · ((conv => whnf); repeat ((first | refine ⟨_, rfl, ?_⟩ | refine ⟨Nat.le_of_ble_eq_true rfl, ?_⟩ | refine ⟨rfl, ?_⟩ | refine ⟨_, _, rfl, rfl, ?_⟩ | refine ⟨_, _, _, _, rfl, rfl, rfl, ?_⟩); conv => whnf))
                have ef : ((b.filter fun c => !decide (c ∈ a')).map fun c => PyData.str (tx [c])).isEmpty = fitD (.tuple [dT a, dT b, c]) (.tuple [dT a', dT b', c']) := by
                  show _ = (tl (tx b)).all fun c => decide (c ∈ tl (tx a'))
                  rw [tl_tx, tl_tx, Bool.eq_iff_iff, List.isEmpty_iff, List.map_eq_nil_iff, List.filter_eq_nil_iff, List.all_eq_true]
                  exact forall₂_congr fun c _ => by simp
                rw [ef]
                cases hf : fitD (.tuple [dT a, dT b, c]) (.tuple [dT a', dT b', c']) with
                | false =>
                  have la : (L.all fun p => fitD p.1 p.2) = false := by
                    cases h : L.all fun p => fitD p.1 p.2 with
                    | false => rfl
                    | true => exact absurd (List.all_eq_true.mp h _ (List.mem_of_getElem? ep)) (by rw [hf]; exact Bool.false_ne_true)
                  rw [la] at q
                  ((conv => whnf); repeat ((first | refine ⟨_, rfl, ?_⟩ | refine ⟨Nat.le_of_ble_eq_true rfl, ?_⟩ | refine ⟨rfl, ?_⟩ | refine ⟨_, _, rfl, rfl, ?_⟩ | refine ⟨_, _, _, _, rfl, rfl, rfl, ?_⟩); conv => whnf))
                  exact q
                | true =>
                  ((conv => whnf); repeat ((first | refine ⟨_, rfl, ?_⟩ | refine ⟨Nat.le_of_ble_eq_true rfl, ?_⟩ | refine ⟨rfl, ?_⟩ | refine ⟨_, _, rfl, rfl, ?_⟩ | refine ⟨_, _, _, _, rfl, rfl, rfl, ?_⟩); conv => whnf))
                  refine ⟨_, _, rfl, ?_⟩
                  rw [take_snoc ep, List.all_append, al]
                  show (true && (fitD _ _ && true)) = true
                  rw [hf]
                  rfl
            · obtain ⟨y1, y2, rfl, al⟩ := j
              rw [List.length_map, List.take_length] at al
              rw [al] at q
              ((conv => whnf); repeat ((first | refine ⟨_, rfl, ?_⟩ | refine ⟨Nat.le_of_ble_eq_true rfl, ?_⟩ | refine ⟨rfl, ?_⟩ | refine ⟨_, _, rfl, rfl, ?_⟩ | refine ⟨_, _, _, _, rfl, rfl, rfl, ?_⟩); conv => whnf))
              exact q
      · rw [decide_eq_false h3] at q
        refine pickT (nNo (noD (show ¬ (ds.length : Int) ≤ 3 by omega))) ?_
        ((conv => whnf); repeat ((first | refine ⟨_, rfl, ?_⟩ | refine ⟨Nat.le_of_ble_eq_true rfl, ?_⟩ | refine ⟨rfl, ?_⟩ | refine ⟨_, _, rfl, rfl, ?_⟩ | refine ⟨_, _, _, _, rfl, rfl, rfl, ?_⟩); conv => whnf))
        rw [Bool.and_false] at q
        exact q
    · rw [decide_eq_false h1] at q
      refine pickF (noD (show ¬ (1 : Int) ≤ (ds.length : Int) by omega)) ?_
      ((conv => whnf); repeat ((first | refine ⟨_, rfl, ?_⟩ | refine ⟨Nat.le_of_ble_eq_true rfl, ?_⟩ | refine ⟨rfl, ?_⟩ | refine ⟨_, _, rfl, rfl, ?_⟩ | refine ⟨_, _, _, _, rfl, rfl, rfl, ?_⟩); conv => whnf))
      exact q
  | _ =>
    ((conv => whnf); repeat ((first | refine ⟨_, rfl, ?_⟩ | refine ⟨Nat.le_of_ble_eq_true rfl, ?_⟩ | refine ⟨rfl, ?_⟩ | refine ⟨_, _, rfl, rfl, ?_⟩ | refine ⟨_, _, _, _, rfl, rfl, rfl, ?_⟩); conv => whnf))
    exact q
def c_lweb : Ct := fun as Q => ∃ (x : PyData), as = [.d x] ∧ Good x ∧ Q (.d (.bool (isWeb x))) [.un]
theorem x_lweb (T : Top K mg) : FnOk P w K mg base CX0 5 T.f__law_is_web T.fd__law_is_web ["thing"] (spP c_lweb) := by
  have G__law_is_row := x_lrow (P := P) (w := w) (base := base) T
  refine okP T.F__law_is_web sc__law_is_web [false] rfl (by decide) (fun as Q h => by obtain ⟨x, rfl, _⟩ := h; rfl) (fun cdv A outer s H E hr => ⟨_, (xs_cons (xs_if (PW.pt (xw_or (xt_not (xt_val (x_cb (sim_two sim_isi) (pe_callB (kIsi K rfl) (by rfl) T.m_isinstance (by decide +kernel) (xa_cons (x_var (pv 0)) (xa_cons (x_ty (pe_bltn (v := .ty "tuple") (by rfl) T.m_tuple (by decide +kernel) rfl)) xa_nil)))))) (xw_or (xt_not (xt_chain sim_cmp sim_cmp (pt_chain op_leP op_leP (x_val pe_int (.int _)) (x_cb (sim_one sim_len) (pe_callB (kLen K rfl) (by rfl) T.m_len PySem.boot_len (xa_cons (x_var (pv 0)) xa_nil))) (x_val pe_int (.int _))))) (xw_or1 (xt_cmp sim_in (kIn K rfl) (x_val pe_bl (.bl _)) (x_lc0 (pe_lc (own := [("row", 1)]) (tt := tYes) rfl sc__law_is_web.nd (xi_val K rfl (x_var (pv 0))) (blkOk_by (N := ["thing", "row"]) (sc := (defScope s__law_is_web)) (by decide +kernel)) (fun _ _ _ _ _ => (xg_name rfl (pg_name (i := 1) sc__law_is_web.nd rfl (Or.inl rfl)))) (fun _ _ _ _ _ => pts_nil) (fun _ _ _ _ _ => (x_call .nil (pe_call G__law_is_row (hr.mono (by first | decide | omega)) (by rfl) T.g__law_is_row T.F__law_is_row.kp T.b__law_is_row .nil pass0 (xa_cons (x_var (pv 1)) xa_nil)))))) rfl))))) (xs_one (xs_ret (ps_ret (x_val pe_bl (.bl _))))) xs_nil)
    (xs_one (xs_ret (ps_ret (x_cmp sim_eqL0 (op_eqL0 (un0 hr)) (x_lc (pe_lc (own := [("row", 1)]) rfl sc__law_is_web.nd (xi_val K rfl (x_var (pv 0))) (blkOk_by (N := ["thing", "row"]) (sc := (defScope s__law_is_web)) (by decide +kernel)) (fun _ _ _ _ _ => (xg_name rfl (pg_name (i := 1) sc__law_is_web.nd rfl (Or.inl rfl)))) (fun _ _ _ _ _ => pts_one (xt_cmp sim_ne (kNe K rfl hr.units) (x_ix (K := K) (pe_ix (kIx K rfl) (x_ix (K := K) (pe_ix (kIx K rfl) (x_var (pv 1)) (x_val pe_int (.int _)) (fun _ _ => rfl))) (x_val pe_int (.int _)) (fun _ _ => rfl))) (x_ix (K := K) (pe_ix (kIx K rfl) (x_ix (K := K) (pe_ix (kIx K rfl) (x_ix (K := K) (pe_ix (kIx K rfl) (x_var (pv 0)) (x_val pe_int (.int _)) (fun _ _ => rfl))) (x_val pe_int (.int _)) (fun _ _ => rfl))) (x_val pe_int (.int _)) (fun _ _ => rfl))) (nomark _))) (fun _ _ _ _ _ => (x_var (pv 1))))) (x_lst (pe_lstN xa_nil)) (nomark _)))))), fun as Qc hc => ?_⟩)
  obtain ⟨x, rfl, G, q⟩ := hc
  cases x with
  | tuple ds =>
    have q : Qc (.d (.bool (((decide (1 ≤ ds.length) && decide (ds.length ≤ 3)) && ds.all isRow) && ds.all fun r => decide (headC r = headC (ds.headD .none))))) _ := q
    ((conv => whnf); repeat ((first | refine ⟨_, rfl, ?_⟩ | refine ⟨Nat.le_of_ble_eq_true rfl, ?_⟩ | refine ⟨rfl, ?_⟩ | refine ⟨_, _, rfl, rfl, ?_⟩ | refine ⟨_, _, _, _, rfl, rfl, rfl, ?_⟩); conv => whnf))
    by_cases h1 : 1 ≤ ds.length
    · rw [decide_eq_true h1] at q
      refine pickT (yesD (show (1 : Int) ≤ (ds.length : Int) by omega)) ?_
      ((conv => whnf); repeat ((first | refine ⟨_, rfl, ?_⟩ | refine ⟨Nat.le_of_ble_eq_true rfl, ?_⟩ | refine ⟨rfl, ?_⟩ | refine ⟨_, _, rfl, rfl, ?_⟩ | refine ⟨_, _, _, _, rfl, rfl, rfl, ?_⟩); conv => whnf))
      by_cases h3 : ds.length ≤ 3
      · rw [decide_eq_true h3] at q
        refine pickF (nYes (yesD (show (ds.length : Int) ≤ 3 by omega))) ?_
        ((conv => whnf); repeat ((first | refine ⟨_, rfl, ?_⟩ | refine ⟨Nat.le_of_ble_eq_true rfl, ?_⟩ | refine ⟨rfl, ?_⟩ | refine ⟨_, _, rfl, rfl, ?_⟩ | refine ⟨_, _, _, _, rfl, rfl, rfl, ?_⟩); conv => whnf))
        refine lc_of ds id (fun x => .bool (isRow x)) (List.map_id ds).symm (by omega) (fun x hx R hR => ?_) ?_
        · ((conv => whnf); repeat ((first | refine ⟨_, rfl, ?_⟩ | refine ⟨Nat.le_of_ble_eq_true rfl, ?_⟩ | refine ⟨rfl, ?_⟩ | refine ⟨_, _, rfl, rfl, ?_⟩ | refine ⟨_, _, _, _, rfl, rfl, rfl, ?_⟩); conv => whnf))
          refine ⟨G.sub hx, ?_⟩
          ((conv => whnf); repeat ((first | refine ⟨_, rfl, ?_⟩ | refine ⟨Nat.le_of_ble_eq_true rfl, ?_⟩ | refine ⟨rfl, ?_⟩ | refine ⟨_, _, rfl, rfl, ?_⟩ | refine ⟨_, _, _, _, rfl, rfl, rfl, ?_⟩); conv => whnf))
          exact hR _ rfl
        · ((conv => whnf); repeat ((first | refine ⟨_, rfl, ?_⟩ | refine ⟨Nat.le_of_ble_eq_true rfl, ?_⟩ | refine ⟨rfl, ?_⟩ | refine ⟨_, _, rfl, rfl, ?_⟩ | refine ⟨_, _, _, _, rfl, rfl, rfl, ?_⟩); conv => whnf))
          refine ⟨by rw [List.all_map]; exact List.all_eq_true.mpr fun _ _ => rfl, ?_⟩
          ((conv => whnf); repeat ((first | refine ⟨_, rfl, ?_⟩ | refine ⟨Nat.le_of_ble_eq_true rfl, ?_⟩ | refine ⟨rfl, ?_⟩ | refine ⟨_, _, rfl, rfl, ?_⟩ | refine ⟨_, _, _, _, rfl, rfl, rfl, ?_⟩); conv => whnf))
          rw [inD_all isRow ds]
          cases hw : ds.all isRow with
          | false =>
            rw [hw] at q
            ((conv => whnf); repeat ((first | refine ⟨_, rfl, ?_⟩ | refine ⟨Nat.le_of_ble_eq_true rfl, ?_⟩ | refine ⟨rfl, ?_⟩ | refine ⟨_, _, rfl, rfl, ?_⟩ | refine ⟨_, _, _, _, rfl, rfl, rfl, ?_⟩); conv => whnf))
            exact q
          | true =>
            rw [hw] at q
            have ok : ∀ y ∈ ds, isRow y = true := List.all_eq_true.mp hw
            obtain ⟨d0, ds', rfl⟩ : ∃ d0 ds', ds = d0 :: ds' := by
              cases ds with
              | nil => exact absurd h1 (by decide)
              | cons d ds => exact ⟨d, ds, rfl⟩
            obtain ⟨a, b, c, rs, rfl⟩ := isRow_ex (ok d0 (List.mem_cons_self ..))
            have q : Qc (.d (.bool ((PyData.tuple (.tuple [dT a, dT b, c] :: rs) :: ds').all fun r => decide (headC r = tl (tx a))))) _ := q
            rw [tl_tx] at q
            generalize hds : PyData.tuple (.tuple [dT a, dT b, c] :: rs) :: ds' = ds at ok q h3
            ((conv => whnf); repeat ((first | refine ⟨_, rfl, ?_⟩ | refine ⟨Nat.le_of_ble_eq_true rfl, ?_⟩ | refine ⟨rfl, ?_⟩ | refine ⟨_, _, rfl, rfl, ?_⟩ | refine ⟨_, _, _, _, rfl, rfl, rfl, ?_⟩); conv => whnf))
            refine lc_fil ds id id (fun x => !decide (headC x = a)) (List.map_id ds).symm (by omega) (fun x hx R N hR hN => ?_) ?_
            · obtain ⟨a2, b2, c2, rs2, rfl⟩ := isRow_ex (ok x hx)
              ((conv => whnf); repeat ((first | refine ⟨_, rfl, ?_⟩ | refine ⟨Nat.le_of_ble_eq_true rfl, ?_⟩ | refine ⟨rfl, ?_⟩ | refine ⟨_, _, rfl, rfl, ?_⟩ | refine ⟨_, _, _, _, rfl, rfl, rfl, ?_⟩); conv => whnf))
              refine ⟨_, at0, ?_⟩
              ((conv => whnf); repeat ((first | refine ⟨_, rfl, ?_⟩ | refine ⟨Nat.le_of_ble_eq_true rfl, ?_⟩ | refine ⟨rfl, ?_⟩ | refine ⟨_, _, rfl, rfl, ?_⟩ | refine ⟨_, _, _, _, rfl, rfl, rfl, ?_⟩); conv => whnf))
              refine ⟨.tuple (.tuple [dT a, dT b, c] :: rs), by rw [← hds]; exact at0, ?_⟩
              ((conv => whnf); repeat ((first | refine ⟨_, rfl, ?_⟩ | refine ⟨Nat.le_of_ble_eq_true rfl, ?_⟩ | refine ⟨rfl, ?_⟩ | refine ⟨_, _, rfl, rfl, ?_⟩ | refine ⟨_, _, _, _, rfl, rfl, rfl, ?_⟩); conv => whnf))
              refine ⟨_, at0, ?_⟩
              ((conv => whnf); repeat ((first | refine ⟨_, rfl, ?_⟩ | refine ⟨Nat.le_of_ble_eq_true rfl, ?_⟩ | refine ⟨rfl, ?_⟩ | refine ⟨_, _, rfl, rfl, ?_⟩ | refine ⟨_, _, _, _, rfl, rfl, rfl, ?_⟩); conv => whnf))
              have e : (true ^^ decide (tl (tx a2) = tl (tx a))) = !decide (headC (PyData.tuple (PyData.tuple [dT a2, dT b2, c2] :: rs2)) = a) := by
                show _ = !decide (tl (tx a2) = a)
                rw [Bool.true_xor, tl_tx, tl_tx]
              rw [e]
              refine pick_of (fun h => ?_) (fun h => ?_)
              · exact hR h _ rfl
              · exact hN h _ rfl
            · ((conv => whnf); repeat ((first | refine ⟨_, rfl, ?_⟩ | refine ⟨Nat.le_of_ble_eq_true rfl, ?_⟩ | refine ⟨rfl, ?_⟩ | refine ⟨_, _, rfl, rfl, ?_⟩ | refine ⟨_, _, _, _, rfl, rfl, rfl, ?_⟩); conv => whnf))
              refine okB ?_ q
              rw [Bool.false_xor, Bool.eq_iff_iff, List.isEmpty_iff, List.map_eq_nil_iff, List.filter_eq_nil_iff, List.all_eq_true]
              exact forall₂_congr fun c _ => by simp
      · rw [decide_eq_false h3] at q
        refine pickT (nNo (noD (show ¬ (ds.length : Int) ≤ 3 by omega))) ?_
        ((conv => whnf); repeat ((first | refine ⟨_, rfl, ?_⟩ | refine ⟨Nat.le_of_ble_eq_true rfl, ?_⟩ | refine ⟨rfl, ?_⟩ | refine ⟨_, _, rfl, rfl, ?_⟩ | refine ⟨_, _, _, _, rfl, rfl, rfl, ?_⟩); conv => whnf))
        rw [Bool.and_false] at q
        exact q
    · rw [decide_eq_false h1] at q
      refine pickF (noD (show ¬ (1 : Int) ≤ (ds.length : Int) by omega)) ?_
      ((conv => whnf); repeat ((first | refine ⟨_, rfl, ?_⟩ | refine ⟨Nat.le_of_ble_eq_true rfl, ?_⟩ | refine ⟨rfl, ?_⟩ | refine ⟨_, _, rfl, rfl, ?_⟩ | refine ⟨_, _, _, _, rfl, rfl, rfl, ?_⟩); conv => whnf))
      exact q
  | _ =>
    ((conv => whnf); repeat ((first | refine ⟨_, rfl, ?_⟩ | refine ⟨Nat.le_of_ble_eq_true rfl, ?_⟩ | refine ⟨rfl, ?_⟩ | refine ⟨_, _, rfl, rfl, ?_⟩ | refine ⟨_, _, _, _, rfl, rfl, rfl, ?_⟩); conv => whnf))
    exact q
end
end Kx

namespace Px
open PySem PySem.Spec PyProof.Rows L2 Fo TL
/-! ### calls of a def that shows things -/
section
variable {X : Cx} {CX : CXT} {k : Nat} {f : Addr} {fd : FuncData} {ps : List Str} {ds : List Value} {dvs : List V} {sp : Sp} {E : XK} {x : Str} {e : Expr} {es : List Expr} {p pos : Pos} {t : TA}
theorem run_fnG {pins : List (Addr × Obj)} {σ : L2.St} {H : Hp} {s : Shared} {Q : VK} {us : List Value} {vs : List V} (F : FnG X.prog X.w X.K X.mg X.base CX k f fd ps sp) (calm : X.A.guards = some []) (hr : Room k X.A) (hb : Binds X.K fd ps ds) (hd : Vals dvs ds) (hx : Passes CX X E)
    (I : Inv X pins σ H s) (r : Vals vs us) (h : sp (vs ++ dvs) H Q E) : wpAny (model X.prog X.w) X.A (call (.ref f) us) (EP X pins σ Q) X.xe s := by
  have whole : Vals (vs ++ dvs) (us ++ ds) := r.append hd
  have len : (us ++ ds).length = ps.length := by
    rw [← whole.length]
    exact F.len _ _ _ _ h
  refine wpAny_call (codeAny_mono (F.run X.A calm X.stack s H ⟨us, []⟩ (us ++ ds) (vs ++ dvs) Q E hr I.env0 (hb s us I.kIn len) whole h) fun res s' told => ?_)
  cases res with
  | error err => exact hx pins σ H s err s' I told
  | ok fl =>
    cases fl with
    | ret u => exact I.after told
    | _ => exact told.elim
theorem pe_callG (F : FnG X.prog X.w X.K X.mg X.base CX k f fd ps sp) (calm : X.A.guards = some []) (hr : Room k X.A) (hg : Gl X x) (hm : X.mg x = some (.ref f)) (hk : PySem.W.keepIn X.K (.ref f) = true) (hb : Binds X.K fd ps ds) (hd : Vals dvs ds) (hx : Passes CX X E)
    (ha : PA X (e :: es) t) (hdb : (x == ("__debug__" : Str)) = false := by decide) (he : starEach (e :: es) X.env = (false, eval e X.env) :: starEach es X.env := by rfl) (hpl : (backTo pos (starEach es X.env)).any (·.1) = false := by rfl) :
    PE X (.Call (.Name x p) (e :: es) [] pos) (tCall sp dvs E t) :=
  ⟨fun pins s σ H Q I h => wpAny_Call_Name_kw (ld_glob I hg hm (PySem.W.callWith_K (h₀ := X.base) I.ok.mod.kin hk (thn (ha.run pos pins s σ H _ I h) fun us s1 ⟨vs, H1, I1, r, q⟩ => ⟨I1.kIn, run_fnG F calm hr hb hd hx I1 r q⟩) he hpl) hdb)⟩
end
/-- either of two promises -/
theorem okOr {P : Program} {w : World} {K : PySem.W.Frag} {mg : Str → Option Value} {base : Heap} {CX : CXT} {k : Nat} {f : Addr} {fd : FuncData} {ps : List Str} {c1 c2 : Ct} (F1 : FnOk P w K mg base CX k f fd ps (spP c1)) (F2 : FnOk P w K mg base CX k f fd ps (spP c2)) :
    FnOk P w K mg base CX k f fd ps (spP fun as Q => c1 as Q ∨ c2 as Q) := by
  have h : ∀ {vs H Q E}, spP (fun as Q => c1 as Q ∨ c2 as Q) vs H Q E → spP c1 vs H Q E ∨ spP c2 vs H Q E := fun {vs H Q E} => by
    rintro ⟨F, G, as, Qc, r, o | o, k⟩
    · exact .inl ⟨F, G, as, Qc, r, o, k⟩
    · exact .inr ⟨F, G, as, Qc, r, o, k⟩
  exact ⟨fun vs H Q E q => (h q).elim (F1.len vs H Q E) (F2.len vs H Q E), fun A outer s H args us vs Q E hr he hb hv hs => (h hs).elim (F1.run A outer s H args us vs Q E hr he hb hv) (F2.run A outer s H args us vs Q E hr he hb hv)⟩
end Px

-- @zip2
-- @any
-- @mask _law_shuffled 100
namespace Kx
open PySem PySem.Spec PyProof.Rows L2 Fo Px TL
section
variable {P : Program} {w : World} {K : PySem.W.Frag} {mg : Str → Option Value} {base : Heap}
def c_tupL : Ct := fun as Q => ∃ (ds : List PyData) (a b : Nat), as = [.l ds, .d (.int (a : Int)), .d (.int (b : Int))] ∧ Q (.d (.bool false)) [.un, .un, .un]
theorem x_isTupL (T : Top K mg) : FnOk P w K mg base CX0 1 T.f_is_tuple T.fd_is_tuple ["thing", "least", "most"] (spP c_tupL) := by
  refine okP T.F_is_tuple sc_is_tuple [false, false, false] rfl (by decide) (fun as Q h => by obtain ⟨ds, a, b, rfl, _⟩ := h; rfl) (fun cdv A outer s H E hr => ⟨_, (xs_one (xs_ret (ps_ret (x_and (x_cb (sim_two sim_isi) (pe_callB (kIsi K rfl) (by rfl) T.m_isinstance (by decide +kernel) (xa_cons (x_var (pv 0)) (xa_cons (x_ty (pe_bltn (v := .ty "tuple") (by rfl) T.m_tuple (by decide +kernel) rfl)) xa_nil)))) (x_one (x_chain sim_cmp sim_cmp (pe_chain op_leP op_leP (x_var (pv 1)) (x_cb (sim_one sim_len) (pe_callB (kLen K rfl) (by rfl) T.m_len PySem.boot_len (xa_cons (x_var (pv 0)) xa_nil))) (x_var (pv 2))))))))), fun as Qc hc => ?_⟩)
  obtain ⟨ds, a, b, rfl, q⟩ := hc
  ((conv => whnf); repeat ((first | refine ⟨_, rfl, ?_⟩ | refine ⟨Nat.le_of_ble_eq_true rfl, ?_⟩ | refine ⟨rfl, ?_⟩ | refine ⟨_, _, rfl, rfl, ?_⟩ | refine ⟨_, _, _, _, rfl, rfl, rfl, ?_⟩); conv => whnf))
  exact q
def c_rowL : Ct := fun as Q => ∃ (ds : List PyData), as = [.l ds] ∧ Q (.d (.bool false)) [.un]
theorem x_rowL (T : Top K mg) : FnOk P w K mg base CX0 5 T.f_is_row T.fd_is_row ["thing"] (spP c_rowL) := by
  have G_is_tuple := x_isTupL (P := P) (w := w) (base := base) T
  have G_is_reader := fnNo (P := P) (w := w) (K := K) (mg := mg) (base := base) (k := 4) (f := T.f_is_reader) (fd := T.fd_is_reader) (ps := ["thing"])
  have G_fits := fnNo (P := P) (w := w) (K := K) (mg := mg) (base := base) (k := 2) (f := T.f_fits) (fd := T.fd_fits) (ps := ["ahead", "behind"])
  refine okP T.F_is_row sc_is_row [false] rfl (by decide) (fun as Q h => by obtain ⟨ds, rfl, _⟩ := h; rfl) (fun cdv A outer s H E hr => ⟨_, (xs_cons (xs_if (xt_not (xt_val (x_call .nil (pe_call G_is_tuple (hr.mono (by first | decide | omega)) (by rfl) T.g_is_tuple T.F_is_tuple.kp T.b_is_tuple .nil pass0 (xa_cons (x_var (pv 0)) (xa_cons (x_val pe_int (.int _)) (xa_cons (x_val (pe_globI (by rfl) T.m_MOST_READERS) (.int _)) xa_nil))))))) (xs_one (xs_ret (ps_ret (x_val pe_bl (.bl _))))) xs_nil)
    (xs_cons (xs_if (xt_not (xt_val (x_cb (sim_one sim_all) (pe_callB (kAll K rfl rfl) (by rfl) T.m_all (by decide +kernel) (xa_cons (x_lc0 (pe_lc (own := [("part", 3)]) (tt := tYes) rfl sc_is_row.nd (xi_val K rfl (x_var (pv 0))) (blkOk_by (N := ["thing", "ahead", "behind", "part"]) (sc := (defScope s_is_row)) (by decide +kernel)) (fun _ _ _ _ _ => (xg_name rfl (pg_name (i := 3) sc_is_row.nd rfl (Or.inl rfl)))) (fun _ _ _ _ _ => pts_nil) (fun _ _ _ _ _ => (x_call .nil (pe_call G_is_reader (hr.mono (by first | decide | omega)) (by rfl) T.g_is_reader T.F_is_reader.kp T.b_is_reader .nil pass0 (xa_cons (x_var (pv 3)) xa_nil)))))) xa_nil))))) (xs_one (xs_ret (ps_ret (x_val pe_bl (.bl _))))) xs_nil)
    (xs_one (xs_ret (ps_ret (x_cb (sim_one sim_all) (pe_callB (kAll K rfl rfl) (by rfl) T.m_all (by decide +kernel) (xa_cons (x_lc0 (pe_lc (own := [("ahead", 1), ("behind", 2)]) (tt := tYes) rfl sc_is_row.nd (xi_zip (K := K) (pi_zip2 K rfl (by rfl) T.m_zip (xa_cons (x_var (pv 0)) (xa_cons (x_slice (K := K) (pe_slice (kSl K rfl) (x_var (pv 0)) (xo_some (x_val pe_int (.int _))) xo_none)) xa_nil)))) (blkOk_by (N := ["thing", "ahead", "behind", "part"]) (sc := (defScope s_is_row)) (by decide +kernel)) (fun _ _ _ _ _ => (xg_tup rfl (kTg K rfl (n := 2) rfl (xgs_cons (xg_name rfl (pg_name (i := 1) sc_is_row.nd rfl (Or.inl rfl))) (xgs_cons (xg_name rfl (pg_name (i := 2) sc_is_row.nd rfl (Or.inl rfl))) xgs_nil))))) (fun _ _ _ _ _ => pts_nil) (fun _ _ _ _ _ => (x_call .nil (pe_call G_fits (hr.mono (by first | decide | omega)) (by rfl) T.g_fits T.F_fits.kp T.b_fits .nil pass0 (xa_cons (x_var (pv 1)) (xa_cons (x_var (pv 2)) xa_nil))))))) xa_nil)))))))), fun as Qc hc => ?_⟩)
  obtain ⟨ds, rfl, q⟩ := hc
  ((conv => whnf); repeat ((first | refine ⟨_, rfl, ?_⟩ | refine ⟨Nat.le_of_ble_eq_true rfl, ?_⟩ | refine ⟨rfl, ?_⟩ | refine ⟨_, _, rfl, rfl, ?_⟩ | refine ⟨_, _, _, _, rfl, rfl, rfl, ?_⟩); conv => whnf))
  refine ⟨ds, 1, 3, rfl, ?_⟩
  ((conv => whnf); repeat ((first | refine ⟨_, rfl, ?_⟩ | refine ⟨Nat.le_of_ble_eq_true rfl, ?_⟩ | refine ⟨rfl, ?_⟩ | refine ⟨_, _, rfl, rfl, ?_⟩ | refine ⟨_, _, _, _, rfl, rfl, rfl, ?_⟩); conv => whnf))
  exact q
def c_right : Ct := fun as Q => ∃ (x : PyData), as = [.d x] ∧ Good x ∧ Fits x ∧ x.depth ≤ 60 ∧ Q (.d (.bool true)) [.un]
theorem x_right (T : Top K mg) : FnG P w K mg base CX0 7 T.f__law_right T.fd__law_right ["thing"] (spP c_right) := by
  have G_is_row := x_row (P := P) (w := w) (base := base) T
  have G_is_web := x_web (P := P) (w := w) (base := base) T
  have G__law_is_row := x_lrow (P := P) (w := w) (base := base) T
  have G__law_is_web := x_lweb (P := P) (w := w) (base := base) T
  have G__law_same := x_same2 (P := P) (w := w) (base := base) T
  refine okG T.F__law_right sc__law_right [false] rfl (by decide) (fun as Q h => by obtain ⟨x, rfl, _⟩ := h; rfl) (fun cdv A outer s H E hgd hr => ⟨_, (xs_cons (xs_set rfl (ps_set (i := 1) sc__law_right.nd rfl (Or.inl rfl) (x_cb (sim_one sim_show) (pe_callB (call_show hgd hr) (by rfl) T.m_repr (by decide +kernel) (xa_cons (x_var (pv 0)) xa_nil)))))
    (xs_cons (xs_set rfl (ps_set (i := 2) sc__law_right.nd rfl (Or.inl rfl) (x_lst (pe_lstN (xa_cons (x_call .nil (pe_call G_is_row (hr.mono (by first | decide | omega)) (by rfl) T.g_is_row T.F_is_row.kp T.b_is_row .nil pass0 (xa_cons (x_var (pv 0)) xa_nil))) (xa_cons (x_call .nil (pe_call G_is_web (hr.mono (by first | decide | omega)) (by rfl) T.g_is_web T.F_is_web.kp T.b_is_web .nil pass0 (xa_cons (x_var (pv 0)) xa_nil))) xa_nil))))))
    (xs_one (xs_ret (ps_ret (x_and (x_call .nil (pe_call G__law_same (hr.mono (by first | decide | omega)) (by rfl) T.g__law_same T.F__law_same.kp T.b__law_same .nil pass0 (xa_cons (x_var (pv 2)) (xa_cons (x_lst (pe_lstN (xa_cons (x_call .nil (pe_call G__law_is_row (hr.mono (by first | decide | omega)) (by rfl) T.g__law_is_row T.F__law_is_row.kp T.b__law_is_row .nil pass0 (xa_cons (x_var (pv 0)) xa_nil))) (xa_cons (x_call .nil (pe_call G__law_is_web (hr.mono (by first | decide | omega)) (by rfl) T.g__law_is_web T.F__law_is_web.kp T.b__law_is_web .nil pass0 (xa_cons (x_var (pv 0)) xa_nil))) xa_nil)))) xa_nil)))) (x_one (x_cmp sim_eq (kEq K rfl hr.units) (x_cb (sim_one sim_show) (pe_callB (call_show hgd hr) (by rfl) T.m_repr (by decide +kernel) (xa_cons (x_var (pv 0)) xa_nil))) (x_var (pv 1)) (nomark _))))))))), fun as Qc hc => ?_⟩)
  obtain ⟨x, rfl, G, ft, dp, q⟩ := hc
  ((conv => whnf); repeat ((first | refine ⟨_, rfl, ?_⟩ | refine ⟨Nat.le_of_ble_eq_true rfl, ?_⟩ | refine ⟨rfl, ?_⟩ | refine ⟨_, _, rfl, rfl, ?_⟩ | refine ⟨_, _, _, _, rfl, rfl, rfl, ?_⟩); conv => whnf))
  refine ⟨ft, dp, ?_⟩
  obtain ⟨sh, es⟩ : ∃ sh, sh = x.shown := ⟨_, rfl⟩
  rw [← es]
  ((conv => whnf); repeat ((first | refine ⟨_, rfl, ?_⟩ | refine ⟨Nat.le_of_ble_eq_true rfl, ?_⟩ | refine ⟨rfl, ?_⟩ | refine ⟨_, _, rfl, rfl, ?_⟩ | refine ⟨_, _, _, _, rfl, rfl, rfl, ?_⟩); conv => whnf))
  refine ⟨G, ?_⟩
  ((conv => whnf); repeat ((first | refine ⟨_, rfl, ?_⟩ | refine ⟨Nat.le_of_ble_eq_true rfl, ?_⟩ | refine ⟨rfl, ?_⟩ | refine ⟨_, _, rfl, rfl, ?_⟩ | refine ⟨_, _, _, _, rfl, rfl, rfl, ?_⟩); conv => whnf))
  refine ⟨G, ?_⟩
  ((conv => whnf); repeat ((first | refine ⟨_, rfl, ?_⟩ | refine ⟨Nat.le_of_ble_eq_true rfl, ?_⟩ | refine ⟨rfl, ?_⟩ | refine ⟨_, _, rfl, rfl, ?_⟩ | refine ⟨_, _, _, _, rfl, rfl, rfl, ?_⟩); conv => whnf))
  refine ⟨G, ?_⟩
  ((conv => whnf); repeat ((first | refine ⟨_, rfl, ?_⟩ | refine ⟨Nat.le_of_ble_eq_true rfl, ?_⟩ | refine ⟨rfl, ?_⟩ | refine ⟨_, _, rfl, rfl, ?_⟩ | refine ⟨_, _, _, _, rfl, rfl, rfl, ?_⟩); conv => whnf))
  refine ⟨G, ?_⟩
  ((conv => whnf); repeat ((first | refine ⟨_, rfl, ?_⟩ | refine ⟨Nat.le_of_ble_eq_true rfl, ?_⟩ | refine ⟨rfl, ?_⟩ | refine ⟨_, _, rfl, rfl, ?_⟩ | refine ⟨_, _, _, _, rfl, rfl, rfl, ?_⟩); conv => whnf))
  refine ⟨_, _, _, _, rfl, ?_⟩
  rw [beq_self_eq_true, beq_self_eq_true]
  ((conv => whnf); repeat ((first | refine ⟨_, rfl, ?_⟩ | refine ⟨Nat.le_of_ble_eq_true rfl, ?_⟩ | refine ⟨rfl, ?_⟩ | refine ⟨_, _, rfl, rfl, ?_⟩ | refine ⟨_, _, _, _, rfl, rfl, rfl, ?_⟩); conv => whnf))
  refine ⟨ft, dp, ?_⟩
  rw [← es]
  ((conv => whnf); repeat ((first | refine ⟨_, rfl, ?_⟩ | refine ⟨Nat.le_of_ble_eq_true rfl, ?_⟩ | refine ⟨rfl, ?_⟩ | refine ⟨_, _, rfl, rfl, ?_⟩ | refine ⟨_, _, _, _, rfl, rfl, rfl, ?_⟩); conv => whnf))
  exact okD' (by rw [Bool.false_xor, decide_eq_true rfl]) q
theorem Sn.sgs {t : Cs} {m : Nat} (h : Sn t m) : Sgs t t.length := ⟨rfl, h.up, h.sub⟩
theorem rdr_stF {r : Rdr} {B E : Nat} (v : r.Val B E) (hB : B ≤ 3) (hE : E ≤ 3) : ∀ s ∈ r.states, StF r.reads.length r.states.length 3 r.tells s := fun s hs => by
  have S := v.sta s hs
  exact ⟨S.len, fun w hw => ⟨(S.way w hw).1, Nat.le_trans (S.way w hw).2.1 hB, (S.way w hw).2.2⟩, fun t e => ⟨Nat.le_trans (S.fin t e).1 hE, (S.fin t e).2⟩⟩
theorem rdr_any2 {r : Rdr} {B E : Nat} (h1 : Sn r.reads 8) (h2 : Sn r.tells 8) (l : r.states.length ≤ 6) (v : r.Val B E) (hB : B ≤ 3) (hE : E ≤ 3) : Any 0 5 700 (dR r) :=
  rdr_any h1.sgs h2.sgs (Nat.le_trans h1.len (by decide)) (Nat.le_trans h2.len (by decide)) (by omega) (by decide) (rdr_stF v hB hE)
theorem rdr_yes {r : Rdr} {B E : Nat} (h1 : Sn r.reads 8) (h2 : Sn r.tells 8) (l : r.states.length ≤ 6) (v : r.Val B E) (hB : B ≤ 3) (hE : E ≤ 3) : isRdr (dR r) = true := by
  have n1 := List.length_pos_iff.mpr h1.ne
  have n2 := List.length_pos_iff.mpr h2.ne
  rw [rdr_is h1.sgs h2.sgs n1 n2 v.ne, decide_eq_true h1.len, decide_eq_true h2.len, decide_eq_true l, Bool.true_and, Bool.true_and]
  refine List.all_eq_true.mpr fun s hs => ?_
  have F := rdr_stF v hB hE s hs
  rw [st_is F, Bool.and_eq_true]
  refine ⟨List.all_eq_true.mpr fun w hw => decide_eq_true (F.way w hw).2.1, ?_⟩
  cases e : s.fin with
  | none => rfl
  | some u => exact decide_eq_true (F.fin u e).1
theorem row_any {rs : List Rdr} {g : Cs} (W : Wide rs g 3 4) : AnyA 0 5 2103 (rs.map dR) := by
  have h : AnyA 0 5 (rs.length * (700 + 1)) (rs.map dR) := any_map fun r hr => rdr_any2 (W.each r hr).2.1 ((W.each r hr).2.2.le (by decide)) (Nat.le_trans (W.each r hr).1 (by decide)) (W.low r hr) (by decide) (by decide)
  have := W.row.few
  exact h.le (Nat.le_refl _) (Nat.le_refl _) (by omega)
def dWeb (ws : List (List Rdr)) : PyData := .tuple (ws.map dRow)
theorem web_any {ws : List (List Rdr)} {g : Cs} (l : ws.length ≤ 3) (W : ∀ rs ∈ ws, Wide rs g 3 4) : AnyA 0 6 6312 (ws.map dRow) := by
  have h : AnyA 0 6 (ws.length * (2103 + 1)) (ws.map dRow) := any_map fun rs hr => Any.tup (row_any (W rs hr))
  exact h.le (Nat.le_refl _) (Nat.le_refl _) (by omega)
def c_shuf : Ct := fun as Q => ∃ (n : Nat) (ws : List (List Rdr)) (g : Cs) (u : PyData), as = [pen n, .d (dWeb ws), .d u] ∧ (1 ≤ ws.length ∧ ws.length ≤ 3) ∧ (∀ rs ∈ ws, Wide rs g 3 4) ∧ 130 ≤ n ∧
  ∀ (y : PyData) (n' : Nat), Any 0 7 20000 y → n ≤ n' + 130 → Q (.d y) [pen n', .un, .un]
theorem x_shuf (T : Top K mg) : FnOk P w K mg base CX0 5 T.f__law_shuffled T.fd__law_shuffled ["pen", "web", "reads"] (spP c_shuf) := by
  have G__law_take := x_take (P := P) (w := w) (base := base) T
  have G__law_some_signs := x_signs (P := P) (w := w) (base := base) T
  have G__law_any_reader := x_any (P := P) (w := w) (base := base) T
  refine okP T.F__law_shuffled sc__law_shuffled [true, false, false] rfl (by decide) (fun as Q h => by obtain ⟨n, ws, g, u, rfl, _⟩ := h; rfl) (fun cdv A outer s H E hr => ⟨_, (xs_cons (xs_par rfl rfl (ps_par (i := 3) (j := 4) rfl sc__law_shuffled.nd rfl rfl (by decide) rfl rfl (xa_cons (x_call .nil (pe_call G__law_take (hr.mono (by first | decide | omega)) (by rfl) T.g__law_take T.F__law_take.kp T.b__law_take .nil pass0 (xa_cons (x_var (pv 0)) (xa_cons (x_cb (sim_one sim_len) (pe_callB (kLen K rfl) (by rfl) T.m_len PySem.boot_len (xa_cons (x_var (pv 1)) xa_nil))) xa_nil)))) (xa_cons (x_call .nil (pe_call G__law_take (hr.mono (by first | decide | omega)) (by rfl) T.g__law_take T.F__law_take.kp T.b__law_take .nil pass0 (xa_cons (x_var (pv 0)) (xa_cons (x_val pe_int (.int _)) xa_nil)))) xa_nil)) rfl))
    (xs_cons (xs_set rfl (ps_set (i := 5) sc__law_shuffled.nd rfl (Or.inl rfl) (x_ix (K := K) (pe_ix (kIx K rfl) (x_var (pv 1)) (x_var (pv 3)) (fun _ _ => rfl)))))
    (xs_cons (xs_set rfl (ps_set (i := 6) sc__law_shuffled.nd rfl (Or.inl rfl) (x_call .nil (pe_call G__law_take (hr.mono (by first | decide | omega)) (by rfl) T.g__law_take T.F__law_take.kp T.b__law_take .nil pass0 (xa_cons (x_var (pv 0)) (xa_cons (x_cb (sim_one sim_len) (pe_callB (kLen K rfl) (by rfl) T.m_len PySem.boot_len (xa_cons (x_var (pv 5)) xa_nil))) xa_nil))))))
    (xs_cons (xs_set rfl (ps_set (i := 7) sc__law_shuffled.nd rfl (Or.inl rfl) (x_call .nil (pe_call G__law_some_signs (hr.mono (by first | decide | omega)) (by rfl) T.g__law_some_signs T.F__law_some_signs.kp T.b__law_some_signs .nil pass0 (xa_cons (x_var (pv 0)) (xa_cons (x_op sim_add op_addG (x_val pe_int (.int _)) (x_call .nil (pe_call G__law_take (hr.mono (by first | decide | omega)) (by rfl) T.g__law_take T.F__law_take.kp T.b__law_take .nil pass0 (xa_cons (x_var (pv 0)) (xa_cons (x_val pe_int (.int _)) xa_nil))))) xa_nil))))))
    (xs_cons (xs_set rfl (ps_set (i := 8) sc__law_shuffled.nd rfl (Or.inl rfl) (x_lst (pe_lstN (xa_cons (x_op sim_add op_addG (x_slice (K := K) (pe_slice (kSl K rfl) (x_var (pv 5)) xo_none (xo_some (x_var (pv 6))))) (x_slice (K := K) (pe_slice (kSl K rfl) (x_var (pv 5)) (xo_some (x_op sim_add op_addG (x_var (pv 6)) (x_val pe_int (.int _)))) xo_none))) (xa_cons (x_op sim_add op_addG (x_op sim_add op_addG (x_slice (K := K) (pe_slice (kSl K rfl) (x_var (pv 5)) xo_none (xo_some (x_var (pv 6))))) (x_slice (K := K) (pe_slice (kSl K rfl) (x_var (pv 5)) (xo_some (x_var (pv 6))) (xo_some (x_op sim_add op_addG (x_var (pv 6)) (x_val pe_int (.int _))))))) (x_slice (K := K) (pe_slice (kSl K rfl) (x_var (pv 5)) (xo_some (x_var (pv 6))) xo_none))) (xa_cons (x_backG (pe_backG (x_var (pv 5)) (po_some (x_neg (pe_un un_neg (x_val pe_int (.int _))))))) (xa_cons (x_cb (sim_one sim_list) (pe_callTy (kList K rfl rfl) (by rfl) T.m_list (by decide +kernel) (xa_cons (x_var (pv 5)) xa_nil))) (xa_cons (x_ix (K := K) (pe_ix (kIx K rfl) (x_var (pv 5)) (x_val pe_int (.int _)) (fun _ _ => rfl))) xa_nil)))))))))
    (xs_cons (xs_set rfl (ps_set (i := 8) sc__law_shuffled.nd rfl (Or.inl rfl) (x_op sim_add op_addG (x_var (pv 8)) (x_lst (pe_lstN (xa_cons (x_op sim_add op_addG (x_op sim_add op_addG (x_slice (K := K) (pe_slice (kSl K rfl) (x_var (pv 5)) xo_none (xo_some (x_var (pv 6))))) (x_tup (pe_tupN (xa_cons (x_call .nil (pe_call G__law_any_reader (hr.mono (by first | decide | omega)) (by rfl) T.g__law_any_reader T.F__law_any_reader.kp T.b__law_any_reader .nil pass0 (xa_cons (x_var (pv 0)) (xa_cons (x_var (pv 7)) (xa_cons (x_ix (K := K) (pe_ix (kIx K rfl) (x_ix (K := K) (pe_ix (kIx K rfl) (x_var (pv 5)) (x_var (pv 6)) (fun _ _ => rfl))) (x_val pe_int (.int _)) (fun _ _ => rfl))) (xa_cons (x_val pe_int (.int _)) (xa_cons (x_val pe_int (.int _)) xa_nil))))))) xa_nil)))) (x_slice (K := K) (pe_slice (kSl K rfl) (x_var (pv 5)) (xo_some (x_op sim_add op_addG (x_var (pv 6)) (x_val pe_int (.int _)))) xo_none))) xa_nil))))))
    (xs_cons (xs_set rfl (ps_set (i := 8) sc__law_shuffled.nd rfl (Or.inl rfl) (x_op sim_add op_addG (x_var (pv 8)) (x_lst (pe_lstN (xa_cons (x_op sim_add op_addG (x_op sim_add op_addG (x_slice (K := K) (pe_slice (kSl K rfl) (x_var (pv 5)) xo_none (xo_some (x_var (pv 6))))) (x_tup (pe_tupN (xa_cons (x_call .nil (pe_call G__law_any_reader (hr.mono (by first | decide | omega)) (by rfl) T.g__law_any_reader T.F__law_any_reader.kp T.b__law_any_reader .nil pass0 (xa_cons (x_var (pv 0)) (xa_cons (x_ix (K := K) (pe_ix (kIx K rfl) (x_ix (K := K) (pe_ix (kIx K rfl) (x_var (pv 5)) (x_var (pv 6)) (fun _ _ => rfl))) (x_val pe_int (.int _)) (fun _ _ => rfl))) (xa_cons (x_var (pv 7)) (xa_cons (x_val pe_int (.int _)) (xa_cons (x_val pe_int (.int _)) xa_nil))))))) xa_nil)))) (x_slice (K := K) (pe_slice (kSl K rfl) (x_var (pv 5)) (xo_some (x_op sim_add op_addG (x_var (pv 6)) (x_val pe_int (.int _)))) xo_none))) xa_nil))))))
    (xs_one (xs_ret (ps_ret (x_op sim_add op_addG (x_op sim_add op_addG (x_slice (K := K) (pe_slice (kSl K rfl) (x_var (pv 1)) xo_none (xo_some (x_var (pv 3))))) (x_tup (pe_tupN (xa_cons (x_ix (K := K) (pe_ix (kIx K rfl) (x_var (pv 8)) (x_var (pv 4)) (fun _ _ => rfl))) xa_nil)))) (x_slice (K := K) (pe_slice (kSl K rfl) (x_var (pv 1)) (xo_some (x_op sim_add op_addG (x_var (pv 3)) (x_val pe_int (.int _)))) xo_none))))))))))))), fun as Qc hc => ?_⟩)
  obtain ⟨n, ws, g, u, rfl, ⟨l1, l3⟩, W, n1, q⟩ := hc
  have wl : (ws.map dRow).length = ws.length := List.length_map ..
  have WA := web_any l3 W
  ((conv => whnf); repeat ((first | refine ⟨_, rfl, ?_⟩ | refine ⟨Nat.le_of_ble_eq_true rfl, ?_⟩ | refine ⟨rfl, ?_⟩ | refine ⟨_, _, rfl, rfl, ?_⟩ | refine ⟨_, _, _, _, rfl, rfl, rfl, ?_⟩); conv => whnf))
  refine ⟨n, _, rfl, by omega, by omega, by omega, fun a ha => ?_⟩
  ((conv => whnf); repeat ((first | refine ⟨_, rfl, ?_⟩ | refine ⟨Nat.le_of_ble_eq_true rfl, ?_⟩ | refine ⟨rfl, ?_⟩ | refine ⟨_, _, rfl, rfl, ?_⟩ | refine ⟨_, _, _, _, rfl, rfl, rfl, ?_⟩); conv => whnf))
  refine ⟨n - 1, 7, rfl, by omega, by decide, by decide, fun road hroad => ?_⟩
  have hw : ws[a]? = some (ws[a]'(by omega)) := List.getElem?_eq_getElem (by omega)
  generalize ws[a]'(by omega) = rs at hw
  have Wr := W rs (List.mem_of_getElem? hw)
  have R := Wr.row
  have ne := R.ne
  have few := R.few
  have rl : (rs.map dR).length = rs.length := List.length_map ..
  ((conv => whnf); repeat ((first | refine ⟨_, rfl, ?_⟩ | refine ⟨Nat.le_of_ble_eq_true rfl, ?_⟩ | refine ⟨rfl, ?_⟩ | refine ⟨_, _, rfl, rfl, ?_⟩ | refine ⟨_, _, _, _, rfl, rfl, rfl, ?_⟩); conv => whnf))
  refine ⟨dRow rs, atI_nat (by rw [List.getElem?_map, hw]; rfl), ?_⟩
  ((conv => whnf); repeat ((first | refine ⟨_, rfl, ?_⟩ | refine ⟨Nat.le_of_ble_eq_true rfl, ?_⟩ | refine ⟨rfl, ?_⟩ | refine ⟨_, _, rfl, rfl, ?_⟩ | refine ⟨_, _, _, _, rfl, rfl, rfl, ?_⟩); conv => whnf))
  refine ⟨n - 1 - 1, _, rfl, by omega, by omega, by omega, fun c hc => ?_⟩
  ((conv => whnf); repeat ((first | refine ⟨_, rfl, ?_⟩ | refine ⟨Nat.le_of_ble_eq_true rfl, ?_⟩ | refine ⟨rfl, ?_⟩ | refine ⟨_, _, rfl, rfl, ?_⟩ | refine ⟨_, _, _, _, rfl, rfl, rfl, ?_⟩); conv => whnf))
  refine ⟨n - 1 - 1 - 1, 4, rfl, by omega, by decide, by decide, fun b hb => ?_⟩
  ((conv => whnf); repeat ((first | refine ⟨_, rfl, ?_⟩ | refine ⟨Nat.le_of_ble_eq_true rfl, ?_⟩ | refine ⟨rfl, ?_⟩ | refine ⟨_, _, rfl, rfl, ?_⟩ | refine ⟨_, _, _, _, rfl, rfl, rfl, ?_⟩); conv => whnf))
  refine ⟨_, 1 + b, by rw [Int.natCast_add]; rfl, by omega, by omega, fun h hh => ?_⟩
  have hl := hh.len
  have Sh : Sn h 8 := (sn_of hh (by omega)).le (by omega)
  have er : rs[c]? = some (rs[c]'(by omega)) := List.getElem?_eq_getElem (by omega)
  generalize rs[c]'(by omega) = r at er
  obtain ⟨sl, Sr, St⟩ := Wr.each r (List.mem_of_getElem? er)
  ((conv => whnf); repeat ((first | refine ⟨_, rfl, ?_⟩ | refine ⟨Nat.le_of_ble_eq_true rfl, ?_⟩ | refine ⟨rfl, ?_⟩ | refine ⟨_, _, rfl, rfl, ?_⟩ | refine ⟨_, _, _, _, rfl, rfl, rfl, ?_⟩); conv => whnf))
  have RA := row_any Wr
  have cl := fun lo hi => cut_len (rs.map dR) lo hi
  have c1 := fun lo hi => AnyA_cut RA lo hi
  have cut1 := cl none (some (c : Int))
  have cut2 := cl (some ((c : Int) + 1)) none
  have cut3 := cl (some (c : Int)) (some ((c : Int) + 1))
  have cut4 := cl (some (c : Int)) none
  have e0 : (rs.map dR)[0]? = some (dR (rs[0]'(by omega))) := by rw [List.getElem?_map, List.getElem?_eq_getElem (by omega)]; rfl
  have ec : (rs.map dR)[c]? = some (dR r) := by rw [List.getElem?_map, er]; rfl
  generalize rs[0]'(by omega) = r0 at e0
  have A0 := RA.at e0
  refine ⟨by omega, ?_⟩
  ((conv => whnf); repeat ((first | refine ⟨_, rfl, ?_⟩ | refine ⟨Nat.le_of_ble_eq_true rfl, ?_⟩ | refine ⟨rfl, ?_⟩ | refine ⟨_, _, rfl, rfl, ?_⟩ | refine ⟨_, _, _, _, rfl, rfl, rfl, ?_⟩); conv => whnf))
  refine ⟨by omega, ?_⟩
  ((conv => whnf); repeat ((first | refine ⟨_, rfl, ?_⟩ | refine ⟨Nat.le_of_ble_eq_true rfl, ?_⟩ | refine ⟨rfl, ?_⟩ | refine ⟨_, _, rfl, rfl, ?_⟩ | refine ⟨_, _, _, _, rfl, rfl, rfl, ?_⟩); conv => whnf))
  refine ⟨by rw [List.length_append]; omega, ?_⟩
  ((conv => whnf); repeat ((first | refine ⟨_, rfl, ?_⟩ | refine ⟨Nat.le_of_ble_eq_true rfl, ?_⟩ | refine ⟨rfl, ?_⟩ | refine ⟨_, _, rfl, rfl, ?_⟩ | refine ⟨_, _, _, _, rfl, rfl, rfl, ?_⟩); conv => whnf))
  refine ⟨_, atI_nat e0, ?_⟩
  ((conv => whnf); repeat ((first | refine ⟨_, rfl, ?_⟩ | refine ⟨Nat.le_of_ble_eq_true rfl, ?_⟩ | refine ⟨rfl, ?_⟩ | refine ⟨_, _, rfl, rfl, ?_⟩ | refine ⟨_, _, _, _, rfl, rfl, rfl, ?_⟩); conv => whnf))
  refine ⟨_, atI_nat ec, ?_⟩
  ((conv => whnf); repeat ((first | refine ⟨_, rfl, ?_⟩ | refine ⟨Nat.le_of_ble_eq_true rfl, ?_⟩ | refine ⟨rfl, ?_⟩ | refine ⟨_, _, rfl, rfl, ?_⟩ | refine ⟨_, _, _, _, rfl, rfl, rfl, ?_⟩); conv => whnf))
  refine ⟨_, 2, 1, h, r.tells, rfl, ?_, St.ne, by have := St.len; omega, by omega, by decide, by decide, by decide, by decide, fun r1 d1 d2 k1 v1 => ?_⟩
  · have : costR h.length 2 1 ≤ costR 4 2 1 := costR_le (by omega)
    have e : costR 4 2 1 = 40 := rfl
    omega
  have B1 : Any 0 5 700 (dR r1) := rdr_any2 (by rw [d1]; exact Sh) (by rw [d2]; exact St.le (by decide)) (by omega) v1 (by decide) (by decide)
  have cost1 : costR h.length 2 1 ≤ 40 := costR_le (R' := 4) (by omega)
  generalize costR h.length 2 1 = k at cost1
  ((conv => whnf); repeat ((first | refine ⟨_, rfl, ?_⟩ | refine ⟨Nat.le_of_ble_eq_true rfl, ?_⟩ | refine ⟨rfl, ?_⟩ | refine ⟨_, _, rfl, rfl, ?_⟩ | refine ⟨_, _, _, _, rfl, rfl, rfl, ?_⟩); conv => whnf))
  have sg1 : ∀ x : PyData, [x].length = 1 := fun _ => rfl
  refine ⟨by rw [sg1]; omega, ?_⟩
  ((conv => whnf); repeat ((first | refine ⟨_, rfl, ?_⟩ | refine ⟨Nat.le_of_ble_eq_true rfl, ?_⟩ | refine ⟨rfl, ?_⟩ | refine ⟨_, _, rfl, rfl, ?_⟩ | refine ⟨_, _, _, _, rfl, rfl, rfl, ?_⟩); conv => whnf))
  refine ⟨by rw [List.length_append, sg1]; omega, ?_⟩
  ((conv => whnf); repeat ((first | refine ⟨_, rfl, ?_⟩ | refine ⟨Nat.le_of_ble_eq_true rfl, ?_⟩ | refine ⟨rfl, ?_⟩ | refine ⟨_, _, rfl, rfl, ?_⟩ | refine ⟨_, _, _, _, rfl, rfl, rfl, ?_⟩); conv => whnf))
  refine ⟨_, atI_nat ec, ?_⟩
  ((conv => whnf); repeat ((first | refine ⟨_, rfl, ?_⟩ | refine ⟨Nat.le_of_ble_eq_true rfl, ?_⟩ | refine ⟨rfl, ?_⟩ | refine ⟨_, _, rfl, rfl, ?_⟩ | refine ⟨_, _, _, _, rfl, rfl, rfl, ?_⟩); conv => whnf))
  refine ⟨_, 2, 1, r.reads, h, rfl, ?_, Sh.ne, by omega, by have := Sr.len; omega, by decide, by decide, by decide, by decide, fun r2 d3 d4 k2 v2 => ?_⟩
  · have : costR r.reads.length 2 1 ≤ costR 8 2 1 := costR_le Sr.len
    have e : costR 8 2 1 = 72 := rfl
    omega
  have B2 : Any 0 5 700 (dR r2) := rdr_any2 (by rw [d3]; exact Sr) (by rw [d4]; exact Sh) (by omega) v2 (by decide) (by decide)
  have cost2 : costR r.reads.length 2 1 ≤ 72 := costR_le (R' := 8) Sr.len
  generalize costR r.reads.length 2 1 = k' at cost2
  ((conv => whnf); repeat ((first | refine ⟨_, rfl, ?_⟩ | refine ⟨Nat.le_of_ble_eq_true rfl, ?_⟩ | refine ⟨rfl, ?_⟩ | refine ⟨_, _, rfl, rfl, ?_⟩ | refine ⟨_, _, _, _, rfl, rfl, rfl, ?_⟩); conv => whnf))
  refine ⟨by rw [sg1]; omega, ?_⟩
  ((conv => whnf); repeat ((first | refine ⟨_, rfl, ?_⟩ | refine ⟨Nat.le_of_ble_eq_true rfl, ?_⟩ | refine ⟨rfl, ?_⟩ | refine ⟨_, _, rfl, rfl, ?_⟩ | refine ⟨_, _, _, _, rfl, rfl, rfl, ?_⟩); conv => whnf))
  refine ⟨by rw [List.length_append, sg1]; omega, ?_⟩
  ((conv => whnf); repeat ((first | refine ⟨_, rfl, ?_⟩ | refine ⟨Nat.le_of_ble_eq_true rfl, ?_⟩ | refine ⟨rfl, ?_⟩ | refine ⟨_, _, rfl, rfl, ?_⟩ | refine ⟨_, _, _, _, rfl, rfl, rfl, ?_⟩); conv => whnf))
  have fin : ∀ (L : List PyData) (C : PyData → Prop), L.length = 7 → (∀ z ∈ L, Any 0 6 6400 z) → (∀ z, Any 0 6 6400 z → C z) → ∃ z, atI L (road : Int) = some z ∧ C z := fun L C hl h k => by
    obtain ⟨z, e, zm⟩ := at12 (L := L) (m := road) (by omega)
    exact ⟨z, e, k z (h z zm)⟩
  have up : ∀ {l : List PyData} {m : Nat}, AnyA 0 5 m l → m ≤ 6400 → Any 0 6 6400 (.tuple l) := fun h hm => (Any.tup h).le (by omega) (by omega) hm
  have o1 : ∀ {x : PyData}, Any 0 5 700 x → AnyA 0 5 701 [x] := fun h => AnyA.cons (M' := 0) h .nil
  refine fin _ _ rfl ?_ (fun z hz => ?_)
  · refine ac ?_ (ac ?_ (ac ?_ (ac ?_ (ac ?_ (ac ?_ (ac ?_ an))))))
    · exact up (AnyA.app (c1 _ _) (c1 _ _)) (by omega)
    · exact up (AnyA.app (AnyA.app (c1 _ _) (c1 _ _)) (c1 _ _)) (by omega)
    · exact up RA.rev (by omega)
    · exact (Any.lst RA).le (by omega) (by omega) (by omega)
    · exact A0.le (by omega) (by omega) (by omega)
    · exact up (AnyA.app (AnyA.app (c1 _ _) (o1 B1)) (c1 _ _)) (by omega)
    · exact up (AnyA.app (AnyA.app (c1 _ _) (o1 B2)) (c1 _ _)) (by omega)
  ((conv => whnf); repeat ((first | refine ⟨_, rfl, ?_⟩ | refine ⟨Nat.le_of_ble_eq_true rfl, ?_⟩ | refine ⟨rfl, ?_⟩ | refine ⟨_, _, rfl, rfl, ?_⟩ | refine ⟨_, _, _, _, rfl, rfl, rfl, ?_⟩); conv => whnf))
  have w1 := fun lo hi => AnyA_cut WA lo hi
  have wc := fun lo hi => cut_len (ws.map dRow) lo hi
  have wc1 := wc none (some (a : Int))
  have wc2 := wc (some ((a : Int) + 1)) none
  refine ⟨by rw [sg1]; omega, ?_⟩
  ((conv => whnf); repeat ((first | refine ⟨_, rfl, ?_⟩ | refine ⟨Nat.le_of_ble_eq_true rfl, ?_⟩ | refine ⟨rfl, ?_⟩ | refine ⟨_, _, rfl, rfl, ?_⟩ | refine ⟨_, _, _, _, rfl, rfl, rfl, ?_⟩); conv => whnf))
  refine ⟨by rw [List.length_append, sg1]; omega, ?_⟩
  ((conv => whnf); repeat ((first | refine ⟨_, rfl, ?_⟩ | refine ⟨Nat.le_of_ble_eq_true rfl, ?_⟩ | refine ⟨rfl, ?_⟩ | refine ⟨_, _, rfl, rfl, ?_⟩ | refine ⟨_, _, _, _, rfl, rfl, rfl, ?_⟩); conv => whnf))
  refine q _ _ ?_ ?_
  · exact (Any.tup (AnyA.app (AnyA.app (w1 _ _) (AnyA.cons (M' := 0) hz .nil)) (w1 _ _))).le (Nat.le_refl _) (Nat.le_refl _) (by omega)
  · omega
end
end Kx

namespace Fo
open PySem PySem.Spec PyProof.Rows L2 TL
/-! ### a tuple no times -/
theorem tup_never {at_ : Addr} {inside : Array Value} {epoch : Nat} {attrs : Option Addr} {slots : Array (Option Value)} {u : Tok} (full : (inside.isEmpty || (0 : Int) == 1) = false) :
    Meets (Builtin.«tuple.__mul__» ⟨[.ref at_, .int 0 u], []⟩) (fun _ Rs st =>
      st.heap.get? at_ = some ⟨.type "tuple", attrs, .seq inside epoch, slots⟩ ∧
        Rs (.ok (.ret (Value.ref st.heap.objs.size))) { st with heap := st.heap.push { cls := Value.type "tuple", data := Data.seq #[] }, toks := st.toks }) := by
  refine Meets.of_wp fun _ _ _ Rs st both => ?_
  rcases st with ⟨heap, gens, drawn, toks, os⟩
  rcases both with ⟨stands, done⟩
  have index := AutoSeq1.idx_int
  have far : ¬ ((0 : Int) < -(2 ^ 63) ∨ (0 : Int) ≥ 2 ^ 63) := by decide
  have none_ : (decide ((0 : Int) ≤ 0) || inside.isEmpty) = true := rfl
  wp_walk using wpAny_loadPart' stands
  repeat (first
    | (refine wpAny_ite_false (decide_eq_false (by rw [full]; exact Bool.false_ne_true)) ?_; wp_walk using wpAny_loadPart' stands)
    | (refine wpAny_ite_true (decide_eq_true none_) ?_; wp_walk using wpAny_loadPart' stands))
  all_goals exact ⟨_, rfl, done⟩
def rMulZ : R2 := fun x y H Q => ∃ l xs, x = .ref l ∧ y = .int 0 ∧ H l = some (.tup xs) ∧ xs ≠ [] ∧ ∀ p H', Same H H' → H' p = some (.tup []) → Q (.ref p) H'
section
variable {X : Cx}
theorem op_mulZ : OpR X (binaryOp .Mult) rMulZ := by
  rintro pins s σ H _ _ v u Q I rx ry ⟨at_, xs, rfl, rfl, stands, some_, goal⟩
  obtain ⟨its, r, ⟨⟨cls, dd, data, sl⟩, ho, hc, n, hd⟩, hs⟩ := I.tuple (SqT.of (K := X.K) stands)
  simp only at hc hd
  subst hc hd
  cases rx
  obtain ⟨tok, rfl⟩ := ry
  have full : (its.toArray.isEmpty || (0 : Int) == 1) = false := by
    cases its with
    | nil => exact absurd (List.eq_nil_of_length_eq_zero r.length) some_
    | cons a b => rfl
  have number : ∀ s' : Shared, s'.TypeIs (.int 0 tok) "int" := fun s' => typeIs_int s' 0 tok
  refine wpAny_binaryOp_repeat_ref (by decide) ⟨_, ho, rfl⟩ number noFill_tuple_mul F.fills_int_mul F.slot_int_rmul repeat_tuple F.slot_int_index.lookup ?_
  refine call_meets F.slot_int_rmul (number s) F.entry_int_rmul (F.args_int_rmul_2 _ _) (int_rmul_tuple 0 tok at_ its.toArray n dd sl) ⟨ho, rfl, ⟨_, ho, rfl⟩, call_meets F.slot_tuple_mul ⟨_, ho, rfl⟩ F.entry_tuple_mul (F.args_tuple_mul_2 _ _) (tup_never full) ⟨ho, ?_⟩⟩
  refine ⟨.ref s.heap.objs.size, _, I.laid (t' := s.toks) (o := .tup []) (fun b ob q => Heap.get?_push_of_some _ q) (Nat.le_refl _) ?_, rfl, goal s.heap.objs.size _ (same_new (I.hok.fresh (Nat.le_refl _))) upd_same⟩
  exact ⟨Nat.zero_le _, _, .nil, IsTup.new _ _⟩
end
end Fo

namespace Px
open PySem PySem.Spec PyProof.Rows L2 Fo TL
/-! ### a tuple times a number, none too -/
def pMulZ : P2 := fun S x y Q => match look S x, look S y with
  | .d (.tuple a), .d (.int j) => a ≠ [] ∧ 0 ≤ j ∧ j ≤ 1000 ∧ a.length ≤ 1000 ∧ Q (.d (.tuple (List.replicate j.toNat a).flatten)) S
  | _, _ => pMul S x y Q
def rMulPZ : R2 := fun x y H Q => rMulP x y H Q ∨ rMulZ x y H Q
theorem op_mulPZ {X : Cx} : OpR X (binaryOp .Mult) rMulPZ := OpR.or op_mulP op_mulZ
theorem sim_mulZ : Sim2 rMulPZ pMulZ := by
  intro F G H σ S v u x y Qp Q r hp k
  unfold pMulZ at hp
  split at hp
  · rename_i a j e1 e2
    obtain ⟨h0, h1, h2, h3, h4⟩ := hp
    by_cases z : 1 ≤ j
    · exact .inl (sim_mul _ _ _ _ _ _ _ _ _ _ _ r (by unfold pMul; rw [e1, e2]; exact ⟨h0, z, h2, h3, h4⟩) k)
    · obtain ⟨f1, r1⟩ := r.look0
      obtain ⟨f2, r2⟩ := r.look1
      rw [e1] at r1
      rw [e2] at r2
      cases r2.dat
      obtain ⟨p, ws, rfl, g1, l1⟩ := r1.tup r.lf
      have j0 : j = 0 := by omega
      subst j0
      exact .inr ⟨p, ws, rfl, rfl, g1, fun z => h0 (by
        have := l1.len
        rw [z] at this
        exact List.length_eq_zero_iff.mp this.symm), k.tup r .nil h4⟩
  · exact .inl (sim_mul _ _ _ _ _ _ _ _ _ _ _ r hp k)
end Px

-- @zip2
-- @any
-- @mul0
-- @mask _law_bent 10
-- @mask _law_shuffled 100
-- @mask _law_wide_row 10000
-- @fng _law_right
namespace Kx
open PySem PySem.Spec PyProof.Rows L2 Fo Px TL
section
variable {P : Program} {w : World} {K : PySem.W.Frag} {mg : Str → Option Value} {base : Heap}
theorem isRow_dRow {rs : List Rdr} {g : Cs} (W : Wide rs g 3 4) : isRow (dRow rs) = true := by
  have R := W.row
  have ne := R.ne
  show (((decide (1 ≤ (rs.map dR).length) && decide ((rs.map dR).length ≤ 3)) && (rs.map dR).all isRdr) && ((rs.map dR).zip ((rs.map dR).drop 1)).all fun p => fitD p.1 p.2) = true
  rw [List.length_map, decide_eq_true (show 1 ≤ rs.length by omega), decide_eq_true R.few, Bool.and_eq_true]
  refine ⟨?_, List.all_eq_true.mpr fun p hp => ?_⟩
  · rw [Bool.true_and, Bool.true_and]
    refine List.all_eq_true.mpr fun x hx => ?_
    obtain ⟨r, hr, rfl⟩ := List.mem_map.mp hx
    exact rdr_yes (W.each r hr).2.1 ((W.each r hr).2.2.le (by decide)) (Nat.le_trans (W.each r hr).1 (by decide)) (W.low r hr) (by decide) (by decide)
  · obtain ⟨i, e⟩ := List.mem_iff_getElem?.mp hp
    rw [List.getElem?_zip_eq_some, List.getElem?_drop] at e
    obtain ⟨e1, e2⟩ := e
    obtain ⟨a, ea, h1⟩ := at_map e1
    obtain ⟨b, eb, h2⟩ := at_map e2
    obtain ⟨p1, p2⟩ := p
    subst h1 h2
    show ((tl (tx a.tells)).all fun c => decide (c ∈ tl (tx b.reads))) = true
    rw [tl_tx, tl_tx]
    exact List.all_eq_true.mpr fun c hc => decide_eq_true (R.link i a b ea (by rw [Nat.add_comm]; exact eb) c hc)
theorem headC_dRow {rs : List Rdr} {g : Cs} (W : Wide rs g 3 4) : headC (dRow rs) = g := by
  have ne := W.row.ne
  match rs, ne, W with
  | r :: rs, _, W =>
    have e := W.head r rfl
    show tl (tx r.reads) = g
    rw [tl_tx, e]
theorem isWeb_dWeb {ws : List (List Rdr)} {g : Cs} (l1 : 1 ≤ ws.length) (l3 : ws.length ≤ 3) (W : ∀ rs ∈ ws, Wide rs g 3 4) : isWeb (dWeb ws) = true := by
  show (((decide (1 ≤ (ws.map dRow).length) && decide ((ws.map dRow).length ≤ 3)) && (ws.map dRow).all isRow) && (ws.map dRow).all fun r => decide (headC r = headC ((ws.map dRow).headD .none))) = true
  rw [List.length_map, decide_eq_true l1, decide_eq_true l3, Bool.and_eq_true]
  refine ⟨?_, List.all_eq_true.mpr fun x hx => ?_⟩
  · rw [Bool.true_and, Bool.true_and]
    refine List.all_eq_true.mpr fun x hx => ?_
    obtain ⟨r, hr, rfl⟩ := List.mem_map.mp hx
    exact isRow_dRow (W r hr)
  · obtain ⟨r, hr, rfl⟩ := List.mem_map.mp hx
    cases ws with
    | nil => exact absurd l1 (by decide)
    | cons r0 ws =>
      show decide (headC (dRow r) = headC (dRow r0)) = true
      rw [headC_dRow (W r hr), headC_dRow (W r0 (List.mem_cons_self ..))]
      exact decide_eq_true rfl
theorem flat_rep (n : Nat) (x : PyData) : (List.replicate n [x]).flatten = List.replicate n x := by
  induction n with
  | zero => rfl
  | succ n ih => rw [List.replicate_succ, List.flatten_cons, ih]; rfl
theorem rep_any {j k M : Nat} {x : PyData} (h : Any j k M x) : ∀ n, AnyA j k (n * (M + 1)) (List.replicate n x)
  | 0 => by rw [Nat.zero_mul]; exact .nil
  | n + 1 => (AnyA.cons h (rep_any h n)).le (Nat.le_refl _) (Nat.le_refl _) (by rw [Nat.succ_mul]; omega)
theorem rep_row {x : PyData} (h : isRdr x = true) (f : fitD x x = true) (n : Nat) : isRow (.tuple (List.replicate n x)) = (decide (1 ≤ n) && decide (n ≤ 3)) := by
  show (((decide (1 ≤ (List.replicate n x).length) && decide ((List.replicate n x).length ≤ 3)) && (List.replicate n x).all isRdr) && ((List.replicate n x).zip ((List.replicate n x).drop 1)).all fun p => fitD p.1 p.2) = _
  have e1 : (List.replicate n x).all isRdr = true := List.all_eq_true.mpr fun y hy => by rw [List.eq_of_mem_replicate hy]; exact h
  have e2 : ((List.replicate n x).zip ((List.replicate n x).drop 1)).all (fun p => fitD p.1 p.2) = true := List.all_eq_true.mpr fun p hp => by
    have := zip_mem hp
    rw [List.eq_of_mem_replicate this.1, List.eq_of_mem_replicate this.2]
    exact f
  rw [e1, e2, List.length_replicate, Bool.and_true, Bool.and_true]
theorem rep_web {x : PyData} (h : isRow x = true) (n : Nat) : isWeb (.tuple (List.replicate n x)) = (decide (1 ≤ n) && decide (n ≤ 3)) := by
  show (((decide (1 ≤ (List.replicate n x).length) && decide ((List.replicate n x).length ≤ 3)) && (List.replicate n x).all isRow) && (List.replicate n x).all fun r => decide (headC r = headC ((List.replicate n x).headD .none))) = _
  have e1 : (List.replicate n x).all isRow = true := List.all_eq_true.mpr fun y hy => by rw [List.eq_of_mem_replicate hy]; exact h
  have e2 : ((List.replicate n x).all fun r => decide (headC r = headC ((List.replicate n x).headD .none))) = true := List.all_eq_true.mpr fun y hy => by
    rw [List.eq_of_mem_replicate hy]
    cases n with
    | zero => exact nomatch hy
    | succ n => exact decide_eq_true rfl
  rw [e1, e2, List.length_replicate, Bool.and_true, Bool.and_true]
theorem isRow_dR (r : Rdr) : isRow (dR r) = false := by
  cases h : isRow (dR r) with
  | false => rfl
  | true =>
    obtain ⟨a, b, c, rs, e⟩ := isRow_ex h
    unfold dR at e
    cases e
theorem isWeb_dRow {rs : List Rdr} (h : 0 < rs.length) : isWeb (dRow rs) = false := by
  cases rs with
  | nil => exact absurd h (by decide)
  | cons r rs =>
    show ((_ && (isRow (dR r) && _)) && _) = false
    rw [isRow_dR, Bool.false_and, Bool.and_false, Bool.false_and]
def some0 : List PyData := [.none, .int 0, .str (tx []), .str (tx [114, 111, 119]), .list [], .dict [], .bool true, .tuple [.tuple []], .dict [(.int 0, .str (tx [97]))], .tuple [.dict [(.int 0, .int 1)]], .tuple [.tuple [.dict [(.str (tx [97]), .int 0)]]]]
theorem some0_any : AnyA 0 7 400 some0 := ⟨by simp [some0, PyData.depthAll, PyData.depth, PyData.depthKv], by
    have e1 : (tx [97]).cps.size = 1 := rfl
    have e2 : (tx [114, 111, 119]).cps.size = 3 := rfl
    have e0 : (tx []).cps.size = 0 := rfl
    simp [some0, PyData.bulkAll, PyData.bulk, PyData.bulkKv, e0, e1, e2], by decide +kernel⟩
theorem some0_no : some0.filter (fun x => isRow x || isWeb x) = [] := by decide +kernel
theorem x_law (T : Top K mg) : FnG P w K mg base CX0 13 T.f_law T.fd_law ["script"] (spP (c_law K)) := by
  have G__law_open := x_open (P := P) (w := w) (base := base) T
  have G__law_take := x_take (P := P) (w := w) (base := base) T
  have G__law_some_signs := x_signs (P := P) (w := w) (base := base) T
  have G__law_any_reader := x_any (P := P) (w := w) (base := base) T
  have G__law_wide_row := x_wide (P := P) (w := w) (base := base) T
  have G_is_row := okOr (x_row (P := P) (w := w) (base := base) T) (x_rowL T)
  have G_is_web := x_web (P := P) (w := w) (base := base) T
  have G__law_same := x_same (P := P) (w := w) (base := base) T
  have G__law_bent := x_bent (P := P) (w := w) (base := base) T 9
  have G__law_shuffled := x_shuf (P := P) (w := w) (base := base) T
  have G__law_right := x_right (P := P) (w := w) (base := base) T
  refine okG T.F_law sc_law [true] rfl (by decide) (fun as Q h => c_law_len h) (fun cdv A outer s H E hgd hr => ⟨_, (xs_cons (xs_set rfl (ps_set (i := 1) sc_law.nd rfl (Or.inr rfl) (x_call .nil (pe_call G__law_open (hr.mono (by first | decide | omega)) (by rfl) T.g__law_open T.F__law_open.kp T.b__law_open .nil pass0 (xa_cons (x_var (pv 0)) xa_nil)))))
    (xs_cons (xs_for (ps_for PassesOwn.never rfl (xi_rng1 (pi_range1 rfl T.m_range (xa_cons (x_val pe_int (.int _)) xa_nil))) (xg_name rfl (pg_name (i := 2) sc_law.nd rfl (Or.inl rfl))) (xs_cons (xs_set rfl (ps_set (i := 3) sc_law.nd rfl (Or.inr rfl) (x_call .nil (pe_call G__law_some_signs (hr.mono (by first | decide | omega)) (by rfl) T.g__law_some_signs T.F__law_some_signs.kp T.b__law_some_signs .nil pass0 (xa_cons (x_var (pv 1)) (xa_cons (x_op sim_add op_addG (x_val pe_int (.int _)) (x_call .nil (pe_call G__law_take (hr.mono (by first | decide | omega)) (by rfl) T.g__law_take T.F__law_take.kp T.b__law_take .nil pass0 (xa_cons (x_var (pv 1)) (xa_cons (x_val pe_int (.int _)) xa_nil))))) xa_nil))))))
    (xs_cons (xs_set rfl (ps_set (i := 4) sc_law.nd rfl (Or.inl rfl) (x_cb (sim_one sim_tuple) (pe_callTy (kTuple K rfl) (by rfl) T.m_tuple (by decide +kernel) (xa_cons (x_lc0 (pe_lc (own := [("k", 11)]) (tt := tYes) rfl sc_law.nd (xi_rng1 (pi_range1 rfl T.m_range (xa_cons (x_op sim_add op_addG (x_val pe_int (.int _)) (x_call .nil (pe_call G__law_take (hr.mono (by first | decide | omega)) (by rfl) T.g__law_take T.F__law_take.kp T.b__law_take .nil pass0 (xa_cons (x_var (pv 1)) (xa_cons (x_val pe_int (.int _)) xa_nil))))) xa_nil))) (blkOk_by (N := ["script", "pen", "turn", "reads", "web", "look", "thing", "some", "copy", "many", "kept", "k", "row", "one"]) (sc := (defScope s_law)) (by decide +kernel)) (fun _ _ _ _ _ => (xg_name rfl (pg_name (i := 11) sc_law.nd rfl (Or.inl rfl)))) (fun _ _ _ _ _ => pts_nil) (fun _ _ _ _ _ => (x_call .nil (pe_call G__law_wide_row (hr.mono (by first | decide | omega)) (by rfl) T.g__law_wide_row T.F__law_wide_row.kp T.b__law_wide_row .nil pass0 (xa_cons (x_var (pv 1)) (xa_cons (x_var (pv 3)) (xa_cons (x_val pe_int (.int _)) (xa_cons (x_val pe_int (.int _)) (xa_cons (x_val pe_int (.int _)) xa_nil)))))))))) xa_nil)))))
    (xs_cons (xs_if (PW.pt (xw_or (xt_cmp sim_notB op_notBl (x_call .nil (pe_call G_is_web (hr.mono (by first | decide | omega)) (by rfl) T.g_is_web T.F_is_web.kp T.b_is_web .nil pass0 (xa_cons (x_var (pv 4)) xa_nil))) (x_val pe_bl (.bl _)) (nomark _)) (xw_or1 (xt_cmp sim_eqL0 (op_neL0 (un0 hr)) (x_lc (pe_lc (own := [("row", 12)]) rfl sc_law.nd (xi_val K rfl (x_var (pv 4))) (blkOk_by (N := ["script", "pen", "turn", "reads", "web", "look", "thing", "some", "copy", "many", "kept", "k", "row", "one"]) (sc := (defScope s_law)) (by decide +kernel)) (fun _ _ _ _ _ => (xg_name rfl (pg_name (i := 12) sc_law.nd rfl (Or.inl rfl)))) (fun _ _ _ _ _ => pts_one (xt_cmp sim_notB op_notBl (x_call .nil (pe_call G_is_row (hr.mono (by first | decide | omega)) (by rfl) T.g_is_row T.F_is_row.kp T.b_is_row .nil pass0 (xa_cons (x_var (pv 12)) xa_nil))) (x_val pe_bl (.bl _)) (nomark _))) (fun _ _ _ _ _ => (x_var (pv 12))))) (x_lst (pe_lstN xa_nil)) (nomark _))))) (xs_one (xs_ret (ps_ret (x_val pe_bl (.bl _))))) xs_nil)
    (xs_cons (xs_for (ps_for PassesOwn.never rfl (xi_rng1 (pi_range1 rfl T.m_range (xa_cons (x_val pe_int (.int _)) xa_nil))) (xg_name rfl (pg_name (i := 5) sc_law.nd rfl (Or.inl rfl))) (xs_cons (xs_set rfl (ps_set (i := 6) sc_law.nd rfl (Or.inl rfl) (x_call .nil (pe_call G__law_shuffled (hr.mono (by first | decide | omega)) (by rfl) T.g__law_shuffled T.F__law_shuffled.kp T.b__law_shuffled .nil pass0 (xa_cons (x_var (pv 1)) (xa_cons (x_var (pv 4)) (xa_cons (x_var (pv 3)) xa_nil)))))))
    (xs_cons (xs_if (xt_cmp sim_eq (kEq K rfl hr.units) (x_call .nil (pe_call G__law_take (hr.mono (by first | decide | omega)) (by rfl) T.g__law_take T.F__law_take.kp T.b__law_take .nil pass0 (xa_cons (x_var (pv 1)) (xa_cons (x_val pe_int (.int _)) xa_nil)))) (x_val pe_int (.int _)) (nomark _)) (xs_one (xs_set rfl (ps_set (i := 6) sc_law.nd rfl (Or.inl rfl) (x_call .nil (pe_call G__law_bent (hr.mono (by first | decide | omega)) (by rfl) T.g__law_bent T.F__law_bent.kp T.b__law_bent .nil pass0 (xa_cons (x_var (pv 1)) (xa_cons (x_ix (K := K) (pe_ix (kIx K rfl) (x_lst (pe_lstN (xa_cons (x_var (pv 4)) (xa_cons (x_var (pv 6)) xa_nil)))) (x_call .nil (pe_call G__law_take (hr.mono (by first | decide | omega)) (by rfl) T.g__law_take T.F__law_take.kp T.b__law_take .nil pass0 (xa_cons (x_var (pv 1)) (xa_cons (x_val pe_int (.int _)) xa_nil)))) (fun _ _ => rfl))) xa_nil))))))) xs_nil)
    (xs_cons (xs_set rfl (ps_set (i := 7) sc_law.nd rfl (Or.inl rfl) (x_op sim_add op_addG (x_lst (pe_lstN (xa_cons (x_var (pv 6)) xa_nil))) (x_if (xt_val (x_cb (sim_two sim_isi) (pe_callB (kIsi K rfl) (by rfl) T.m_isinstance (by decide +kernel) (xa_cons (x_var (pv 6)) (xa_cons (x_ty (pe_bltn (v := .ty "tuple") (by rfl) T.m_tuple (by decide +kernel) rfl)) xa_nil))))) (x_cb (sim_one sim_list) (pe_callTy (kList K rfl rfl) (by rfl) T.m_list (by decide +kernel) (xa_cons (x_var (pv 6)) xa_nil))) (x_lst (pe_lstN xa_nil))))))
    (xs_one (xs_if (xt_cmp sim_eqL0 (op_neL0 (un0 hr)) (x_lc (pe_lc (own := [("one", 13)]) rfl sc_law.nd (xi_val K rfl (x_var (pv 7))) (blkOk_by (N := ["script", "pen", "turn", "reads", "web", "look", "thing", "some", "copy", "many", "kept", "k", "row", "one"]) (sc := (defScope s_law)) (by decide +kernel)) (fun _ _ _ _ _ => (xg_name rfl (pg_name (i := 13) sc_law.nd rfl (Or.inl rfl)))) (fun _ _ _ _ _ => pts_one (xt_not (xt_val (x_call .nil (pe_callG G__law_right hgd (hr.mono (by first | decide | omega)) (by rfl) T.g__law_right T.F__law_right.kp T.b__law_right .nil pass0 (xa_cons (x_var (pv 13)) xa_nil)))))) (fun _ _ _ _ _ => (x_var (pv 13))))) (x_lst (pe_lstN xa_nil)) (nomark _)) (xs_one (xs_ret (ps_ret (x_val pe_bl (.bl _))))) xs_nil)))))))
    (xs_cons (xs_set rfl (ps_set (i := 8) sc_law.nd rfl (Or.inl rfl) (x_call .nil (pe_call G__law_any_reader (hr.mono (by first | decide | omega)) (by rfl) T.g__law_any_reader T.F__law_any_reader.kp T.b__law_any_reader .nil pass0 (xa_cons (x_var (pv 1)) (xa_cons (x_var (pv 3)) (xa_cons (x_var (pv 3)) (xa_cons (x_val pe_int (.int _)) (xa_cons (x_val pe_int (.int _)) xa_nil)))))))))
    (xs_cons (xs_for (ps_for PassesOwn.never rfl (xi_rng1 (pi_range1 rfl T.m_range (xa_cons (x_val pe_int (.int _)) xa_nil))) (xg_name rfl (pg_name (i := 9) sc_law.nd rfl (Or.inl rfl))) (xs_cons (xs_if (xt_not (xt_val (x_call .nil (pe_call G__law_same (hr.mono (by first | decide | omega)) (by rfl) T.g__law_same T.F__law_same.kp T.b__law_same .nil pass0 (xa_cons (x_call .nil (pe_call G_is_row (hr.mono (by first | decide | omega)) (by rfl) T.g_is_row T.F_is_row.kp T.b_is_row .nil pass0 (xa_cons (x_op sim_mulZ op_mulPZ (x_tup (pe_tupN (xa_cons (x_var (pv 8)) xa_nil))) (x_var (pv 9))) xa_nil))) (xa_cons (x_chain sim_cmp sim_cmp (pe_chain op_ltP op_ltP (x_val pe_int (.int _)) (x_var (pv 9)) (x_val pe_int (.int _)))) xa_nil)))))) (xs_one (xs_ret (ps_ret (x_val pe_bl (.bl _))))) xs_nil)
    (xs_one (xs_if (xt_not (xt_val (x_call .nil (pe_call G__law_same (hr.mono (by first | decide | omega)) (by rfl) T.g__law_same T.F__law_same.kp T.b__law_same .nil pass0 (xa_cons (x_call .nil (pe_call G_is_web (hr.mono (by first | decide | omega)) (by rfl) T.g_is_web T.F_is_web.kp T.b_is_web .nil pass0 (xa_cons (x_op sim_mulZ op_mulPZ (x_tup (pe_tupN (xa_cons (x_ix (K := K) (pe_ix (kIx K rfl) (x_var (pv 4)) (x_val pe_int (.int _)) (fun _ _ => rfl))) xa_nil))) (x_var (pv 9))) xa_nil))) (xa_cons (x_chain sim_cmp sim_cmp (pe_chain op_ltP op_ltP (x_val pe_int (.int _)) (x_var (pv 9)) (x_val pe_int (.int _)))) xa_nil)))))) (xs_one (xs_ret (ps_ret (x_val pe_bl (.bl _))))) xs_nil)))))
    (xs_one (xs_if (PW.pt (xw_or (xt_cmp sim_notB op_notBl (x_call .nil (pe_call G_is_row (hr.mono (by first | decide | omega)) (by rfl) T.g_is_row T.F_is_row.kp T.b_is_row .nil pass0 (xa_cons (x_var (pv 8)) xa_nil))) (x_val pe_bl (.bl _)) (nomark _)) (xw_or (xt_cmp sim_notB op_notBl (x_call .nil (pe_call G_is_web (hr.mono (by first | decide | omega)) (by rfl) T.g_is_web T.F_is_web.kp T.b_is_web .nil pass0 (xa_cons (x_ix (K := K) (pe_ix (kIx K rfl) (x_var (pv 4)) (x_val pe_int (.int _)) (fun _ _ => rfl))) xa_nil))) (x_val pe_bl (.bl _)) (nomark _)) (xw_or1 (xt_cmp sim_notB op_notBl (x_call .nil (pe_call G_is_row (hr.mono (by first | decide | omega)) (by rfl) T.g_is_row T.F_is_row.kp T.b_is_row .nil pass0 (xa_cons (x_lst (pe_lstN (xa_cons (x_var (pv 8)) xa_nil))) xa_nil))) (x_val pe_bl (.bl _)) (nomark _)))))) (xs_one (xs_ret (ps_ret (x_val pe_bl (.bl _))))) xs_nil))))))))))
    (xs_cons (xs_set rfl (ps_set (i := 7) sc_law.nd rfl (Or.inl rfl) (x_lst (pe_lstN (xa_cons (x_val pe_non .non) (xa_cons (x_val pe_int (.int _)) (xa_cons (x_strC (cs := []) pe_str (by decide +kernel)) (xa_cons (x_strC (cs := [114, 111, 119]) pe_str (by decide +kernel)) (xa_cons (x_lst (pe_lstN xa_nil)) (xa_cons (x_dct0 pe_dnewK) (xa_cons (x_val pe_bl (.bl _)) (xa_cons (x_tup (pe_tupN (xa_cons (x_tup (pe_tupN xa_nil)) xa_nil))) (xa_cons (x_dct1 (pe_disp (pps_cons (x_val pe_int (.int _)) (x_strC (cs := [97]) pe_str (by decide +kernel)) pps_nil) (by rfl) (by rfl) (fun z => by cases z) (by decide))) (xa_cons (x_tup (pe_tupN (xa_cons (x_dct1 (pe_disp (pps_cons (x_val pe_int (.int _)) (x_val pe_int (.int _)) pps_nil) (by rfl) (by rfl) (fun z => by cases z) (by decide))) xa_nil))) (xa_cons (x_tup (pe_tupN (xa_cons (x_tup (pe_tupN (xa_cons (x_dct1 (pe_disp (pps_cons (x_strC (cs := [97]) pe_str (by decide +kernel)) (x_val pe_int (.int _)) pps_nil) (by rfl) (by rfl) (fun z => by cases z) (by decide))) xa_nil))) xa_nil))) xa_nil)))))))))))))))
    (xs_cons (xs_set rfl (ps_set (i := 10) sc_law.nd rfl (Or.inl rfl) (x_cb (sim_one sim_show) (pe_callB (call_show hgd hr) (by rfl) T.m_repr (by decide +kernel) (xa_cons (x_var (pv 7)) xa_nil)))))
    (xs_one (xs_ret (ps_ret (x_and (x_cmp sim_eqL0 (op_eqL0 (un0 hr)) (x_lc (pe_lc (own := [("thing", 6)]) rfl sc_law.nd (xi_val K rfl (x_var (pv 7))) (blkOk_by (N := ["script", "pen", "turn", "reads", "web", "look", "thing", "some", "copy", "many", "kept", "k", "row", "one"]) (sc := (defScope s_law)) (by decide +kernel)) (fun _ _ _ _ _ => (xg_name rfl (pg_name (i := 6) sc_law.nd rfl (Or.inl rfl)))) (fun _ _ _ _ _ => pts_one (PW.pt (xw_or (xt_val (x_call .nil (pe_call G_is_row (hr.mono (by first | decide | omega)) (by rfl) T.g_is_row T.F_is_row.kp T.b_is_row .nil pass0 (xa_cons (x_var (pv 6)) xa_nil)))) (xw_or1 (xt_val (x_call .nil (pe_call G_is_web (hr.mono (by first | decide | omega)) (by rfl) T.g_is_web T.F_is_web.kp T.b_is_web .nil pass0 (xa_cons (x_var (pv 6)) xa_nil)))))))) (fun _ _ _ _ _ => (x_var (pv 6))))) (x_lst (pe_lstN xa_nil)) (nomark _)) (x_one (x_cmp sim_eq (kEq K rfl hr.units) (x_cb (sim_one sim_show) (pe_callB (call_show hgd hr) (by rfl) T.m_repr (by decide +kernel) (xa_cons (x_var (pv 7)) xa_nil))) (x_var (pv 10)) (nomark _))))))))))), fun as Qc hc => ?_⟩)
  obtain ⟨ns, rfl, few, q⟩ := hc
  ((conv => whnf); repeat ((first | refine ⟨_, rfl, ?_⟩ | refine ⟨Nat.le_of_ble_eq_true rfl, ?_⟩ | refine ⟨rfl, ?_⟩ | refine ⟨_, _, rfl, rfl, ?_⟩ | refine ⟨_, _, _, _, rfl, rfl, rfl, ?_⟩); conv => whnf))
  refine ⟨few, ?_⟩
  ((conv => whnf); repeat ((first | refine ⟨_, rfl, ?_⟩ | refine ⟨Nat.le_of_ble_eq_true rfl, ?_⟩ | refine ⟨rfl, ?_⟩ | refine ⟨_, _, rfl, rfl, ?_⟩ | refine ⟨_, _, _, _, rfl, rfl, rfl, ?_⟩); conv => whnf))
  refine ⟨by decide, ?_⟩
  ((conv => whnf); repeat ((first | refine ⟨_, rfl, ?_⟩ | refine ⟨Nat.le_of_ble_eq_true rfl, ?_⟩ | refine ⟨rfl, ?_⟩ | refine ⟨_, _, rfl, rfl, ?_⟩ | refine ⟨_, _, _, _, rfl, rfl, rfl, ?_⟩); conv => whnf))
  refine ForR.mk (fun k S => ∃ n y2 y3 y4 y5 y6 y7 y8 y9 y10, 100000 ≤ n + 10000 * k ∧ S = [.o (AScr K ns), pen n, y2, y3, y4, y5, y6, y7, y8, y9, y10, .un, .un, .un]) ⟨_, _, _, _, _, _, _, _, _, _, by decide, rfl⟩ (fun k x S e j => ?_) (fun S j => ?_)
  · obtain ⟨n, y2, y3, y4, y5, y6, y7, y8, y9, y10, hn, rfl⟩ := j
    have hk : k < 5 := by
      have := (List.getElem?_eq_some_iff.mp e).1
      rw [show (rangeD 0 (Int.toNat 5)).length = 5 from rfl] at this
      exact this
    ((conv => whnf); repeat ((first | refine ⟨_, rfl, ?_⟩ | refine ⟨Nat.le_of_ble_eq_true rfl, ?_⟩ | refine ⟨rfl, ?_⟩ | refine ⟨_, _, rfl, rfl, ?_⟩ | refine ⟨_, _, _, _, rfl, rfl, rfl, ?_⟩); conv => whnf))
    refine ⟨n, 8, rfl, by omega, by decide, by decide, fun a ha => ?_⟩
    ((conv => whnf); repeat ((first | refine ⟨_, rfl, ?_⟩ | refine ⟨Nat.le_of_ble_eq_true rfl, ?_⟩ | refine ⟨rfl, ?_⟩ | refine ⟨_, _, rfl, rfl, ?_⟩ | refine ⟨_, _, _, _, rfl, rfl, rfl, ?_⟩); conv => whnf))
    refine ⟨n - 1, 1 + a, by rw [Int.natCast_add]; rfl, by omega, by omega, fun g hg => ?_⟩
    have gl := hg.len
    have Sg : Sn g 8 := (sn_of hg (by omega)).le (by omega)
    ((conv => whnf); repeat ((first | refine ⟨_, rfl, ?_⟩ | refine ⟨Nat.le_of_ble_eq_true rfl, ?_⟩ | refine ⟨rfl, ?_⟩ | refine ⟨_, _, rfl, rfl, ?_⟩ | refine ⟨_, _, _, _, rfl, rfl, rfl, ?_⟩); conv => whnf))
    refine ⟨_, 3, rfl, by omega, by decide, by decide, fun b hb => ?_⟩
    ((conv => whnf); repeat ((first | refine ⟨_, rfl, ?_⟩ | refine ⟨Nat.le_of_ble_eq_true rfl, ?_⟩ | refine ⟨rfl, ?_⟩ | refine ⟨_, _, rfl, rfl, ?_⟩ | refine ⟨_, _, _, _, rfl, rfl, rfl, ?_⟩); conv => whnf))
    refine ⟨by omega, ?_⟩
    ((conv => whnf); repeat ((first | refine ⟨_, rfl, ?_⟩ | refine ⟨Nat.le_of_ble_eq_true rfl, ?_⟩ | refine ⟨rfl, ?_⟩ | refine ⟨_, _, rfl, rfl, ?_⟩ | refine ⟨_, _, _, _, rfl, rfl, rfl, ?_⟩); conv => whnf))
    have cost : 3 * (costR 8 4 2 + 20) = 582 := rfl
    generalize hn1 : n - 1 - (1 + a) - 1 = n1
    have rl : (rangeD 0 (1 + (b : Int)).toNat).length = 1 + b := by
      unfold rangeD
      rw [List.length_map, List.length_range]
      omega
    refine LcR.mk (by rw [rl]; omega) (fun j acc S => ∃ (ws : List (List Rdr)) (m : Nat), S = [.o (AScr K ns), pen m, .d x, .d (dT g), y4, y5, y6, y7, y8, y9, y10, .un, .un, .un] ∧ acc = ws.map dRow ∧ ws.length = j ∧ n1 ≤ m + 582 * j ∧ ∀ rs ∈ ws, Wide rs g 3 4)
      ⟨[], n1, rfl, rfl, rfl, by omega, fun _ m => nomatch m⟩ (fun j z acc S e' hl jj => ?_) (fun acc S hl jj => ?_)
    · obtain ⟨ws, m, rfl, rfl, wl, hm, W⟩ := jj
      have hj : j < 1 + b := by rw [← rl]; exact (List.getElem?_eq_some_iff.mp e').1
      ((conv => whnf); repeat ((first | refine ⟨_, rfl, ?_⟩ | refine ⟨Nat.le_of_ble_eq_true rfl, ?_⟩ | refine ⟨rfl, ?_⟩ | refine ⟨_, _, rfl, rfl, ?_⟩ | refine ⟨_, _, _, _, rfl, rfl, rfl, ?_⟩); conv => whnf))
      refine ⟨m, 3, 4, 2, g, rfl, by rw [cost]; omega, Sg, by decide, by decide, by decide, by decide, by decide, by decide, fun rs Wr => ?_⟩
      rw [cost]
      ((conv => whnf); repeat ((first | refine ⟨_, rfl, ?_⟩ | refine ⟨Nat.le_of_ble_eq_true rfl, ?_⟩ | refine ⟨rfl, ?_⟩ | refine ⟨_, _, rfl, rfl, ?_⟩ | refine ⟨_, _, _, _, rfl, rfl, rfl, ?_⟩); conv => whnf))
      refine ⟨ws ++ [rs], m - 582, rfl, by rw [List.map_append]; rfl, by rw [List.length_append, wl]; rfl, by omega, fun r hr => ?_⟩
      rcases List.mem_append.mp hr with h | h
      · exact W r h
      · rw [List.mem_singleton.mp h]; exact Wr
    · obtain ⟨ws, m, rfl, rfl, wl, hm, W⟩ := jj
      rw [rl] at wl hm
      have l1 : 1 ≤ ws.length := by omega
      have l3 : ws.length ≤ 3 := by omega
      have WA := web_any l3 W
      have WT : Any 0 7 6312 (dWeb ws) := Any.tup WA
      have hm2 : n ≤ m + 1757 := by omega
      ((conv => whnf); repeat ((first | refine ⟨_, rfl, ?_⟩ | refine ⟨Nat.le_of_ble_eq_true rfl, ?_⟩ | refine ⟨rfl, ?_⟩ | refine ⟨_, _, rfl, rfl, ?_⟩ | refine ⟨_, _, _, _, rfl, rfl, rfl, ?_⟩); conv => whnf))
      refine ⟨WT.good (by decide), ?_⟩
      rw [show isWeb (.tuple (ws.map dRow)) = true from isWeb_dWeb l1 l3 W]
      ((conv => whnf); repeat ((first | refine ⟨_, rfl, ?_⟩ | refine ⟨Nat.le_of_ble_eq_true rfl, ?_⟩ | refine ⟨rfl, ?_⟩ | refine ⟨_, _, rfl, rfl, ?_⟩ | refine ⟨_, _, _, _, rfl, rfl, rfl, ?_⟩); conv => whnf))
      refine lc_fil ws dRow dRow (fun _ => false) rfl (by omega) (fun r hr R N hR hN => ?_) ?_
      · ((conv => whnf); repeat ((first | refine ⟨_, rfl, ?_⟩ | refine ⟨Nat.le_of_ble_eq_true rfl, ?_⟩ | refine ⟨rfl, ?_⟩ | refine ⟨_, _, rfl, rfl, ?_⟩ | refine ⟨_, _, _, _, rfl, rfl, rfl, ?_⟩); conv => whnf))
        refine .inl ⟨dRow r, rfl, (Any.tup (row_any (W r hr))).good (by decide), ?_⟩
        rw [isRow_dRow (W r hr)]
        ((conv => whnf); repeat ((first | refine ⟨_, rfl, ?_⟩ | refine ⟨Nat.le_of_ble_eq_true rfl, ?_⟩ | refine ⟨rfl, ?_⟩ | refine ⟨_, _, rfl, rfl, ?_⟩ | refine ⟨_, _, _, _, rfl, rfl, rfl, ?_⟩); conv => whnf))
        exact hN rfl _ rfl
      · rw [List.filter_eq_nil_iff.mpr (fun _ _ => Bool.false_ne_true)]
        ((conv => whnf); repeat ((first | refine ⟨_, rfl, ?_⟩ | refine ⟨Nat.le_of_ble_eq_true rfl, ?_⟩ | refine ⟨rfl, ?_⟩ | refine ⟨_, _, rfl, rfl, ?_⟩ | refine ⟨_, _, _, _, rfl, rfl, rfl, ?_⟩); conv => whnf))
        refine ⟨by decide, ?_⟩
        ((conv => whnf); repeat ((first | refine ⟨_, rfl, ?_⟩ | refine ⟨Nat.le_of_ble_eq_true rfl, ?_⟩ | refine ⟨rfl, ?_⟩ | refine ⟨_, _, rfl, rfl, ?_⟩ | refine ⟨_, _, _, _, rfl, rfl, rfl, ?_⟩); conv => whnf))
        refine ForR.mk (fun k S => ∃ (m' : Nat) (y5 y6 y7 y8 y9 y10 : PV), S = [.o (AScr K ns), pen m', .d x, .d (dT g), .d (dWeb ws), y5, y6, y7, y8, y9, y10, .un, .un, .un] ∧ m ≤ m' + 160 * k) ⟨m, _, _, _, _, _, _, rfl, by omega⟩ (fun k x6 S e6 j => ?_) (fun S j => ?_)
        · obtain ⟨m', y5, y6, y7, y8, y9, y10, rfl, hm'⟩ := j
          have hk6 : k < 6 := by
            have := (List.getElem?_eq_some_iff.mp e6).1
            rw [show (rangeD 0 (Int.toNat 6)).length = 6 from rfl] at this
            exact this
          ((conv => whnf); repeat ((first | refine ⟨_, rfl, ?_⟩ | refine ⟨Nat.le_of_ble_eq_true rfl, ?_⟩ | refine ⟨rfl, ?_⟩ | refine ⟨_, _, rfl, rfl, ?_⟩ | refine ⟨_, _, _, _, rfl, rfl, rfl, ?_⟩); conv => whnf))
          refine ⟨m', ws, g, dT g, rfl, ⟨l1, l3⟩, W, by omega, fun y m1 A hm1 => ?_⟩
          ((conv => whnf); repeat ((first | refine ⟨_, rfl, ?_⟩ | refine ⟨Nat.le_of_ble_eq_true rfl, ?_⟩ | refine ⟨rfl, ?_⟩ | refine ⟨_, _, rfl, rfl, ?_⟩ | refine ⟨_, _, _, _, rfl, rfl, rfl, ?_⟩); conv => whnf))
          refine ⟨m1, 2, rfl, by omega, by decide, by decide, fun t ht => ?_⟩
          ((conv => whnf); repeat ((first | refine ⟨_, rfl, ?_⟩ | refine ⟨Nat.le_of_ble_eq_true rfl, ?_⟩ | refine ⟨rfl, ?_⟩ | refine ⟨_, _, rfl, rfl, ?_⟩ | refine ⟨_, _, _, _, rfl, rfl, rfl, ?_⟩); conv => whnf))
          refine pick_of (fun h => ?_) (fun h => ?_)
          · ((conv => whnf); repeat ((first | refine ⟨_, rfl, ?_⟩ | refine ⟨Nat.le_of_ble_eq_true rfl, ?_⟩ | refine ⟨rfl, ?_⟩ | refine ⟨_, _, rfl, rfl, ?_⟩ | refine ⟨_, _, _, _, rfl, rfl, rfl, ?_⟩); conv => whnf))
            refine ⟨m1 - 1, 2, rfl, by omega, by decide, by decide, fun t2 ht2 => ?_⟩
            ((conv => whnf); repeat ((first | refine ⟨_, rfl, ?_⟩ | refine ⟨Nat.le_of_ble_eq_true rfl, ?_⟩ | refine ⟨rfl, ?_⟩ | refine ⟨_, _, rfl, rfl, ?_⟩ | refine ⟨_, _, _, _, rfl, rfl, rfl, ?_⟩); conv => whnf))
            have ht2 : t2 < [dWeb ws, y].length := by show t2 < 2; omega
            obtain ⟨z, ez, zm⟩ := at12 (L := [dWeb ws, y]) (m := t2) ht2
            have Az : Any 0 7 20000 z := ac (Pr := fun z => Any 0 7 20000 z) (WT.le (Nat.le_refl _) (Nat.le_refl _) (by decide)) (ac A an) z zm
            refine ⟨z, ez, ?_⟩
            ((conv => whnf); repeat ((first | refine ⟨_, rfl, ?_⟩ | refine ⟨Nat.le_of_ble_eq_true rfl, ?_⟩ | refine ⟨rfl, ?_⟩ | refine ⟨_, _, rfl, rfl, ?_⟩ | refine ⟨_, _, _, _, rfl, rfl, rfl, ?_⟩); conv => whnf))
            refine ⟨m1 - 1 - 1, 0, 7, 20000, z, rfl, Az, by decide, by omega, by decide, by decide, by decide, fun y' m2 A' hm2 => ?_⟩
            have A' : Any 1 8 80040 y' := A'
            ((conv => whnf); repeat ((first | refine ⟨_, rfl, ?_⟩ | refine ⟨Nat.le_of_ble_eq_true rfl, ?_⟩ | refine ⟨rfl, ?_⟩ | refine ⟨_, _, rfl, rfl, ?_⟩ | refine ⟨_, _, _, _, rfl, rfl, rfl, ?_⟩); conv => whnf))
            have dup := A'
            cases y' with
            | tuple ds =>
              obtain ⟨k0, hk0, B⟩ := A'.unt
              have bl := B.len
              ((conv => whnf); repeat ((first | refine ⟨_, rfl, ?_⟩ | refine ⟨Nat.le_of_ble_eq_true rfl, ?_⟩ | refine ⟨rfl, ?_⟩ | refine ⟨_, _, rfl, rfl, ?_⟩ | refine ⟨_, _, _, _, rfl, rfl, rfl, ?_⟩); conv => whnf))
              refine ⟨by show 1 + _ ≤ _; omega, ?_⟩
              ((conv => whnf); repeat ((first | refine ⟨_, rfl, ?_⟩ | refine ⟨Nat.le_of_ble_eq_true rfl, ?_⟩ | refine ⟨rfl, ?_⟩ | refine ⟨_, _, rfl, rfl, ?_⟩ | refine ⟨_, _, _, _, rfl, rfl, rfl, ?_⟩); conv => whnf))
              refine lc_fil ([PyData.tuple ds] ++ ds) id id (fun _ => false) (List.map_id _).symm (by show _ < _; rw [List.length_append]; show 1 + _ < _; omega) (fun u hu R N hR hN => ?_) ?_
              · have Au : Any 1 8 80040 u := by
                  rcases List.mem_append.mp hu with h | h
                  · rw [List.mem_singleton.mp h]; exact A'
                  · obtain ⟨i, ei⟩ := List.mem_iff_getElem?.mp h
                    exact (B.at ei).le (Nat.le_refl _) (by omega) (Nat.le_refl _)
                ((conv => whnf); repeat ((first | refine ⟨_, rfl, ?_⟩ | refine ⟨Nat.le_of_ble_eq_true rfl, ?_⟩ | refine ⟨rfl, ?_⟩ | refine ⟨_, _, rfl, rfl, ?_⟩ | refine ⟨_, _, _, _, rfl, rfl, rfl, ?_⟩); conv => whnf))
                refine ⟨Au.good (by decide), Au.fits (by decide) (by decide), Nat.le_trans Au.dep (by decide), ?_⟩
                ((conv => whnf); repeat ((first | refine ⟨_, rfl, ?_⟩ | refine ⟨Nat.le_of_ble_eq_true rfl, ?_⟩ | refine ⟨rfl, ?_⟩ | refine ⟨_, _, rfl, rfl, ?_⟩ | refine ⟨_, _, _, _, rfl, rfl, rfl, ?_⟩); conv => whnf))
                exact hN rfl _ rfl
              · rw [List.filter_eq_nil_iff.mpr (fun _ _ => Bool.false_ne_true)]
                ((conv => whnf); repeat ((first | refine ⟨_, rfl, ?_⟩ | refine ⟨Nat.le_of_ble_eq_true rfl, ?_⟩ | refine ⟨rfl, ?_⟩ | refine ⟨_, _, rfl, rfl, ?_⟩ | refine ⟨_, _, _, _, rfl, rfl, rfl, ?_⟩); conv => whnf))
                exact ⟨_, _, _, _, _, _, _, rfl, by omega⟩
            | _ =>
              ((conv => whnf); repeat ((first | refine ⟨_, rfl, ?_⟩ | refine ⟨Nat.le_of_ble_eq_true rfl, ?_⟩ | refine ⟨rfl, ?_⟩ | refine ⟨_, _, rfl, rfl, ?_⟩ | refine ⟨_, _, _, _, rfl, rfl, rfl, ?_⟩); conv => whnf))
              refine lc_fil _ id id (fun _ => false) (List.map_id _).symm (by show 1 < _; decide) (fun u hu R N hR hN => ?_) ?_
              · have Au : Any 1 8 80040 u := by rw [List.mem_singleton.mp (show u ∈ [_] from hu)]; exact A'
                ((conv => whnf); repeat ((first | refine ⟨_, rfl, ?_⟩ | refine ⟨Nat.le_of_ble_eq_true rfl, ?_⟩ | refine ⟨rfl, ?_⟩ | refine ⟨_, _, rfl, rfl, ?_⟩ | refine ⟨_, _, _, _, rfl, rfl, rfl, ?_⟩); conv => whnf))
                refine ⟨Au.good (by decide), Au.fits (by decide) (by decide), Nat.le_trans Au.dep (by decide), ?_⟩
                ((conv => whnf); repeat ((first | refine ⟨_, rfl, ?_⟩ | refine ⟨Nat.le_of_ble_eq_true rfl, ?_⟩ | refine ⟨rfl, ?_⟩ | refine ⟨_, _, rfl, rfl, ?_⟩ | refine ⟨_, _, _, _, rfl, rfl, rfl, ?_⟩); conv => whnf))
                exact hN rfl _ rfl
              · rw [List.filter_eq_nil_iff.mpr (fun _ _ => Bool.false_ne_true)]
                ((conv => whnf); repeat ((first | refine ⟨_, rfl, ?_⟩ | refine ⟨Nat.le_of_ble_eq_true rfl, ?_⟩ | refine ⟨rfl, ?_⟩ | refine ⟨_, _, rfl, rfl, ?_⟩ | refine ⟨_, _, _, _, rfl, rfl, rfl, ?_⟩); conv => whnf))
                exact ⟨_, _, _, _, _, _, _, rfl, by omega⟩
          · ((conv => whnf); repeat ((first | refine ⟨_, rfl, ?_⟩ | refine ⟨Nat.le_of_ble_eq_true rfl, ?_⟩ | refine ⟨rfl, ?_⟩ | refine ⟨_, _, rfl, rfl, ?_⟩ | refine ⟨_, _, _, _, rfl, rfl, rfl, ?_⟩); conv => whnf))
            have y'e : ∃ y', y' = y := ⟨y, rfl⟩
            obtain ⟨y', ey⟩ := y'e
            subst ey
            have A' : Any 1 8 80040 y' := A.le (by decide) (by decide) (by decide)
            have dup := A'
            cases y' with
            | tuple ds =>
              obtain ⟨k0, hk0, B⟩ := A'.unt
              have bl := B.len
              ((conv => whnf); repeat ((first | refine ⟨_, rfl, ?_⟩ | refine ⟨Nat.le_of_ble_eq_true rfl, ?_⟩ | refine ⟨rfl, ?_⟩ | refine ⟨_, _, rfl, rfl, ?_⟩ | refine ⟨_, _, _, _, rfl, rfl, rfl, ?_⟩); conv => whnf))
              refine ⟨by show 1 + _ ≤ _; omega, ?_⟩
              ((conv => whnf); repeat ((first | refine ⟨_, rfl, ?_⟩ | refine ⟨Nat.le_of_ble_eq_true rfl, ?_⟩ | refine ⟨rfl, ?_⟩ | refine ⟨_, _, rfl, rfl, ?_⟩ | refine ⟨_, _, _, _, rfl, rfl, rfl, ?_⟩); conv => whnf))
              refine lc_fil ([PyData.tuple ds] ++ ds) id id (fun _ => false) (List.map_id _).symm (by show _ < _; rw [List.length_append]; show 1 + _ < _; omega) (fun u hu R N hR hN => ?_) ?_
              · have Au : Any 1 8 80040 u := by
                  rcases List.mem_append.mp hu with h | h
                  · rw [List.mem_singleton.mp h]; exact A'
                  · obtain ⟨i, ei⟩ := List.mem_iff_getElem?.mp h
                    exact (B.at ei).le (Nat.le_refl _) (by omega) (Nat.le_refl _)
                ((conv => whnf); repeat ((first | refine ⟨_, rfl, ?_⟩ | refine ⟨Nat.le_of_ble_eq_true rfl, ?_⟩ | refine ⟨rfl, ?_⟩ | refine ⟨_, _, rfl, rfl, ?_⟩ | refine ⟨_, _, _, _, rfl, rfl, rfl, ?_⟩); conv => whnf))
                refine ⟨Au.good (by decide), Au.fits (by decide) (by decide), Nat.le_trans Au.dep (by decide), ?_⟩
                ((conv => whnf); repeat ((first | refine ⟨_, rfl, ?_⟩ | refine ⟨Nat.le_of_ble_eq_true rfl, ?_⟩ | refine ⟨rfl, ?_⟩ | refine ⟨_, _, rfl, rfl, ?_⟩ | refine ⟨_, _, _, _, rfl, rfl, rfl, ?_⟩); conv => whnf))
                exact hN rfl _ rfl
              · rw [List.filter_eq_nil_iff.mpr (fun _ _ => Bool.false_ne_true)]
                ((conv => whnf); repeat ((first | refine ⟨_, rfl, ?_⟩ | refine ⟨Nat.le_of_ble_eq_true rfl, ?_⟩ | refine ⟨rfl, ?_⟩ | refine ⟨_, _, rfl, rfl, ?_⟩ | refine ⟨_, _, _, _, rfl, rfl, rfl, ?_⟩); conv => whnf))
                exact ⟨_, _, _, _, _, _, _, rfl, by omega⟩
            | _ =>
              ((conv => whnf); repeat ((first | refine ⟨_, rfl, ?_⟩ | refine ⟨Nat.le_of_ble_eq_true rfl, ?_⟩ | refine ⟨rfl, ?_⟩ | refine ⟨_, _, rfl, rfl, ?_⟩ | refine ⟨_, _, _, _, rfl, rfl, rfl, ?_⟩); conv => whnf))
              refine lc_fil _ id id (fun _ => false) (List.map_id _).symm (by show 1 < _; decide) (fun u hu R N hR hN => ?_) ?_
              · have Au : Any 1 8 80040 u := by rw [List.mem_singleton.mp (show u ∈ [_] from hu)]; exact A'
                ((conv => whnf); repeat ((first | refine ⟨_, rfl, ?_⟩ | refine ⟨Nat.le_of_ble_eq_true rfl, ?_⟩ | refine ⟨rfl, ?_⟩ | refine ⟨_, _, rfl, rfl, ?_⟩ | refine ⟨_, _, _, _, rfl, rfl, rfl, ?_⟩); conv => whnf))
                refine ⟨Au.good (by decide), Au.fits (by decide) (by decide), Nat.le_trans Au.dep (by decide), ?_⟩
                ((conv => whnf); repeat ((first | refine ⟨_, rfl, ?_⟩ | refine ⟨Nat.le_of_ble_eq_true rfl, ?_⟩ | refine ⟨rfl, ?_⟩ | refine ⟨_, _, rfl, rfl, ?_⟩ | refine ⟨_, _, _, _, rfl, rfl, rfl, ?_⟩); conv => whnf))
                exact hN rfl _ rfl
              · rw [List.filter_eq_nil_iff.mpr (fun _ _ => Bool.false_ne_true)]
                ((conv => whnf); repeat ((first | refine ⟨_, rfl, ?_⟩ | refine ⟨Nat.le_of_ble_eq_true rfl, ?_⟩ | refine ⟨rfl, ?_⟩ | refine ⟨_, _, rfl, rfl, ?_⟩ | refine ⟨_, _, _, _, rfl, rfl, rfl, ?_⟩); conv => whnf))
                exact ⟨_, _, _, _, _, _, _, rfl, by omega⟩
        · obtain ⟨m', y5, y6, y7, y8, y9, y10, rfl, hm'⟩ := j
          have hm' : m ≤ m' + 160 * 6 := hm'
          ((conv => whnf); repeat ((first | refine ⟨_, rfl, ?_⟩ | refine ⟨Nat.le_of_ble_eq_true rfl, ?_⟩ | refine ⟨rfl, ?_⟩ | refine ⟨_, _, rfl, rfl, ?_⟩ | refine ⟨_, _, _, _, rfl, rfl, rfl, ?_⟩); conv => whnf))
          refine ⟨m', 3, 1, g, g, rfl, ?_, Sg.ne, by omega, by omega, by decide, by decide, by decide, by decide, fun r d1 d2 k1 v1 => ?_⟩
          · have c1 : costR g.length 3 1 ≤ costR 8 3 1 := costR_le (by omega)
            have c2 : costR 8 3 1 = 107 := rfl
            omega
          have ry : isRdr (dR r) = true := rdr_yes (by rw [d1]; exact Sg) (by rw [d2]; exact Sg) (by omega) v1 (by decide) (by decide)
          have RA : Any 0 5 700 (dR r) := rdr_any2 (by rw [d1]; exact Sg) (by rw [d2]; exact Sg) (by omega) v1 (by decide) (by decide)
          have cost1 : costR g.length 3 1 ≤ 107 := costR_le (R' := 8) (by omega)
          generalize costR g.length 3 1 = ck at cost1
          ((conv => whnf); repeat ((first | refine ⟨_, rfl, ?_⟩ | refine ⟨Nat.le_of_ble_eq_true rfl, ?_⟩ | refine ⟨rfl, ?_⟩ | refine ⟨_, _, rfl, rfl, ?_⟩ | refine ⟨_, _, _, _, rfl, rfl, rfl, ?_⟩); conv => whnf))
          refine ⟨by decide, ?_⟩
          ((conv => whnf); repeat ((first | refine ⟨_, rfl, ?_⟩ | refine ⟨Nat.le_of_ble_eq_true rfl, ?_⟩ | refine ⟨rfl, ?_⟩ | refine ⟨_, _, rfl, rfl, ?_⟩ | refine ⟨_, _, _, _, rfl, rfl, rfl, ?_⟩); conv => whnf))
          refine ForR.mk (fun k S => ∃ (y5 y6 y7 y9 y10 : PV), S = [.o (AScr K ns), pen (m' - ck), .d x, .d (dT g), .d (dWeb ws), y5, y6, y7, .d (dR r), y9, y10, .un, .un, .un]) ⟨_, _, _, _, _, rfl⟩ (fun k x7 S e7 j => ?_) (fun S j => ?_)
          · obtain ⟨y5, y6, y7, y9, y10, rfl⟩ := j
            have hk5 : k < 5 := by
              have := (List.getElem?_eq_some_iff.mp e7).1
              rw [show (rangeD 0 (Int.toNat 5)).length = 5 from rfl] at this
              exact this
            have ex : x7 = .int (k : Int) := by
              obtain ⟨i, e1, rfl⟩ := at_map e7
              obtain ⟨h1, h2⟩ := List.getElem?_eq_some_iff.mp e1
              rw [List.getElem_range] at h2
              rw [← h2]
              show PyData.int (0 + ((k : Nat) : Int)) = _
              rw [Int.zero_add]
            subst ex
            ((conv => whnf); repeat ((first | refine ⟨_, rfl, ?_⟩ | refine ⟨Nat.le_of_ble_eq_true rfl, ?_⟩ | refine ⟨rfl, ?_⟩ | refine ⟨_, _, rfl, rfl, ?_⟩ | refine ⟨_, _, _, _, rfl, rfl, rfl, ?_⟩); conv => whnf))
            refine ⟨(fun z => nomatch z), by omega, by omega, by show 1 ≤ 1000; decide, ?_⟩
            rw [flat_rep, Int.toNat_natCast]
            ((conv => whnf); repeat ((first | refine ⟨_, rfl, ?_⟩ | refine ⟨Nat.le_of_ble_eq_true rfl, ?_⟩ | refine ⟨rfl, ?_⟩ | refine ⟨_, _, rfl, rfl, ?_⟩ | refine ⟨_, _, _, _, rfl, rfl, rfl, ?_⟩); conv => whnf))
            have RK : Any 0 6 4000 (.tuple (List.replicate k (dR r))) := Any.tup ((rep_any RA k).le (Nat.le_refl _) (Nat.le_refl _) (by have : k * 701 ≤ 4 * 701 := Nat.mul_le_mul_right _ (by omega); omega))
            have fr : fitD (dR r) (dR r) = true := by
              show ((tl (tx r.tells)).all fun c => decide (c ∈ tl (tx r.reads))) = true
              rw [tl_tx, tl_tx, d1, d2]
              exact List.all_eq_true.mpr fun c hc => decide_eq_true hc
            refine .inl ⟨_, rfl, RK.good (by decide), ?_⟩
            rw [rep_row ry fr]
            ((conv => whnf); repeat ((first | refine ⟨_, rfl, ?_⟩ | refine ⟨Nat.le_of_ble_eq_true rfl, ?_⟩ | refine ⟨rfl, ?_⟩ | refine ⟨_, _, rfl, rfl, ?_⟩ | refine ⟨_, _, _, _, rfl, rfl, rfl, ?_⟩); conv => whnf))
            obtain ⟨r0, hr0⟩ : ∃ r0, ws[0]? = some r0 := ⟨_, List.getElem?_eq_getElem (by omega)⟩
            have ew : atI (ws.map dRow) 0 = some (dRow r0) := atI_nat (j := 0) (by rw [List.getElem?_map, hr0]; rfl)
            have W0 := W r0 (List.mem_of_getElem? hr0)
            have wy0 : isRow (dRow r0) = true := isRow_dRow W0
            have WK : Any 0 7 9000 (.tuple (List.replicate k (dRow r0))) := Any.tup ((rep_any (Any.tup (row_any W0)) k).le (Nat.le_refl _) (Nat.le_refl _) (by have : k * (2103 + 1) ≤ 4 * (2103 + 1) := Nat.mul_le_mul_right _ (by omega); omega))
            have same : 0 < k → ((decide (1 ≤ k) && decide (k ≤ 3)) == decide ((k : Int) < 4)) = true := fun h => by
              rw [decide_eq_true (show 1 ≤ k by omega), Bool.true_and, beq_iff_eq]
              exact decide_eq_decide.mpr (by omega)
            have same0 : ¬ 0 < k → ((decide (1 ≤ k) && decide (k ≤ 3)) == false) = true := fun h => by
              rw [decide_eq_false (show ¬ 1 ≤ k by omega)]
              rfl
            by_cases k0 : 0 < k
            · refine pickT (yesD (show (0 : Int) < (k : Int) by omega)) ?_
              ((conv => whnf); repeat ((first | refine ⟨_, rfl, ?_⟩ | refine ⟨Nat.le_of_ble_eq_true rfl, ?_⟩ | refine ⟨rfl, ?_⟩ | refine ⟨_, _, rfl, rfl, ?_⟩ | refine ⟨_, _, _, _, rfl, rfl, rfl, ?_⟩); conv => whnf))
              refine ⟨_, _, rfl, ?_⟩
              rw [same k0]
              ((conv => whnf); repeat ((first | refine ⟨_, rfl, ?_⟩ | refine ⟨Nat.le_of_ble_eq_true rfl, ?_⟩ | refine ⟨rfl, ?_⟩ | refine ⟨_, _, rfl, rfl, ?_⟩ | refine ⟨_, _, _, _, rfl, rfl, rfl, ?_⟩); conv => whnf))
              refine ⟨_, ew, ?_⟩
              ((conv => whnf); repeat ((first | refine ⟨_, rfl, ?_⟩ | refine ⟨Nat.le_of_ble_eq_true rfl, ?_⟩ | refine ⟨rfl, ?_⟩ | refine ⟨_, _, rfl, rfl, ?_⟩ | refine ⟨_, _, _, _, rfl, rfl, rfl, ?_⟩); conv => whnf))
              refine ⟨(fun z => nomatch z), by omega, by omega, by show 1 ≤ 1000; decide, ?_⟩
              rw [flat_rep, Int.toNat_natCast]
              ((conv => whnf); repeat ((first | refine ⟨_, rfl, ?_⟩ | refine ⟨Nat.le_of_ble_eq_true rfl, ?_⟩ | refine ⟨rfl, ?_⟩ | refine ⟨_, _, rfl, rfl, ?_⟩ | refine ⟨_, _, _, _, rfl, rfl, rfl, ?_⟩); conv => whnf))
              refine ⟨WK.good (by decide), ?_⟩
              rw [rep_web wy0]
              ((conv => whnf); repeat ((first | refine ⟨_, rfl, ?_⟩ | refine ⟨Nat.le_of_ble_eq_true rfl, ?_⟩ | refine ⟨rfl, ?_⟩ | refine ⟨_, _, rfl, rfl, ?_⟩ | refine ⟨_, _, _, _, rfl, rfl, rfl, ?_⟩); conv => whnf))
              refine pickT (yesD (show (0 : Int) < (k : Int) by omega)) ?_
              ((conv => whnf); repeat ((first | refine ⟨_, rfl, ?_⟩ | refine ⟨Nat.le_of_ble_eq_true rfl, ?_⟩ | refine ⟨rfl, ?_⟩ | refine ⟨_, _, rfl, rfl, ?_⟩ | refine ⟨_, _, _, _, rfl, rfl, rfl, ?_⟩); conv => whnf))
              refine ⟨_, _, rfl, ?_⟩
              rw [same k0]
              ((conv => whnf); repeat ((first | refine ⟨_, rfl, ?_⟩ | refine ⟨Nat.le_of_ble_eq_true rfl, ?_⟩ | refine ⟨rfl, ?_⟩ | refine ⟨_, _, rfl, rfl, ?_⟩ | refine ⟨_, _, _, _, rfl, rfl, rfl, ?_⟩); conv => whnf))
              exact ⟨_, _, _, _, _, rfl⟩
            · refine pickF (noD (show ¬ (0 : Int) < (k : Int) by omega)) ?_
              ((conv => whnf); repeat ((first | refine ⟨_, rfl, ?_⟩ | refine ⟨Nat.le_of_ble_eq_true rfl, ?_⟩ | refine ⟨rfl, ?_⟩ | refine ⟨_, _, rfl, rfl, ?_⟩ | refine ⟨_, _, _, _, rfl, rfl, rfl, ?_⟩); conv => whnf))
              refine ⟨_, _, rfl, ?_⟩
              rw [same0 k0]
              ((conv => whnf); repeat ((first | refine ⟨_, rfl, ?_⟩ | refine ⟨Nat.le_of_ble_eq_true rfl, ?_⟩ | refine ⟨rfl, ?_⟩ | refine ⟨_, _, rfl, rfl, ?_⟩ | refine ⟨_, _, _, _, rfl, rfl, rfl, ?_⟩); conv => whnf))
              refine ⟨_, ew, ?_⟩
              ((conv => whnf); repeat ((first | refine ⟨_, rfl, ?_⟩ | refine ⟨Nat.le_of_ble_eq_true rfl, ?_⟩ | refine ⟨rfl, ?_⟩ | refine ⟨_, _, rfl, rfl, ?_⟩ | refine ⟨_, _, _, _, rfl, rfl, rfl, ?_⟩); conv => whnf))
              refine ⟨(fun z => nomatch z), by omega, by omega, by show 1 ≤ 1000; decide, ?_⟩
              rw [flat_rep, Int.toNat_natCast]
              ((conv => whnf); repeat ((first | refine ⟨_, rfl, ?_⟩ | refine ⟨Nat.le_of_ble_eq_true rfl, ?_⟩ | refine ⟨rfl, ?_⟩ | refine ⟨_, _, rfl, rfl, ?_⟩ | refine ⟨_, _, _, _, rfl, rfl, rfl, ?_⟩); conv => whnf))
              refine ⟨WK.good (by decide), ?_⟩
              rw [rep_web wy0]
              ((conv => whnf); repeat ((first | refine ⟨_, rfl, ?_⟩ | refine ⟨Nat.le_of_ble_eq_true rfl, ?_⟩ | refine ⟨rfl, ?_⟩ | refine ⟨_, _, rfl, rfl, ?_⟩ | refine ⟨_, _, _, _, rfl, rfl, rfl, ?_⟩); conv => whnf))
              refine pickF (noD (show ¬ (0 : Int) < (k : Int) by omega)) ?_
              ((conv => whnf); repeat ((first | refine ⟨_, rfl, ?_⟩ | refine ⟨Nat.le_of_ble_eq_true rfl, ?_⟩ | refine ⟨rfl, ?_⟩ | refine ⟨_, _, rfl, rfl, ?_⟩ | refine ⟨_, _, _, _, rfl, rfl, rfl, ?_⟩); conv => whnf))
              refine ⟨_, _, rfl, ?_⟩
              rw [same0 k0]
              ((conv => whnf); repeat ((first | refine ⟨_, rfl, ?_⟩ | refine ⟨Nat.le_of_ble_eq_true rfl, ?_⟩ | refine ⟨rfl, ?_⟩ | refine ⟨_, _, rfl, rfl, ?_⟩ | refine ⟨_, _, _, _, rfl, rfl, rfl, ?_⟩); conv => whnf))
              exact ⟨_, _, _, _, _, rfl⟩
          · obtain ⟨y5, y6, y7, y9, y10, rfl⟩ := j
            ((conv => whnf); repeat ((first | refine ⟨_, rfl, ?_⟩ | refine ⟨Nat.le_of_ble_eq_true rfl, ?_⟩ | refine ⟨rfl, ?_⟩ | refine ⟨_, _, rfl, rfl, ?_⟩ | refine ⟨_, _, _, _, rfl, rfl, rfl, ?_⟩); conv => whnf))
            refine .inl ⟨dR r, rfl, RA.good (by decide), ?_⟩
            rw [isRow_dR]
            ((conv => whnf); repeat ((first | refine ⟨_, rfl, ?_⟩ | refine ⟨Nat.le_of_ble_eq_true rfl, ?_⟩ | refine ⟨rfl, ?_⟩ | refine ⟨_, _, rfl, rfl, ?_⟩ | refine ⟨_, _, _, _, rfl, rfl, rfl, ?_⟩); conv => whnf))
            obtain ⟨r0, hr0⟩ : ∃ r0, ws[0]? = some r0 := ⟨_, List.getElem?_eq_getElem (by omega)⟩
            have W0 := W r0 (List.mem_of_getElem? hr0)
            refine ⟨dRow r0, atI_nat (j := 0) (by rw [List.getElem?_map, hr0]; rfl), ?_⟩
            ((conv => whnf); repeat ((first | refine ⟨_, rfl, ?_⟩ | refine ⟨Nat.le_of_ble_eq_true rfl, ?_⟩ | refine ⟨rfl, ?_⟩ | refine ⟨_, _, rfl, rfl, ?_⟩ | refine ⟨_, _, _, _, rfl, rfl, rfl, ?_⟩); conv => whnf))
            refine ⟨(Any.tup (row_any W0)).good (by decide), ?_⟩
            rw [isWeb_dRow W0.row.ne]
            ((conv => whnf); repeat ((first | refine ⟨_, rfl, ?_⟩ | refine ⟨Nat.le_of_ble_eq_true rfl, ?_⟩ | refine ⟨rfl, ?_⟩ | refine ⟨_, _, rfl, rfl, ?_⟩ | refine ⟨_, _, _, _, rfl, rfl, rfl, ?_⟩); conv => whnf))
            refine .inr ⟨_, rfl, ?_⟩
            ((conv => whnf); repeat ((first | refine ⟨_, rfl, ?_⟩ | refine ⟨Nat.le_of_ble_eq_true rfl, ?_⟩ | refine ⟨rfl, ?_⟩ | refine ⟨_, _, rfl, rfl, ?_⟩ | refine ⟨_, _, _, _, rfl, rfl, rfl, ?_⟩); conv => whnf))
            exact ⟨_, _, _, _, _, _, _, _, _, _, by omega, rfl⟩
  · obtain ⟨n, y2, y3, y4, y5, y6, y7, y8, y9, y10, hn, rfl⟩ := j
    ((conv => whnf); repeat ((first | refine ⟨_, rfl, ?_⟩ | refine ⟨Nat.le_of_ble_eq_true rfl, ?_⟩ | refine ⟨rfl, ?_⟩ | refine ⟨_, _, rfl, rfl, ?_⟩ | refine ⟨_, _, _, _, rfl, rfl, rfl, ?_⟩); conv => whnf))
    have AL := some0_any
    have NL := some0_no
    have ln : some0.length < 16777216 := Nat.lt_of_le_of_lt AL.len (by decide)
    have FL : Fits (.list some0) := (Any.lst AL).fits (by decide) (by decide)
    have DL : (PyData.list some0).depth ≤ 60 := Nat.le_trans (Any.lst AL).dep (by decide)
    have e : ([.none, .int 0, .str (tx []), .str (tx [114, 111, 119]), .list [], .dict [], .bool true, .tuple [.tuple []], .dict [(.int 0, .str (tx [97]))], .tuple [.dict [(.int 0, .int 1)]], .tuple [.tuple [.dict [(.str (tx [97]), .int 0)]]]] : List PyData) = some0 := rfl
    rw [e]
    generalize some0 = L at AL NL ln FL DL
    refine ⟨FL, DL, ?_⟩
    generalize hsh : (PyData.list L).shown = sh
    ((conv => whnf); repeat ((first | refine ⟨_, rfl, ?_⟩ | refine ⟨Nat.le_of_ble_eq_true rfl, ?_⟩ | refine ⟨rfl, ?_⟩ | refine ⟨_, _, rfl, rfl, ?_⟩ | refine ⟨_, _, _, _, rfl, rfl, rfl, ?_⟩); conv => whnf))
    refine lc_fil L id id (fun x => isRow x || isWeb x) (List.map_id L).symm ln (fun x hx R N hR hN => ?_) ?_
    · obtain ⟨i, ei⟩ := List.mem_iff_getElem?.mp hx
      have A := AL.at ei
      ((conv => whnf); repeat ((first | refine ⟨_, rfl, ?_⟩ | refine ⟨Nat.le_of_ble_eq_true rfl, ?_⟩ | refine ⟨rfl, ?_⟩ | refine ⟨_, _, rfl, rfl, ?_⟩ | refine ⟨_, _, _, _, rfl, rfl, rfl, ?_⟩); conv => whnf))
      refine .inl ⟨x, rfl, A.good (by decide), ?_⟩
      cases h : isRow x with
      | true =>
        ((conv => whnf); repeat ((first | refine ⟨_, rfl, ?_⟩ | refine ⟨Nat.le_of_ble_eq_true rfl, ?_⟩ | refine ⟨rfl, ?_⟩ | refine ⟨_, _, rfl, rfl, ?_⟩ | refine ⟨_, _, _, _, rfl, rfl, rfl, ?_⟩); conv => whnf))
        exact hR (by show (isRow x || isWeb x) = true; rw [h, Bool.true_or]) _ rfl
      | false =>
        ((conv => whnf); repeat ((first | refine ⟨_, rfl, ?_⟩ | refine ⟨Nat.le_of_ble_eq_true rfl, ?_⟩ | refine ⟨rfl, ?_⟩ | refine ⟨_, _, rfl, rfl, ?_⟩ | refine ⟨_, _, _, _, rfl, rfl, rfl, ?_⟩); conv => whnf))
        refine ⟨A.good (by decide), ?_⟩
        rw [show id x = x from rfl]
        cases h2 : isWeb x with
        | true =>
          ((conv => whnf); repeat ((first | refine ⟨_, rfl, ?_⟩ | refine ⟨Nat.le_of_ble_eq_true rfl, ?_⟩ | refine ⟨rfl, ?_⟩ | refine ⟨_, _, rfl, rfl, ?_⟩ | refine ⟨_, _, _, _, rfl, rfl, rfl, ?_⟩); conv => whnf))
          exact hR (by show (isRow x || isWeb x) = true; rw [h2, Bool.or_true]) _ rfl
        | false =>
          ((conv => whnf); repeat ((first | refine ⟨_, rfl, ?_⟩ | refine ⟨Nat.le_of_ble_eq_true rfl, ?_⟩ | refine ⟨rfl, ?_⟩ | refine ⟨_, _, rfl, rfl, ?_⟩ | refine ⟨_, _, _, _, rfl, rfl, rfl, ?_⟩); conv => whnf))
          exact hN (by show (isRow x || isWeb x) = false; rw [h, h2]; rfl) _ rfl
    · rw [NL]
      ((conv => whnf); repeat ((first | refine ⟨_, rfl, ?_⟩ | refine ⟨Nat.le_of_ble_eq_true rfl, ?_⟩ | refine ⟨rfl, ?_⟩ | refine ⟨_, _, rfl, rfl, ?_⟩ | refine ⟨_, _, _, _, rfl, rfl, rfl, ?_⟩); conv => whnf))
      refine ⟨FL, DL, ?_⟩
      rw [hsh]
      ((conv => whnf); repeat ((first | refine ⟨_, rfl, ?_⟩ | refine ⟨Nat.le_of_ble_eq_true rfl, ?_⟩ | refine ⟨rfl, ?_⟩ | refine ⟨_, _, rfl, rfl, ?_⟩ | refine ⟨_, _, _, _, rfl, rfl, rfl, ?_⟩); conv => whnf))
      exact okB (by rw [Bool.false_xor, decide_eq_true rfl]) (q _)
def sp_law (K : PySem.W.Frag) : Sp := fun vs H Q _ => ∃ (a : Addr) (ns : List Int), vs = [.ref a] ∧ SqL K H a (ns.map V.int) ∧ ns.length ≤ 63 ∧ ∀ H', Q (.bl true) H'
theorem ok_law (T : Top K mg) : FnG P w K mg base CX0 13 T.f_law T.fd_law ["script"] (sp_law K) := law_of (x_law T)
end
end Kx

namespace Kx
open PySem PySem.Spec PyProof.Rows L2 Fo
theorem all_mk {l : PySem.W.OpenLaw} {w : World} {K : PySem.W.Frag} {h : Heap} {mg : Str → Option Value} {fa f_is_number_below f_is_tuple f_is_text f_is_signs f_is_reader f_is_state f_is_way f_is_row f_fits f_is_web f__law_open f__law_spread f__law_take f__law_some_signs f__law_some_text f__law_same f__law_any_reader f__law_more_signs f__law_wider f__law_wide_row f__law_odd f__law_bent f__law_is_number f__law_are_signs f__law_is_text f__law_is_reader f__law_is_row f__law_is_web f__law_right f__law_shuffled f_law : Addr} (X : K.In h) (G : h.Ns mainGlobals mg) (hfa : mg "law" = some (.ref fa))
    {od_is_number_below an_is_number_below od_is_tuple an_is_tuple od_is_text an_is_text od_is_signs an_is_signs od_is_reader an_is_reader od_is_state an_is_state od_is_way an_is_way od_is_row an_is_row od_fits an_fits od_is_web an_is_web od__law_open an__law_open od__law_spread an__law_spread od__law_take an__law_take od__law_some_signs an__law_some_signs od__law_some_text an__law_some_text od__law_same an__law_same od__law_any_reader an__law_any_reader od__law_more_signs an__law_more_signs od__law_wider an__law_wider od__law_wide_row an__law_wide_row od__law_odd an__law_odd od__law_bent an__law_bent od__law_is_number an__law_is_number od__law_are_signs an__law_are_signs od__law_is_text an__law_is_text od__law_is_reader an__law_is_reader od__law_is_row an__law_is_row od__law_is_web an__law_is_web od__law_right an__law_right od__law_shuffled an__law_shuffled od_law an_law : Option Addr} {sl_is_number_below sl_is_tuple sl_is_text sl_is_signs sl_is_reader sl_is_state sl_is_way sl_is_row sl_fits sl_is_web sl__law_open sl__law_spread sl__law_take sl__law_some_signs sl__law_some_text sl__law_same sl__law_any_reader sl__law_more_signs sl__law_wider sl__law_wide_row sl__law_odd sl__law_bent sl__law_is_number sl__law_are_signs sl__law_is_text sl__law_is_reader sl__law_is_row sl__law_is_web sl__law_right sl__law_shuffled sl_law : Array (Option Value)}
    {oc_is_number_below kV_is_number_below dc_is_number_below pm_is_number_below cd_is_number_below ct_is_number_below oc_is_tuple kV_is_tuple dc_is_tuple pm_is_tuple cd_is_tuple ct_is_tuple oc_is_text kV_is_text dc_is_text pm_is_text cd_is_text ct_is_text oc_is_signs kV_is_signs dc_is_signs pm_is_signs cd_is_signs ct_is_signs oc_is_reader kV_is_reader dc_is_reader pm_is_reader cd_is_reader ct_is_reader oc_is_state kV_is_state dc_is_state pm_is_state cd_is_state ct_is_state oc_is_way kV_is_way dc_is_way pm_is_way cd_is_way ct_is_way oc_is_row kV_is_row dc_is_row pm_is_row cd_is_row ct_is_row oc_fits kV_fits dc_fits pm_fits cd_fits ct_fits oc_is_web kV_is_web dc_is_web pm_is_web cd_is_web ct_is_web oc__law_open kV__law_open dc__law_open pm__law_open cd__law_open ct__law_open oc__law_spread kV__law_spread dc__law_spread pm__law_spread cd__law_spread ct__law_spread oc__law_take kV__law_take dc__law_take pm__law_take cd__law_take ct__law_take oc__law_some_signs kV__law_some_signs dc__law_some_signs pm__law_some_signs cd__law_some_signs ct__law_some_signs oc__law_some_text kV__law_some_text dc__law_some_text pm__law_some_text cd__law_some_text ct__law_some_text oc__law_same kV__law_same dc__law_same pm__law_same cd__law_same ct__law_same oc__law_any_reader kV__law_any_reader dc__law_any_reader pm__law_any_reader cd__law_any_reader ct__law_any_reader oc__law_more_signs kV__law_more_signs dc__law_more_signs pm__law_more_signs cd__law_more_signs ct__law_more_signs oc__law_wider kV__law_wider dc__law_wider pm__law_wider cd__law_wider ct__law_wider oc__law_wide_row kV__law_wide_row dc__law_wide_row pm__law_wide_row cd__law_wide_row ct__law_wide_row oc__law_odd kV__law_odd dc__law_odd pm__law_odd cd__law_odd ct__law_odd oc__law_bent kV__law_bent dc__law_bent pm__law_bent cd__law_bent ct__law_bent oc__law_is_number kV__law_is_number dc__law_is_number pm__law_is_number cd__law_is_number ct__law_is_number oc__law_are_signs kV__law_are_signs dc__law_are_signs pm__law_are_signs cd__law_are_signs ct__law_are_signs oc__law_is_text kV__law_is_text dc__law_is_text pm__law_is_text cd__law_is_text ct__law_is_text oc__law_is_reader kV__law_is_reader dc__law_is_reader pm__law_is_reader cd__law_is_reader ct__law_is_reader oc__law_is_row kV__law_is_row dc__law_is_row pm__law_is_row cd__law_is_row ct__law_is_row oc__law_is_web kV__law_is_web dc__law_is_web pm__law_is_web cd__law_is_web ct__law_is_web oc__law_right kV__law_right dc__law_right pm__law_right cd__law_right ct__law_right oc__law_shuffled kV__law_shuffled dc__law_shuffled pm__law_shuffled cd__law_shuffled ct__law_shuffled oc_law kV_law dc_law pm_law cd_law ct_law : Value}
    (a_is_number_below : PySem.W.nsIn K mainGlobals "is_number_below" = some (some (.ref f_is_number_below)))
    (l_is_number_below : K.lookup f_is_number_below = some ⟨oc_is_number_below, od_is_number_below, .func (PySem.W.fnOf "is_number_below" "is_number_below" (defArgs s_is_number_below) (defBody s_is_number_below) (defScope s_is_number_below) .none kV_is_number_below dc_is_number_below pm_is_number_below an_is_number_below cd_is_number_below ct_is_number_below), sl_is_number_below⟩)
    (c_is_number_below : PySem.W.codeIn K cd_is_number_below "is_number_below" = true)
    (k_is_number_below : PySem.W.keepIn K (.ref f_is_number_below) = true)
    (a_is_tuple : PySem.W.nsIn K mainGlobals "is_tuple" = some (some (.ref f_is_tuple)))
    (l_is_tuple : K.lookup f_is_tuple = some ⟨oc_is_tuple, od_is_tuple, .func (PySem.W.fnOf "is_tuple" "is_tuple" (defArgs s_is_tuple) (defBody s_is_tuple) (defScope s_is_tuple) .none kV_is_tuple dc_is_tuple pm_is_tuple an_is_tuple cd_is_tuple ct_is_tuple), sl_is_tuple⟩)
    (c_is_tuple : PySem.W.codeIn K cd_is_tuple "is_tuple" = true)
    (k_is_tuple : PySem.W.keepIn K (.ref f_is_tuple) = true)
    (a_is_text : PySem.W.nsIn K mainGlobals "is_text" = some (some (.ref f_is_text)))
    (l_is_text : K.lookup f_is_text = some ⟨oc_is_text, od_is_text, .func (PySem.W.fnOf "is_text" "is_text" (defArgs s_is_text) (defBody s_is_text) (defScope s_is_text) .none kV_is_text dc_is_text pm_is_text an_is_text cd_is_text ct_is_text), sl_is_text⟩)
    (c_is_text : PySem.W.codeIn K cd_is_text "is_text" = true)
    (k_is_text : PySem.W.keepIn K (.ref f_is_text) = true)
    (a_is_signs : PySem.W.nsIn K mainGlobals "is_signs" = some (some (.ref f_is_signs)))
    (l_is_signs : K.lookup f_is_signs = some ⟨oc_is_signs, od_is_signs, .func (PySem.W.fnOf "is_signs" "is_signs" (defArgs s_is_signs) (defBody s_is_signs) (defScope s_is_signs) .none kV_is_signs dc_is_signs pm_is_signs an_is_signs cd_is_signs ct_is_signs), sl_is_signs⟩)
    (c_is_signs : PySem.W.codeIn K cd_is_signs "is_signs" = true)
    (k_is_signs : PySem.W.keepIn K (.ref f_is_signs) = true)
    (a_is_reader : PySem.W.nsIn K mainGlobals "is_reader" = some (some (.ref f_is_reader)))
    (l_is_reader : K.lookup f_is_reader = some ⟨oc_is_reader, od_is_reader, .func (PySem.W.fnOf "is_reader" "is_reader" (defArgs s_is_reader) (defBody s_is_reader) (defScope s_is_reader) .none kV_is_reader dc_is_reader pm_is_reader an_is_reader cd_is_reader ct_is_reader), sl_is_reader⟩)
    (c_is_reader : PySem.W.codeIn K cd_is_reader "is_reader" = true)
    (k_is_reader : PySem.W.keepIn K (.ref f_is_reader) = true)
    (a_is_state : PySem.W.nsIn K mainGlobals "is_state" = some (some (.ref f_is_state)))
    (l_is_state : K.lookup f_is_state = some ⟨oc_is_state, od_is_state, .func (PySem.W.fnOf "is_state" "is_state" (defArgs s_is_state) (defBody s_is_state) (defScope s_is_state) .none kV_is_state dc_is_state pm_is_state an_is_state cd_is_state ct_is_state), sl_is_state⟩)
    (c_is_state : PySem.W.codeIn K cd_is_state "is_state" = true)
    (k_is_state : PySem.W.keepIn K (.ref f_is_state) = true)
    (a_is_way : PySem.W.nsIn K mainGlobals "is_way" = some (some (.ref f_is_way)))
    (l_is_way : K.lookup f_is_way = some ⟨oc_is_way, od_is_way, .func (PySem.W.fnOf "is_way" "is_way" (defArgs s_is_way) (defBody s_is_way) (defScope s_is_way) .none kV_is_way dc_is_way pm_is_way an_is_way cd_is_way ct_is_way), sl_is_way⟩)
    (c_is_way : PySem.W.codeIn K cd_is_way "is_way" = true)
    (k_is_way : PySem.W.keepIn K (.ref f_is_way) = true)
    (a_is_row : PySem.W.nsIn K mainGlobals "is_row" = some (some (.ref f_is_row)))
    (l_is_row : K.lookup f_is_row = some ⟨oc_is_row, od_is_row, .func (PySem.W.fnOf "is_row" "is_row" (defArgs s_is_row) (defBody s_is_row) (defScope s_is_row) .none kV_is_row dc_is_row pm_is_row an_is_row cd_is_row ct_is_row), sl_is_row⟩)
    (c_is_row : PySem.W.codeIn K cd_is_row "is_row" = true)
    (k_is_row : PySem.W.keepIn K (.ref f_is_row) = true)
    (a_fits : PySem.W.nsIn K mainGlobals "fits" = some (some (.ref f_fits)))
    (l_fits : K.lookup f_fits = some ⟨oc_fits, od_fits, .func (PySem.W.fnOf "fits" "fits" (defArgs s_fits) (defBody s_fits) (defScope s_fits) .none kV_fits dc_fits pm_fits an_fits cd_fits ct_fits), sl_fits⟩)
    (c_fits : PySem.W.codeIn K cd_fits "fits" = true)
    (k_fits : PySem.W.keepIn K (.ref f_fits) = true)
    (a_is_web : PySem.W.nsIn K mainGlobals "is_web" = some (some (.ref f_is_web)))
    (l_is_web : K.lookup f_is_web = some ⟨oc_is_web, od_is_web, .func (PySem.W.fnOf "is_web" "is_web" (defArgs s_is_web) (defBody s_is_web) (defScope s_is_web) .none kV_is_web dc_is_web pm_is_web an_is_web cd_is_web ct_is_web), sl_is_web⟩)
    (c_is_web : PySem.W.codeIn K cd_is_web "is_web" = true)
    (k_is_web : PySem.W.keepIn K (.ref f_is_web) = true)
    (a__law_open : PySem.W.nsIn K mainGlobals "_law_open" = some (some (.ref f__law_open)))
    (l__law_open : K.lookup f__law_open = some ⟨oc__law_open, od__law_open, .func (PySem.W.fnOf "_law_open" "_law_open" (defArgs s__law_open) (defBody s__law_open) (defScope s__law_open) .none kV__law_open dc__law_open pm__law_open an__law_open cd__law_open ct__law_open), sl__law_open⟩)
    (c__law_open : PySem.W.codeIn K cd__law_open "_law_open" = true)
    (k__law_open : PySem.W.keepIn K (.ref f__law_open) = true)
    (a__law_spread : PySem.W.nsIn K mainGlobals "_law_spread" = some (some (.ref f__law_spread)))
    (l__law_spread : K.lookup f__law_spread = some ⟨oc__law_spread, od__law_spread, .func (PySem.W.fnOf "_law_spread" "_law_spread" (defArgs s__law_spread) (defBody s__law_spread) (defScope s__law_spread) .none kV__law_spread dc__law_spread pm__law_spread an__law_spread cd__law_spread ct__law_spread), sl__law_spread⟩)
    (c__law_spread : PySem.W.codeIn K cd__law_spread "_law_spread" = true)
    (k__law_spread : PySem.W.keepIn K (.ref f__law_spread) = true)
    (a__law_take : PySem.W.nsIn K mainGlobals "_law_take" = some (some (.ref f__law_take)))
    (l__law_take : K.lookup f__law_take = some ⟨oc__law_take, od__law_take, .func (PySem.W.fnOf "_law_take" "_law_take" (defArgs s__law_take) (defBody s__law_take) (defScope s__law_take) .none kV__law_take dc__law_take pm__law_take an__law_take cd__law_take ct__law_take), sl__law_take⟩)
    (c__law_take : PySem.W.codeIn K cd__law_take "_law_take" = true)
    (k__law_take : PySem.W.keepIn K (.ref f__law_take) = true)
    (a__law_some_signs : PySem.W.nsIn K mainGlobals "_law_some_signs" = some (some (.ref f__law_some_signs)))
    (l__law_some_signs : K.lookup f__law_some_signs = some ⟨oc__law_some_signs, od__law_some_signs, .func (PySem.W.fnOf "_law_some_signs" "_law_some_signs" (defArgs s__law_some_signs) (defBody s__law_some_signs) (defScope s__law_some_signs) .none kV__law_some_signs dc__law_some_signs pm__law_some_signs an__law_some_signs cd__law_some_signs ct__law_some_signs), sl__law_some_signs⟩)
    (c__law_some_signs : PySem.W.codeIn K cd__law_some_signs "_law_some_signs" = true)
    (k__law_some_signs : PySem.W.keepIn K (.ref f__law_some_signs) = true)
    (a__law_some_text : PySem.W.nsIn K mainGlobals "_law_some_text" = some (some (.ref f__law_some_text)))
    (l__law_some_text : K.lookup f__law_some_text = some ⟨oc__law_some_text, od__law_some_text, .func (PySem.W.fnOf "_law_some_text" "_law_some_text" (defArgs s__law_some_text) (defBody s__law_some_text) (defScope s__law_some_text) .none kV__law_some_text dc__law_some_text pm__law_some_text an__law_some_text cd__law_some_text ct__law_some_text), sl__law_some_text⟩)
    (c__law_some_text : PySem.W.codeIn K cd__law_some_text "_law_some_text" = true)
    (k__law_some_text : PySem.W.keepIn K (.ref f__law_some_text) = true)
    (a__law_same : PySem.W.nsIn K mainGlobals "_law_same" = some (some (.ref f__law_same)))
    (l__law_same : K.lookup f__law_same = some ⟨oc__law_same, od__law_same, .func (PySem.W.fnOf "_law_same" "_law_same" (defArgs s__law_same) (defBody s__law_same) (defScope s__law_same) .none kV__law_same dc__law_same pm__law_same an__law_same cd__law_same ct__law_same), sl__law_same⟩)
    (c__law_same : PySem.W.codeIn K cd__law_same "_law_same" = true)
    (k__law_same : PySem.W.keepIn K (.ref f__law_same) = true)
    (a__law_any_reader : PySem.W.nsIn K mainGlobals "_law_any_reader" = some (some (.ref f__law_any_reader)))
    (l__law_any_reader : K.lookup f__law_any_reader = some ⟨oc__law_any_reader, od__law_any_reader, .func (PySem.W.fnOf "_law_any_reader" "_law_any_reader" (defArgs s__law_any_reader) (defBody s__law_any_reader) (defScope s__law_any_reader) .none kV__law_any_reader dc__law_any_reader pm__law_any_reader an__law_any_reader cd__law_any_reader ct__law_any_reader), sl__law_any_reader⟩)
    (c__law_any_reader : PySem.W.codeIn K cd__law_any_reader "_law_any_reader" = true)
    (k__law_any_reader : PySem.W.keepIn K (.ref f__law_any_reader) = true)
    (a__law_more_signs : PySem.W.nsIn K mainGlobals "_law_more_signs" = some (some (.ref f__law_more_signs)))
    (l__law_more_signs : K.lookup f__law_more_signs = some ⟨oc__law_more_signs, od__law_more_signs, .func (PySem.W.fnOf "_law_more_signs" "_law_more_signs" (defArgs s__law_more_signs) (defBody s__law_more_signs) (defScope s__law_more_signs) .none kV__law_more_signs dc__law_more_signs pm__law_more_signs an__law_more_signs cd__law_more_signs ct__law_more_signs), sl__law_more_signs⟩)
    (c__law_more_signs : PySem.W.codeIn K cd__law_more_signs "_law_more_signs" = true)
    (k__law_more_signs : PySem.W.keepIn K (.ref f__law_more_signs) = true)
    (a__law_wider : PySem.W.nsIn K mainGlobals "_law_wider" = some (some (.ref f__law_wider)))
    (l__law_wider : K.lookup f__law_wider = some ⟨oc__law_wider, od__law_wider, .func (PySem.W.fnOf "_law_wider" "_law_wider" (defArgs s__law_wider) (defBody s__law_wider) (defScope s__law_wider) .none kV__law_wider dc__law_wider pm__law_wider an__law_wider cd__law_wider ct__law_wider), sl__law_wider⟩)
    (c__law_wider : PySem.W.codeIn K cd__law_wider "_law_wider" = true)
    (k__law_wider : PySem.W.keepIn K (.ref f__law_wider) = true)
    (a__law_wide_row : PySem.W.nsIn K mainGlobals "_law_wide_row" = some (some (.ref f__law_wide_row)))
    (l__law_wide_row : K.lookup f__law_wide_row = some ⟨oc__law_wide_row, od__law_wide_row, .func (PySem.W.fnOf "_law_wide_row" "_law_wide_row" (defArgs s__law_wide_row) (defBody s__law_wide_row) (defScope s__law_wide_row) .none kV__law_wide_row dc__law_wide_row pm__law_wide_row an__law_wide_row cd__law_wide_row ct__law_wide_row), sl__law_wide_row⟩)
    (c__law_wide_row : PySem.W.codeIn K cd__law_wide_row "_law_wide_row" = true)
    (k__law_wide_row : PySem.W.keepIn K (.ref f__law_wide_row) = true)
    (a__law_odd : PySem.W.nsIn K mainGlobals "_law_odd" = some (some (.ref f__law_odd)))
    (l__law_odd : K.lookup f__law_odd = some ⟨oc__law_odd, od__law_odd, .func (PySem.W.fnOf "_law_odd" "_law_odd" (defArgs s__law_odd) (defBody s__law_odd) (defScope s__law_odd) .none kV__law_odd dc__law_odd pm__law_odd an__law_odd cd__law_odd ct__law_odd), sl__law_odd⟩)
    (c__law_odd : PySem.W.codeIn K cd__law_odd "_law_odd" = true)
    (k__law_odd : PySem.W.keepIn K (.ref f__law_odd) = true)
    (a__law_bent : PySem.W.nsIn K mainGlobals "_law_bent" = some (some (.ref f__law_bent)))
    (l__law_bent : K.lookup f__law_bent = some ⟨oc__law_bent, od__law_bent, .func (PySem.W.fnOf "_law_bent" "_law_bent" (defArgs s__law_bent) (defBody s__law_bent) (defScope s__law_bent) .none kV__law_bent dc__law_bent pm__law_bent an__law_bent cd__law_bent ct__law_bent), sl__law_bent⟩)
    (c__law_bent : PySem.W.codeIn K cd__law_bent "_law_bent" = true)
    (k__law_bent : PySem.W.keepIn K (.ref f__law_bent) = true)
    (a__law_is_number : PySem.W.nsIn K mainGlobals "_law_is_number" = some (some (.ref f__law_is_number)))
    (l__law_is_number : K.lookup f__law_is_number = some ⟨oc__law_is_number, od__law_is_number, .func (PySem.W.fnOf "_law_is_number" "_law_is_number" (defArgs s__law_is_number) (defBody s__law_is_number) (defScope s__law_is_number) .none kV__law_is_number dc__law_is_number pm__law_is_number an__law_is_number cd__law_is_number ct__law_is_number), sl__law_is_number⟩)
    (c__law_is_number : PySem.W.codeIn K cd__law_is_number "_law_is_number" = true)
    (k__law_is_number : PySem.W.keepIn K (.ref f__law_is_number) = true)
    (a__law_are_signs : PySem.W.nsIn K mainGlobals "_law_are_signs" = some (some (.ref f__law_are_signs)))
    (l__law_are_signs : K.lookup f__law_are_signs = some ⟨oc__law_are_signs, od__law_are_signs, .func (PySem.W.fnOf "_law_are_signs" "_law_are_signs" (defArgs s__law_are_signs) (defBody s__law_are_signs) (defScope s__law_are_signs) .none kV__law_are_signs dc__law_are_signs pm__law_are_signs an__law_are_signs cd__law_are_signs ct__law_are_signs), sl__law_are_signs⟩)
    (c__law_are_signs : PySem.W.codeIn K cd__law_are_signs "_law_are_signs" = true)
    (k__law_are_signs : PySem.W.keepIn K (.ref f__law_are_signs) = true)
    (a__law_is_text : PySem.W.nsIn K mainGlobals "_law_is_text" = some (some (.ref f__law_is_text)))
    (l__law_is_text : K.lookup f__law_is_text = some ⟨oc__law_is_text, od__law_is_text, .func (PySem.W.fnOf "_law_is_text" "_law_is_text" (defArgs s__law_is_text) (defBody s__law_is_text) (defScope s__law_is_text) .none kV__law_is_text dc__law_is_text pm__law_is_text an__law_is_text cd__law_is_text ct__law_is_text), sl__law_is_text⟩)
    (c__law_is_text : PySem.W.codeIn K cd__law_is_text "_law_is_text" = true)
    (k__law_is_text : PySem.W.keepIn K (.ref f__law_is_text) = true)
    (a__law_is_reader : PySem.W.nsIn K mainGlobals "_law_is_reader" = some (some (.ref f__law_is_reader)))
    (l__law_is_reader : K.lookup f__law_is_reader = some ⟨oc__law_is_reader, od__law_is_reader, .func (PySem.W.fnOf "_law_is_reader" "_law_is_reader" (defArgs s__law_is_reader) (defBody s__law_is_reader) (defScope s__law_is_reader) .none kV__law_is_reader dc__law_is_reader pm__law_is_reader an__law_is_reader cd__law_is_reader ct__law_is_reader), sl__law_is_reader⟩)
    (c__law_is_reader : PySem.W.codeIn K cd__law_is_reader "_law_is_reader" = true)
    (k__law_is_reader : PySem.W.keepIn K (.ref f__law_is_reader) = true)
    (a__law_is_row : PySem.W.nsIn K mainGlobals "_law_is_row" = some (some (.ref f__law_is_row)))
    (l__law_is_row : K.lookup f__law_is_row = some ⟨oc__law_is_row, od__law_is_row, .func (PySem.W.fnOf "_law_is_row" "_law_is_row" (defArgs s__law_is_row) (defBody s__law_is_row) (defScope s__law_is_row) .none kV__law_is_row dc__law_is_row pm__law_is_row an__law_is_row cd__law_is_row ct__law_is_row), sl__law_is_row⟩)
    (c__law_is_row : PySem.W.codeIn K cd__law_is_row "_law_is_row" = true)
    (k__law_is_row : PySem.W.keepIn K (.ref f__law_is_row) = true)
    (a__law_is_web : PySem.W.nsIn K mainGlobals "_law_is_web" = some (some (.ref f__law_is_web)))
    (l__law_is_web : K.lookup f__law_is_web = some ⟨oc__law_is_web, od__law_is_web, .func (PySem.W.fnOf "_law_is_web" "_law_is_web" (defArgs s__law_is_web) (defBody s__law_is_web) (defScope s__law_is_web) .none kV__law_is_web dc__law_is_web pm__law_is_web an__law_is_web cd__law_is_web ct__law_is_web), sl__law_is_web⟩)
    (c__law_is_web : PySem.W.codeIn K cd__law_is_web "_law_is_web" = true)
    (k__law_is_web : PySem.W.keepIn K (.ref f__law_is_web) = true)
    (a__law_right : PySem.W.nsIn K mainGlobals "_law_right" = some (some (.ref f__law_right)))
    (l__law_right : K.lookup f__law_right = some ⟨oc__law_right, od__law_right, .func (PySem.W.fnOf "_law_right" "_law_right" (defArgs s__law_right) (defBody s__law_right) (defScope s__law_right) .none kV__law_right dc__law_right pm__law_right an__law_right cd__law_right ct__law_right), sl__law_right⟩)
    (c__law_right : PySem.W.codeIn K cd__law_right "_law_right" = true)
    (k__law_right : PySem.W.keepIn K (.ref f__law_right) = true)
    (a__law_shuffled : PySem.W.nsIn K mainGlobals "_law_shuffled" = some (some (.ref f__law_shuffled)))
    (l__law_shuffled : K.lookup f__law_shuffled = some ⟨oc__law_shuffled, od__law_shuffled, .func (PySem.W.fnOf "_law_shuffled" "_law_shuffled" (defArgs s__law_shuffled) (defBody s__law_shuffled) (defScope s__law_shuffled) .none kV__law_shuffled dc__law_shuffled pm__law_shuffled an__law_shuffled cd__law_shuffled ct__law_shuffled), sl__law_shuffled⟩)
    (c__law_shuffled : PySem.W.codeIn K cd__law_shuffled "_law_shuffled" = true)
    (k__law_shuffled : PySem.W.keepIn K (.ref f__law_shuffled) = true)
    (a_law : PySem.W.nsIn K mainGlobals "law" = some (some (.ref f_law)))
    (l_law : K.lookup f_law = some ⟨oc_law, od_law, .func (PySem.W.fnOf "law" "law" (defArgs s_law) (defBody s_law) (defScope s_law) .none kV_law dc_law pm_law an_law cd_law ct_law), sl_law⟩)
    (c_law : PySem.W.codeIn K cd_law "law" = true)
    (k_law : PySem.W.keepIn K (.ref f_law) = true)
    (m_FIRST_SIGN : ∃ t, PySem.W.nsIn K mainGlobals "FIRST_SIGN" = some (some (.str (PySem.Str.ofString "!") t)))
    (m_LAST_SIGN : ∃ t, PySem.W.nsIn K mainGlobals "LAST_SIGN" = some (some (.str (PySem.Str.ofString "~") t)))
    (m_MOST_SIGNS : ∃ t, PySem.W.nsIn K mainGlobals "MOST_SIGNS" = some (some (.int 8 t)))
    (m_MOST_STATES : ∃ t, PySem.W.nsIn K mainGlobals "MOST_STATES" = some (some (.int 6 t)))
    (m_MOST_TOLD : ∃ t, PySem.W.nsIn K mainGlobals "MOST_TOLD" = some (some (.int 3 t)))
    (m_MOST_READERS : ∃ t, PySem.W.nsIn K mainGlobals "MOST_READERS" = some (some (.int 3 t)))
    (m_MOST_ROWS : ∃ t, PySem.W.nsIn K mainGlobals "MOST_ROWS" = some (some (.int 3 t)))
    (z_all : PySem.W.nsIn K mainGlobals "all" = some none)
    (z_bool : PySem.W.nsIn K mainGlobals "bool" = some none)
    (z_enumerate : PySem.W.nsIn K mainGlobals "enumerate" = some none)
    (z_int : PySem.W.nsIn K mainGlobals "int" = some none)
    (z_isinstance : PySem.W.nsIn K mainGlobals "isinstance" = some none)
    (z_len : PySem.W.nsIn K mainGlobals "len" = some none)
    (z_list : PySem.W.nsIn K mainGlobals "list" = some none)
    (z_min : PySem.W.nsIn K mainGlobals "min" = some none)
    (z_range : PySem.W.nsIn K mainGlobals "range" = some none)
    (z_repr : PySem.W.nsIn K mainGlobals "repr" = some none)
    (z_set : PySem.W.nsIn K mainGlobals "set" = some none)
    (z_sorted : PySem.W.nsIn K mainGlobals "sorted" = some none)
    (z_str : PySem.W.nsIn K mainGlobals "str" = some none)
    (z_tuple : PySem.W.nsIn K mainGlobals "tuple" = some none)
    (z_zip : PySem.W.nsIn K mainGlobals "zip" = some none) :
    ∃ fd : FuncData, (∀ (s : Shared) (v : Value), BindsTo s fd ⟨[v], []⟩ [("script", v)]) ∧ ∀ base : Heap, K.In base → base.Ns mainGlobals mg → FnG l.prog w K mg base CX0 13 fa fd ["script"] (sp_law K) := by
  have e := hfa.symm.trans (PySem.W.mg_of X G a_law)
  cases e
  have F_is_number_below := fun_mk (st := s_is_number_below) l_is_number_below c_is_number_below k_is_number_below
  have b_is_number_below := F_is_number_below.binds (ps := ["thing", "bound"]) fun _ _ _ _ _ _ us hl => match us, hl with | [_, _], _ => rfl
  have F_is_tuple := fun_mk (st := s_is_tuple) l_is_tuple c_is_tuple k_is_tuple
  have b_is_tuple := F_is_tuple.binds (ps := ["thing", "least", "most"]) fun _ _ _ _ _ _ us hl => match us, hl with | [_, _, _], _ => rfl
  have F_is_text := fun_mk (st := s_is_text) l_is_text c_is_text k_is_text
  have b_is_text := F_is_text.binds (ps := ["thing", "signs", "most"]) fun _ _ _ _ _ _ us hl => match us, hl with | [_, _, _], _ => rfl
  have F_is_signs := fun_mk (st := s_is_signs) l_is_signs c_is_signs k_is_signs
  have b_is_signs := F_is_signs.binds (ps := ["thing"]) fun _ _ _ _ _ _ us hl => match us, hl with | [_], _ => rfl
  have F_is_reader := fun_mk (st := s_is_reader) l_is_reader c_is_reader k_is_reader
  have b_is_reader := F_is_reader.binds (ps := ["thing"]) fun _ _ _ _ _ _ us hl => match us, hl with | [_], _ => rfl
  have F_is_state := fun_mk (st := s_is_state) l_is_state c_is_state k_is_state
  have b_is_state := F_is_state.binds (ps := ["thing", "many_ways", "tells", "many_states"]) fun _ _ _ _ _ _ us hl => match us, hl with | [_, _, _, _], _ => rfl
  have F_is_way := fun_mk (st := s_is_way) l_is_way c_is_way k_is_way
  have b_is_way := F_is_way.binds (ps := ["thing", "tells", "many_states"]) fun _ _ _ _ _ _ us hl => match us, hl with | [_, _, _], _ => rfl
  have F_is_row := fun_mk (st := s_is_row) l_is_row c_is_row k_is_row
  have b_is_row := F_is_row.binds (ps := ["thing"]) fun _ _ _ _ _ _ us hl => match us, hl with | [_], _ => rfl
  have F_fits := fun_mk (st := s_fits) l_fits c_fits k_fits
  have b_fits := F_fits.binds (ps := ["ahead", "behind"]) fun _ _ _ _ _ _ us hl => match us, hl with | [_, _], _ => rfl
  have F_is_web := fun_mk (st := s_is_web) l_is_web c_is_web k_is_web
  have b_is_web := F_is_web.binds (ps := ["thing"]) fun _ _ _ _ _ _ us hl => match us, hl with | [_], _ => rfl
  have F__law_open := fun_mk (st := s__law_open) l__law_open c__law_open k__law_open
  have b__law_open := F__law_open.binds (ps := ["script"]) fun _ _ _ _ _ _ us hl => match us, hl with | [_], _ => rfl
  have F__law_spread := fun_mk (st := s__law_spread) l__law_spread c__law_spread k__law_spread
  have b__law_spread := F__law_spread.binds (ps := ["cell", "at"]) fun _ _ _ _ _ _ us hl => match us, hl with | [_, _], _ => rfl
  have F__law_take := fun_mk (st := s__law_take) l__law_take c__law_take k__law_take
  have b__law_take := F__law_take.binds (ps := ["pen", "amount"]) fun _ _ _ _ _ _ us hl => match us, hl with | [_, _], _ => rfl
  have F__law_some_signs := fun_mk (st := s__law_some_signs) l__law_some_signs c__law_some_signs k__law_some_signs
  have b__law_some_signs := F__law_some_signs.binds (ps := ["pen", "amount"]) fun _ _ _ _ _ _ us hl => match us, hl with | [_, _], _ => rfl
  have F__law_some_text := fun_mk (st := s__law_some_text) l__law_some_text c__law_some_text k__law_some_text
  have b__law_some_text := F__law_some_text.binds (ps := ["pen", "signs", "most"]) fun _ _ _ _ _ _ us hl => match us, hl with | [_, _, _], _ => rfl
  have F__law_same := fun_mk (st := s__law_same) l__law_same c__law_same k__law_same
  have b__law_same := F__law_same.binds (ps := ["found", "due"]) fun _ _ _ _ _ _ us hl => match us, hl with | [_, _], _ => rfl
  have F__law_any_reader := fun_mk (st := s__law_any_reader) l__law_any_reader c__law_any_reader k__law_any_reader
  have b__law_any_reader := F__law_any_reader.binds (ps := ["pen", "reads", "tells", "size", "most"]) fun _ _ _ _ _ _ us hl => match us, hl with | [_, _, _, _, _], _ => rfl
  have F__law_more_signs := fun_mk (st := s__law_more_signs) l__law_more_signs c__law_more_signs k__law_more_signs
  have b__law_more_signs := F__law_more_signs.binds (ps := ["pen", "reads"]) fun _ _ _ _ _ _ us hl => match us, hl with | [_, _], _ => rfl
  have F__law_wider := fun_mk (st := s__law_wider) l__law_wider c__law_wider k__law_wider
  have b__law_wider := F__law_wider.binds (ps := ["pen", "signs"]) fun _ _ _ _ _ _ us hl => match us, hl with | [_, _], _ => rfl
  have F__law_wide_row := fun_mk (st := s__law_wide_row) l__law_wide_row c__law_wide_row k__law_wide_row
  have b__law_wide_row := F__law_wide_row.binds (ps := ["pen", "reads", "often", "size", "most"]) fun _ _ _ _ _ _ us hl => match us, hl with | [_, _, _, _, _], _ => rfl
  have F__law_odd := fun_mk (st := s__law_odd) l__law_odd c__law_odd k__law_odd
  have b__law_odd := F__law_odd.binds (ps := ["pen", "thing"]) fun _ _ _ _ _ _ us hl => match us, hl with | [_, _], _ => rfl
  have F__law_bent := fun_mk (st := s__law_bent) l__law_bent c__law_bent k__law_bent
  have b__law_bent := F__law_bent.binds (ps := ["pen", "thing"]) fun _ _ _ _ _ _ us hl => match us, hl with | [_, _], _ => rfl
  have F__law_is_number := fun_mk (st := s__law_is_number) l__law_is_number c__law_is_number k__law_is_number
  have b__law_is_number := F__law_is_number.binds (ps := ["thing", "bound"]) fun _ _ _ _ _ _ us hl => match us, hl with | [_, _], _ => rfl
  have F__law_are_signs := fun_mk (st := s__law_are_signs) l__law_are_signs c__law_are_signs k__law_are_signs
  have b__law_are_signs := F__law_are_signs.binds (ps := ["thing"]) fun _ _ _ _ _ _ us hl => match us, hl with | [_], _ => rfl
  have F__law_is_text := fun_mk (st := s__law_is_text) l__law_is_text c__law_is_text k__law_is_text
  have b__law_is_text := F__law_is_text.binds (ps := ["thing", "signs", "most"]) fun _ _ _ _ _ _ us hl => match us, hl with | [_, _, _], _ => rfl
  have F__law_is_reader := fun_mk (st := s__law_is_reader) l__law_is_reader c__law_is_reader k__law_is_reader
  have b__law_is_reader := F__law_is_reader.binds (ps := ["thing"]) fun _ _ _ _ _ _ us hl => match us, hl with | [_], _ => rfl
  have F__law_is_row := fun_mk (st := s__law_is_row) l__law_is_row c__law_is_row k__law_is_row
  have b__law_is_row := F__law_is_row.binds (ps := ["thing"]) fun _ _ _ _ _ _ us hl => match us, hl with | [_], _ => rfl
  have F__law_is_web := fun_mk (st := s__law_is_web) l__law_is_web c__law_is_web k__law_is_web
  have b__law_is_web := F__law_is_web.binds (ps := ["thing"]) fun _ _ _ _ _ _ us hl => match us, hl with | [_], _ => rfl
  have F__law_right := fun_mk (st := s__law_right) l__law_right c__law_right k__law_right
  have b__law_right := F__law_right.binds (ps := ["thing"]) fun _ _ _ _ _ _ us hl => match us, hl with | [_], _ => rfl
  have F__law_shuffled := fun_mk (st := s__law_shuffled) l__law_shuffled c__law_shuffled k__law_shuffled
  have b__law_shuffled := F__law_shuffled.binds (ps := ["pen", "web", "reads"]) fun _ _ _ _ _ _ us hl => match us, hl with | [_, _, _], _ => rfl
  have F_law := fun_mk (st := s_law) l_law c_law k_law
  have b_law := F_law.binds (ps := ["script"]) fun _ _ _ _ _ _ us hl => match us, hl with | [_], _ => rfl
  let T : Top K mg := { f_is_number_below := _, fd_is_number_below := _, F_is_number_below := F_is_number_below, b_is_number_below := b_is_number_below, g_is_number_below := PySem.W.mg_of X G a_is_number_below, f_is_tuple := _, fd_is_tuple := _, F_is_tuple := F_is_tuple, b_is_tuple := b_is_tuple, g_is_tuple := PySem.W.mg_of X G a_is_tuple, f_is_text := _, fd_is_text := _, F_is_text := F_is_text, b_is_text := b_is_text, g_is_text := PySem.W.mg_of X G a_is_text, f_is_signs := _, fd_is_signs := _, F_is_signs := F_is_signs, b_is_signs := b_is_signs, g_is_signs := PySem.W.mg_of X G a_is_signs, f_is_reader := _, fd_is_reader := _, F_is_reader := F_is_reader, b_is_reader := b_is_reader, g_is_reader := PySem.W.mg_of X G a_is_reader, f_is_state := _, fd_is_state := _, F_is_state := F_is_state, b_is_state := b_is_state, g_is_state := PySem.W.mg_of X G a_is_state, f_is_way := _, fd_is_way := _, F_is_way := F_is_way, b_is_way := b_is_way, g_is_way := PySem.W.mg_of X G a_is_way, f_is_row := _, fd_is_row := _, F_is_row := F_is_row, b_is_row := b_is_row, g_is_row := PySem.W.mg_of X G a_is_row, f_fits := _, fd_fits := _, F_fits := F_fits, b_fits := b_fits, g_fits := PySem.W.mg_of X G a_fits, f_is_web := _, fd_is_web := _, F_is_web := F_is_web, b_is_web := b_is_web, g_is_web := PySem.W.mg_of X G a_is_web, f__law_open := _, fd__law_open := _, F__law_open := F__law_open, b__law_open := b__law_open, g__law_open := PySem.W.mg_of X G a__law_open, f__law_spread := _, fd__law_spread := _, F__law_spread := F__law_spread, b__law_spread := b__law_spread, g__law_spread := PySem.W.mg_of X G a__law_spread, f__law_take := _, fd__law_take := _, F__law_take := F__law_take, b__law_take := b__law_take, g__law_take := PySem.W.mg_of X G a__law_take, f__law_some_signs := _, fd__law_some_signs := _, F__law_some_signs := F__law_some_signs, b__law_some_signs := b__law_some_signs, g__law_some_signs := PySem.W.mg_of X G a__law_some_signs, f__law_some_text := _, fd__law_some_text := _, F__law_some_text := F__law_some_text, b__law_some_text := b__law_some_text, g__law_some_text := PySem.W.mg_of X G a__law_some_text, f__law_same := _, fd__law_same := _, F__law_same := F__law_same, b__law_same := b__law_same, g__law_same := PySem.W.mg_of X G a__law_same, f__law_any_reader := _, fd__law_any_reader := _, F__law_any_reader := F__law_any_reader, b__law_any_reader := b__law_any_reader, g__law_any_reader := PySem.W.mg_of X G a__law_any_reader, f__law_more_signs := _, fd__law_more_signs := _, F__law_more_signs := F__law_more_signs, b__law_more_signs := b__law_more_signs, g__law_more_signs := PySem.W.mg_of X G a__law_more_signs, f__law_wider := _, fd__law_wider := _, F__law_wider := F__law_wider, b__law_wider := b__law_wider, g__law_wider := PySem.W.mg_of X G a__law_wider, f__law_wide_row := _, fd__law_wide_row := _, F__law_wide_row := F__law_wide_row, b__law_wide_row := b__law_wide_row, g__law_wide_row := PySem.W.mg_of X G a__law_wide_row, f__law_odd := _, fd__law_odd := _, F__law_odd := F__law_odd, b__law_odd := b__law_odd, g__law_odd := PySem.W.mg_of X G a__law_odd, f__law_bent := _, fd__law_bent := _, F__law_bent := F__law_bent, b__law_bent := b__law_bent, g__law_bent := PySem.W.mg_of X G a__law_bent, f__law_is_number := _, fd__law_is_number := _, F__law_is_number := F__law_is_number, b__law_is_number := b__law_is_number, g__law_is_number := PySem.W.mg_of X G a__law_is_number, f__law_are_signs := _, fd__law_are_signs := _, F__law_are_signs := F__law_are_signs, b__law_are_signs := b__law_are_signs, g__law_are_signs := PySem.W.mg_of X G a__law_are_signs, f__law_is_text := _, fd__law_is_text := _, F__law_is_text := F__law_is_text, b__law_is_text := b__law_is_text, g__law_is_text := PySem.W.mg_of X G a__law_is_text, f__law_is_reader := _, fd__law_is_reader := _, F__law_is_reader := F__law_is_reader, b__law_is_reader := b__law_is_reader, g__law_is_reader := PySem.W.mg_of X G a__law_is_reader, f__law_is_row := _, fd__law_is_row := _, F__law_is_row := F__law_is_row, b__law_is_row := b__law_is_row, g__law_is_row := PySem.W.mg_of X G a__law_is_row, f__law_is_web := _, fd__law_is_web := _, F__law_is_web := F__law_is_web, b__law_is_web := b__law_is_web, g__law_is_web := PySem.W.mg_of X G a__law_is_web, f__law_right := _, fd__law_right := _, F__law_right := F__law_right, b__law_right := b__law_right, g__law_right := PySem.W.mg_of X G a__law_right, f__law_shuffled := _, fd__law_shuffled := _, F__law_shuffled := F__law_shuffled, b__law_shuffled := b__law_shuffled, g__law_shuffled := PySem.W.mg_of X G a__law_shuffled, f_law := _, fd_law := _, F_law := F_law, b_law := b_law, g_law := PySem.W.mg_of X G a_law, m_FIRST_SIGN := let ⟨t, e⟩ := m_FIRST_SIGN; ⟨t, PySem.W.mg_of X G e⟩, m_LAST_SIGN := let ⟨t, e⟩ := m_LAST_SIGN; ⟨t, PySem.W.mg_of X G e⟩, m_MOST_SIGNS := let ⟨t, e⟩ := m_MOST_SIGNS; ⟨t, PySem.W.mg_of X G e⟩, m_MOST_STATES := let ⟨t, e⟩ := m_MOST_STATES; ⟨t, PySem.W.mg_of X G e⟩, m_MOST_TOLD := let ⟨t, e⟩ := m_MOST_TOLD; ⟨t, PySem.W.mg_of X G e⟩, m_MOST_READERS := let ⟨t, e⟩ := m_MOST_READERS; ⟨t, PySem.W.mg_of X G e⟩, m_MOST_ROWS := let ⟨t, e⟩ := m_MOST_ROWS; ⟨t, PySem.W.mg_of X G e⟩, m_all := PySem.W.mg_none_of X G z_all, m_bool := PySem.W.mg_none_of X G z_bool, m_enumerate := PySem.W.mg_none_of X G z_enumerate, m_int := PySem.W.mg_none_of X G z_int, m_isinstance := PySem.W.mg_none_of X G z_isinstance, m_len := PySem.W.mg_none_of X G z_len, m_list := PySem.W.mg_none_of X G z_list, m_min := PySem.W.mg_none_of X G z_min, m_range := PySem.W.mg_none_of X G z_range, m_repr := PySem.W.mg_none_of X G z_repr, m_set := PySem.W.mg_none_of X G z_set, m_sorted := PySem.W.mg_none_of X G z_sorted, m_str := PySem.W.mg_none_of X G z_str, m_tuple := PySem.W.mg_none_of X G z_tuple, m_zip := PySem.W.mg_none_of X G z_zip }
  exact ⟨T.fd_law, fun s v => .of_eq rfl, fun base _ _ => ok_law T⟩
end Kx
open PySem PySem.W PyProof.Rows
set_option maxHeartbeats 0 in
theorem PySem.Challenge.cw_foeholes_k05_what_are_rows_and_webs_holds : PySem.Challenge.rw_foeholes_k05_what_are_rows_and_webs.Holds := by
  w_on; o_law; k_head; (case hw => w_witness2)
  k_fill
  refine Fo.walkG (l := PySem.Challenge.rw_foeholes_k05_what_are_rows_and_webs) (n := 63) (k := 13) (x := "script") (sp := Kx.sp_law) rfl (by decide) rfl
    ⟨rfl, by decide, by decide⟩ (fun w h Y => PySem.W.kIn_of Y) ?F (fun K H a ns hl hS => ⟨a, ns, rfl, hS, hl, fun _ => rfl⟩)
  case F =>
    intro w mg fa h KX G hmg
    refine' Kx.all_mk KX G hmg ?a_is_number_below ?l_is_number_below ?c_is_number_below ?k_is_number_below ?a_is_tuple ?l_is_tuple ?c_is_tuple ?k_is_tuple ?a_is_text ?l_is_text ?c_is_text ?k_is_text ?a_is_signs ?l_is_signs ?c_is_signs ?k_is_signs ?a_is_reader ?l_is_reader ?c_is_reader ?k_is_reader ?a_is_state ?l_is_state ?c_is_state ?k_is_state ?a_is_way ?l_is_way ?c_is_way ?k_is_way ?a_is_row ?l_is_row ?c_is_row ?k_is_row ?a_fits ?l_fits ?c_fits ?k_fits ?a_is_web ?l_is_web ?c_is_web ?k_is_web ?a__law_open ?l__law_open ?c__law_open ?k__law_open ?a__law_spread ?l__law_spread ?c__law_spread ?k__law_spread ?a__law_take ?l__law_take ?c__law_take ?k__law_take ?a__law_some_signs ?l__law_some_signs ?c__law_some_signs ?k__law_some_signs ?a__law_some_text ?l__law_some_text ?c__law_some_text ?k__law_some_text ?a__law_same ?l__law_same ?c__law_same ?k__law_same ?a__law_any_reader ?l__law_any_reader ?c__law_any_reader ?k__law_any_reader ?a__law_more_signs ?l__law_more_signs ?c__law_more_signs ?k__law_more_signs ?a__law_wider ?l__law_wider ?c__law_wider ?k__law_wider ?a__law_wide_row ?l__law_wide_row ?c__law_wide_row ?k__law_wide_row ?a__law_odd ?l__law_odd ?c__law_odd ?k__law_odd ?a__law_bent ?l__law_bent ?c__law_bent ?k__law_bent ?a__law_is_number ?l__law_is_number ?c__law_is_number ?k__law_is_number ?a__law_are_signs ?l__law_are_signs ?c__law_are_signs ?k__law_are_signs ?a__law_is_text ?l__law_is_text ?c__law_is_text ?k__law_is_text ?a__law_is_reader ?l__law_is_reader ?c__law_is_reader ?k__law_is_reader ?a__law_is_row ?l__law_is_row ?c__law_is_row ?k__law_is_row ?a__law_is_web ?l__law_is_web ?c__law_is_web ?k__law_is_web ?a__law_right ?l__law_right ?c__law_right ?k__law_right ?a__law_shuffled ?l__law_shuffled ?c__law_shuffled ?k__law_shuffled ?a_law ?l_law ?c_law ?k_law ?m_FIRST_SIGN ?m_LAST_SIGN ?m_MOST_SIGNS ?m_MOST_STATES ?m_MOST_TOLD ?m_MOST_READERS ?m_MOST_ROWS ?z_all ?z_bool ?z_enumerate ?z_int ?z_isinstance ?z_len ?z_list ?z_min ?z_range ?z_repr ?z_set ?z_sorted ?z_str ?z_tuple ?z_zip
    (case a_is_number_below => k_is)
    (case l_is_number_below => k_is)
    (case c_is_number_below => k_is)
    (case k_is_number_below => k_is)
    (case a_is_tuple => k_is)
    (case l_is_tuple => k_is)
    (case c_is_tuple => k_is)
    (case k_is_tuple => k_is)
    (case a_is_text => k_is)
    (case l_is_text => k_is)
    (case c_is_text => k_is)
    (case k_is_text => k_is)
    (case a_is_signs => k_is)
    (case l_is_signs => k_is)
    (case c_is_signs => k_is)
    (case k_is_signs => k_is)
    (case a_is_reader => k_is)
    (case l_is_reader => k_is)
    (case c_is_reader => k_is)
    (case k_is_reader => k_is)
    (case a_is_state => k_is)
    (case l_is_state => k_is)
    (case c_is_state => k_is)
    (case k_is_state => k_is)
    (case a_is_way => k_is)
    (case l_is_way => k_is)
    (case c_is_way => k_is)
    (case k_is_way => k_is)
    (case a_is_row => k_is)
    (case l_is_row => k_is)
    (case c_is_row => k_is)
    (case k_is_row => k_is)
    (case a_fits => k_is)
    (case l_fits => k_is)
    (case c_fits => k_is)
    (case k_fits => k_is)
    (case a_is_web => k_is)
    (case l_is_web => k_is)
    (case c_is_web => k_is)
    (case k_is_web => k_is)
    (case a__law_open => k_is)
    (case l__law_open => k_is)
    (case c__law_open => k_is)
    (case k__law_open => k_is)
    (case a__law_spread => k_is)
    (case l__law_spread => k_is)
    (case c__law_spread => k_is)
    (case k__law_spread => k_is)
    (case a__law_take => k_is)
    (case l__law_take => k_is)
    (case c__law_take => k_is)
    (case k__law_take => k_is)
    (case a__law_some_signs => k_is)
    (case l__law_some_signs => k_is)
    (case c__law_some_signs => k_is)
    (case k__law_some_signs => k_is)
    (case a__law_some_text => k_is)
    (case l__law_some_text => k_is)
    (case c__law_some_text => k_is)
    (case k__law_some_text => k_is)
    (case a__law_same => k_is)
    (case l__law_same => k_is)
    (case c__law_same => k_is)
    (case k__law_same => k_is)
    (case a__law_any_reader => k_is)
    (case l__law_any_reader => k_is)
    (case c__law_any_reader => k_is)
    (case k__law_any_reader => k_is)
    (case a__law_more_signs => k_is)
    (case l__law_more_signs => k_is)
    (case c__law_more_signs => k_is)
    (case k__law_more_signs => k_is)
    (case a__law_wider => k_is)
    (case l__law_wider => k_is)
    (case c__law_wider => k_is)
    (case k__law_wider => k_is)
    (case a__law_wide_row => k_is)
    (case l__law_wide_row => k_is)
    (case c__law_wide_row => k_is)
    (case k__law_wide_row => k_is)
    (case a__law_odd => k_is)
    (case l__law_odd => k_is)
    (case c__law_odd => k_is)
    (case k__law_odd => k_is)
    (case a__law_bent => k_is)
    (case l__law_bent => k_is)
    (case c__law_bent => k_is)
    (case k__law_bent => k_is)
    (case a__law_is_number => k_is)
    (case l__law_is_number => k_is)
    (case c__law_is_number => k_is)
    (case k__law_is_number => k_is)
    (case a__law_are_signs => k_is)
    (case l__law_are_signs => k_is)
    (case c__law_are_signs => k_is)
    (case k__law_are_signs => k_is)
    (case a__law_is_text => k_is)
    (case l__law_is_text => k_is)
    (case c__law_is_text => k_is)
    (case k__law_is_text => k_is)
    (case a__law_is_reader => k_is)
    (case l__law_is_reader => k_is)
    (case c__law_is_reader => k_is)
    (case k__law_is_reader => k_is)
    (case a__law_is_row => k_is)
    (case l__law_is_row => k_is)
    (case c__law_is_row => k_is)
    (case k__law_is_row => k_is)
    (case a__law_is_web => k_is)
    (case l__law_is_web => k_is)
    (case c__law_is_web => k_is)
    (case k__law_is_web => k_is)
    (case a__law_right => k_is)
    (case l__law_right => k_is)
    (case c__law_right => k_is)
    (case k__law_right => k_is)
    (case a__law_shuffled => k_is)
    (case l__law_shuffled => k_is)
    (case c__law_shuffled => k_is)
    (case k__law_shuffled => k_is)
    (case a_law => k_is)
    (case l_law => k_is)
    (case c_law => k_is)
    (case k_law => k_is)
    (case m_FIRST_SIGN => exact ⟨_, by k_is⟩)
    (case m_LAST_SIGN => exact ⟨_, by k_is⟩)
    (case m_MOST_SIGNS => exact ⟨_, by k_is⟩)
    (case m_MOST_STATES => exact ⟨_, by k_is⟩)
    (case m_MOST_TOLD => exact ⟨_, by k_is⟩)
    (case m_MOST_READERS => exact ⟨_, by k_is⟩)
    (case m_MOST_ROWS => exact ⟨_, by k_is⟩)
    (case z_all => k_is)
    (case z_bool => k_is)
    (case z_enumerate => k_is)
    (case z_int => k_is)
    (case z_isinstance => k_is)
    (case z_len => k_is)
    (case z_list => k_is)
    (case z_min => k_is)
    (case z_range => k_is)
    (case z_repr => k_is)
    (case z_set => k_is)
    (case z_sorted => k_is)
    (case z_str => k_is)
    (case z_tuple => k_is)
    (case z_zip => k_is)

