import PyProof.Rows.All
import Wide.All
import OpenK.AllK
import Wide.FinOn
import HandS.ForMost
import HandS.Walk
import HandS.Zip
import HandS.TupAny
import HandS.Defaults
import HandS.IsInst
import HandS.Replace
import HandS.Flow
import HandS.Style
import HandS.Conv
import PyProof.ListStr
import PyProof.StrLawsFirst
import KE.GoesMore
import KE.GoesZip
import KE.GoesEnum
import PySem.Challenge.RW_foeholes_k11_words_of_lots_counted
set_option Elab.async false
set_option linter.all false
set_option maxRecDepth 100000
set_option maxHeartbeats 2000000
namespace Fo
open PySem PySem.Spec PyProof.Rows L2 RZ
/-! ### heaps -/
/-- tuples stay -/
def TS (H H' : Hp) : Prop := ∀ a xs, H a = some (.tup xs) → H' a = some (.tup xs)
theorem TS.refl (H : Hp) : TS H H := fun _ _ h => h
theorem TS.trans {H H1 H2 : Hp} (a : TS H H1) (b : TS H1 H2) : TS H H2 := fun c x h => b c x (a c x h)
theorem same_ts {H H' : Hp} (h : Same H H') : TS H H' := fun a xs e => h a _ e
theorem same_new {H : Hp} {p : Addr} {o : HO} (h : H p = none) : Same H (upd H p o) := fun b u q => by rw [upd_ne (ne_of_none q h)]; exact q
theorem TS.new {H : Hp} {p : Addr} {o : HO} (h : H p = none) : TS H (upd H p o) := same_ts (same_new h)
theorem TS.lst {H : Hp} {p : Addr} {xs : List V} {o : HO} (h : H p = some (.lst xs)) : TS H (upd H p o) := fun b u q => by
  rw [upd_ne (ne_of q h (by intro z; cases z))]; exact q
/-- all but what stands at p stays -/
def But (p : Addr) (H H' : Hp) : Prop := ∀ b o, b ≠ p → H b = some o → H' b = some o
theorem But.refl (p : Addr) (H : Hp) : But p H H := fun _ _ _ h => h
theorem But.trans {p : Addr} {H H1 H2 : Hp} (a : But p H H1) (b : But p H1 H2) : But p H H2 := fun c o n h => b c o n (a c o n h)
theorem same_but {H H' : Hp} (p : Addr) (h : Same H H') : But p H H' := fun b o _ e => h b o e
theorem But.upd {H : Hp} {p : Addr} {o : HO} : But p H (upd H p o) := fun b u n e => by rw [upd_ne n]; exact e
theorem But.ts {p : Addr} {H H' : Hp} {xs : List V} (h : But p H H') (hp : H p = some (.lst xs)) : TS H H' := fun a ys e => h a _ (ne_of e hp (by intro z; cases z)) e
section
variable {X : Cx}
/-! ### one rule an operator, whatever the kind -/
def rAddI : R2 := fun x y H Q => ∃ i j, x = .int i ∧ y = .int j ∧ Q (.int (i + j)) H
def rAddT : R2 := fun x y H Q => ∃ i j, x = .str i ∧ y = .str j ∧ i.length + j.length ≤ sizeLine ∧ Q (.str (i ++ j)) H
/-- what is wanted of a new object: told at any later heap that keeps the old -/
def New (o : HO) (H : Hp) (Q : VK) : Prop := ∀ p H', H p = none → Same H H' → H' p = some o → Q (.ref p) H'
/-- .. of an object that may be an old one -/
def Got (o : HO) (H : Hp) (Q : VK) : Prop := ∀ p H', Same H H' → H' p = some o → Q (.ref p) H'
theorem New.at {o : HO} {H : Hp} {Q : VK} (h : New o H Q) : ∀ p, H p = none → Q (.ref p) (upd H p o) := fun p np => h p _ np (same_new np) upd_same
theorem Got.new {o : HO} {H : Hp} {Q : VK} (h : Got o H Q) : New o H Q := fun p H' _ s e => h p H' s e
theorem OpR_imp {f : Value → Value → Sem Value} {r r' : R2} (h : OpR X f r) (i : ∀ x y H Q, r' x y H Q → r x y H Q) : OpR X f r' :=
  fun pins s σ H x y v u Q I rx ry q => h pins s σ H x y v u Q I rx ry (i _ _ _ _ q)
theorem CallR_imp {f : Value} {r r' : List V → Hp → VK → Prop} (h : CallR X f r) (i : ∀ xs H Q, r' xs H Q → r xs H Q) : CallR X f r' :=
  fun pins s σ H xs us Q I rs q => h pins s σ H xs us Q I rs (i _ _ _ q)
theorem SlR_imp {r r' : V → Option Int → Option Int → Hp → VK → Prop} (h : SlR X r) (i : ∀ x lo hi H Q, r' x lo hi H Q → r x lo hi H Q) : SlR X r' :=
  fun pins s σ H x v vl vu lo hi sl Q I rx hs pl pu q => h pins s σ H x v vl vu lo hi sl Q I rx hs pl pu (i _ _ _ _ _ q)
theorem MtM_imp {id : String} {r r' : V → List V → Hp → VK → Prop} (h : MtR X id r) (i : ∀ x xs H Q, r' x xs H Q → r x xs H Q) : MtR X id r' :=
  fun pins s σ H x xs v us Q I rx rs q => h pins s σ H x xs v us Q I rx rs (i _ _ _ _ q)
theorem PE_imp {e : Expr} {t t' : TE} (h : PE X e t) (i : ∀ σ H Q, t' σ H Q → t σ H Q) : PE X e t' := ⟨fun pins s σ H Q I q => h.run pins s σ H Q I (i _ _ _ q)⟩
def rCatL : R2 := fun x y H Q => ∃ l b xs zs, x = .ref l ∧ y = .ref b ∧ H l = some (.lst xs) ∧ H b = some (.lst zs) ∧ xs.length + zs.length ≤ sizeLine ∧ New (.lst (xs ++ zs)) H Q
def rCatU : R2 := fun x y H Q => ∃ a b xs ys, x = .ref a ∧ y = .ref b ∧ H a = some (.tup xs) ∧ H b = some (.tup ys) ∧ xs.length + ys.length ≤ sizeLine ∧ Got (.tup (xs ++ ys)) H Q
theorem op_catL : OpR X (binaryOp .Add) rCatL := OpR_imp op_cat fun x y H Q h => by
  obtain ⟨l, b, xs, zs, rfl, rfl, h1, h2, h3, q⟩ := h
  exact ⟨l, b, xs, zs, rfl, rfl, h1, h2, h3, q.at⟩
theorem op_catU : OpR X (binaryOp .Add) rCatU := OpR_imp op_catA fun x y H Q h => by
  obtain ⟨a, b, xs, ys, rfl, rfl, h1, h2, h3, q⟩ := h
  refine ⟨a, b, xs, ys, rfl, rfl, SqT.of h1, SqT.of h2, h3, fun e => ?_, fun _ e => ?_, fun _ _ => q.new.at⟩
  · subst e
    exact q b H (Same.refl H) h2
  · subst e
    exact q a H (Same.refl H) (by rw [List.append_nil]; exact h1)
def rAddG : R2 := fun x y H Q => rAddI x y H Q ∨ (rAddT x y H Q ∨ (rCatL x y H Q ∨ rCatU x y H Q))
theorem op_addG : OpR X (binaryOp .Add) rAddG := OpR.or (r := rAddI) op_add (OpR.or (r := rAddT) op_add_str (op_catL.or op_catU))
def rMulG : R2 := fun x y H Q => rI CMul (fun i j => .int (i * j)) x y H Q ∨ rRep x y H Q
theorem op_mulG : OpR X (binaryOp .Mult) rMulG := op_mul.or op_rep
theorem PI_or {tg it : Expr} {w1 w2 : TI} (h1 : PI X tg it w1) (h2 : PI X tg it w2) : PI X tg it (fun σ H R => w1 σ H R ∨ w2 σ H R) := by
  refine ⟨fun pins s σ H R I h => ?_⟩
  rcases h with h | h
  · exact h1.run pins s σ H R I h
  · exact h2.run pins s σ H R I h
def iG (K : PySem.W.Frag) (te : TE) : TI := fun σ H R => iList K te σ H R ∨ (iTup K te σ H R ∨ iStr te σ H R)
theorem pi_G {tg e : Expr} {te : TE} (he : PE X e te) : PI X tg e (iG X.K te) := PI_or (pi_list he) (PI_or (pi_tup he) (pi_str he))
def rSlLN (K : PySem.W.Frag) : V → Option Int → Option Int → Hp → VK → Prop := fun x lo hi H Q => ∃ a xs, x = .ref a ∧ SqL K H a xs ∧ New (.lst (cutV xs lo hi)) H Q
def rSlUN : V → Option Int → Option Int → Hp → VK → Prop := fun x lo hi H Q => ∃ a xs, x = .ref a ∧ H a = some (.tup xs) ∧ Got (.tup (cutV xs lo hi)) H Q
theorem cut_whole {xs : List V} {lo hi : Option Int} (h0 : HT.sIx xs.length 0 lo = 0) (h1 : HT.sIx xs.length xs.length hi = xs.length) : cutV xs lo hi = xs := by
  unfold cutV
  rw [h0, h1, List.drop_zero, Nat.sub_zero, List.take_length]
theorem sl_listN : SlR X (rSlLN X.K) := SlR_imp sl_list fun x lo hi H Q h => by
  obtain ⟨a, xs, rfl, h1, q⟩ := h
  exact ⟨a, xs, rfl, h1, q.at⟩
theorem sl_tupN : SlR X rSlUN := SlR_imp sl_tupA fun x lo hi H Q h => by
  obtain ⟨a, xs, rfl, h1, q⟩ := h
  refine ⟨a, xs, rfl, SqT.of h1, fun e => ?_, fun _ => q.new.at⟩
  exact q a H (Same.refl H) (by rw [cut_whole e.1 e.2]; exact h1)
def rSlG (K : PySem.W.Frag) : V → Option Int → Option Int → Hp → VK → Prop := fun x lo hi H Q => rSlLN K x lo hi H Q ∨ (rSlUN x lo hi H Q ∨ rSlS x lo hi H Q)
theorem sl_G : SlR X (rSlG X.K) := sl_listN.or (sl_tupN.or sl_str)
def tTupN (t : TA) : TE := fun σ H Q => t σ H fun xs H1 => xs.length ≤ sizeLine ∧ New (.tup xs) H1 Q
def tLstN (t : TA) : TE := fun σ H Q => t σ H fun xs H1 => xs.length ≤ sizeLine ∧ New (.lst xs) H1 Q
def upA (t : TA) : TA := fun σ H Q => ∃ Q0 : List V → Hp → Prop, t σ H Q0 ∧ ∀ vs H', Q0 vs H' → Q vs H'
theorem PA_up {es : List Expr} {t : TA} (h : PA X es t) : PA X es (upA t) := ⟨fun pos pins s σ H Q I q => by
  obtain ⟨Q0, q0, k⟩ := q
  refine thn (h.run pos pins s σ H Q0 I q0) fun us s' hh => ?_
  obtain ⟨vs, H', I', r, q'⟩ := hh
  exact ⟨vs, H', I', r, k vs H' q'⟩⟩
theorem pe_tupN {es : List Expr} {t : TA} {k : Nat} {pos : Pos} (h : PA X es t) : PE X (.Tuple es k pos) (tTupN t) :=
  PE_imp (pe_tup (PA_up h)) fun σ H Q q => ⟨_, q, fun vs H' z => ⟨z.1, z.2.at⟩⟩
theorem pe_lstN {es : List Expr} {t : TA} {pos : Pos} (h : PA X es t) : PE X (.List es pos) (tLstN t) :=
  PE_imp (pe_lst (PA_up h)) fun σ H Q q => ⟨_, q, fun vs H' z => ⟨z.1, z.2.at⟩⟩
/-- list(x): of a list, a tuple; of a text its signs -/
def sgs (l : List Nat) : List V := l.map fun c => .str ⟨#[c]⟩
def rListT : List V → Hp → VK → Prop := fun xs H Q => ∃ z : Str, xs = [.str z] ∧ z.cps.size ≤ sizeLine ∧ New (.lst (sgs z.cps.toList)) H Q
theorem call_listT (hc : X.calm = true) : CallR X (.type "list") rListT := by
  intro pins s σ H xs us Q I r h
  obtain ⟨z, rfl, hz, q⟩ := h
  obtain ⟨u, rfl, t, rfl⟩ := vals1 r
  refine call_list_str (I.ok.hd hc) z t (fun h' tk acc' c' hk hS hacc => ?_) hz
  have hv : Vals (sgs z.cps.toList) acc'.toList := by
    refine vals_of_at (by simp [sgs, hacc.1]) (fun j x u hx hu => ?_)
    have e1 : acc'[j]? = some u := by simpa using hu
    obtain ⟨c, k, hw1, rfl⟩ := hacc.2 j u e1
    have e2 : (V.str ⟨#[c]⟩ : V) = x := by
      unfold sgs at hx
      rw [List.getElem?_map, show z.cps.toList[j]? = some c by simpa using hw1] at hx
      exact Option.some.inj hx
    subst e2
    exact ⟨k, rfl⟩
  exact ⟨.ref s.heap.objs.size, _, I.laid (t' := tk) hk (Nat.le_refl _) (show ObjOk X.prog X.w _ h' _ (.lst _) from ⟨by simpa [sgs] using hz, acc'.toList, c', hv, by simpa using hS⟩), rfl, q.at _ (I.hok.fresh (Nat.le_refl _))⟩
def rListS (K : PySem.W.Frag) : List V → Hp → VK → Prop := fun xs H Q => ∃ p ys, xs = [.ref p] ∧ (SqL K H p ys ∨ SqT K H p ys) ∧ New (.lst ys) H Q
def rListG (K : PySem.W.Frag) : List V → Hp → VK → Prop := fun xs H Q => rListS K xs H Q ∨ rListT xs H Q
theorem call_listG (hc : X.calm = true) : CallR X (.type "list") (rListG X.K) := CallR.or (r := rListS X.K) (CallR_imp call_list_of fun xs H Q h => by
    obtain ⟨p, ys, rfl, h1, q⟩ := h
    exact ⟨p, ys, rfl, h1, q.at⟩) (call_listT hc)
def rTupN (K : PySem.W.Frag) : List V → Hp → VK → Prop := fun xs H Q => ∃ p ys, xs = [.ref p] ∧ ((SqL K H p ys ∧ New (.tup ys) H Q) ∨ (SqT K H p ys ∧ Q (.ref p) H))
theorem call_tupleN : CallR X (.type "tuple") (rTupN X.K) := CallR_imp call_tuple_of fun xs H Q h => by
  obtain ⟨p, ys, rfl, h | h⟩ := h
  · exact ⟨p, ys, rfl, .inl ⟨h.1, h.2.at⟩⟩
  · exact ⟨p, ys, rfl, .inr h⟩
def rSortN (K : PySem.W.Frag) : List V → Hp → VK → Prop := fun vs H Q => ∃ (a : Addr) (xs : List Str), vs = [V.ref a] ∧ SqL K H a (xs.map V.str) ∧ xs.length < 64 ∧
  ∀ (ys : List Str), ys.Perm xs → sortedS ys = true → New (.lst (ys.map V.str)) H Q
theorem cr_sortedN : CallR X (.builtin "sorted") (rSortN X.K) := CallR_imp cr_sortedS fun xs H Q h => by
  obtain ⟨a, xs, rfl, h1, h2, q⟩ := h
  exact ⟨a, xs, rfl, h1, h2, fun ys p e1 e2 => (q ys e1 e2).at p⟩
def rLenN (K : PySem.W.Frag) : List V → Hp → VK → Prop := fun xs H Q => ∃ x n, xs = [x] ∧ LenV K x H n ∧ Q (.int (n : Nat)) H
theorem call_lenN : CallR X (.builtin "len") (rLenN X.K) := call_len
/-! ### lists changed -/
/-- what is wanted behind a change of the list at l -/
def Chg (l : Addr) (xs : List V) (H : Hp) (Q : Hp → Prop) : Prop := ∀ H', But l H H' → H' l = some (.lst xs) → Q H'
theorem Chg.at {l : Addr} {xs : List V} {H : Hp} {Q : Hp → Prop} (h : Chg l xs H Q) : Q (upd H l (.lst xs)) := h _ But.upd upd_same
def rAppN : V → List V → Hp → VK → Prop := fun x vs H Q => ∃ l xs y, x = .ref l ∧ vs = [y] ∧ H l = some (.lst xs) ∧ xs.length < sizeLine ∧ Chg l (xs ++ [y]) H (Q .non)
def rPopN : V → List V → Hp → VK → Prop := fun x vs H Q => ∃ l xs i k y, x = .ref l ∧ vs = [.int i] ∧ H l = some (.lst xs) ∧ -(2 ^ 63) ≤ i ∧ i < 2 ^ 63 ∧ seqIndex? i xs.length = some k ∧ xs[k]? = some y ∧ Chg l (xs.eraseIdx k) H (Q y)
def rSetN : V → V → V → Hp → (Hp → Prop) → Prop := fun o i v H Q => ∃ p xs k j, o = .ref p ∧ i = .int k ∧ H p = some (.lst xs) ∧ ixN xs.length k = some j ∧ Chg p (xs.set j v) H Q
theorem mt_appN : MtR X "list.append" rAppN := MtM_imp mt_append fun x xs H Q h => by
  obtain ⟨l, xs, y, rfl, rfl, h1, h2, q⟩ := h
  exact ⟨l, xs, y, rfl, rfl, h1, h2, q.at⟩
theorem mt_popN : MtR X "list.pop" rPopN := MtM_imp mt_popAt fun x xs H Q h => by
  obtain ⟨l, xs, i, k, y, rfl, rfl, h1, h2, h3, h4, h5, q⟩ := h
  exact ⟨l, xs, i, k, y, rfl, rfl, h1, h2, h3, h4, h5, q.at⟩
theorem set_listN : PSet X rSetN := by
  intro pins s σ H o i v ov iv u Q I ro ri rv h
  refine set_list pins s σ H o i v ov iv u Q I ro ri rv ?_
  obtain ⟨p, xs, k, j, rfl, rfl, h1, h2, q⟩ := h
  exact ⟨p, xs, k, j, rfl, rfl, h1, h2, q.at⟩
/-! ### comparisons -/
def rCmpI (p : Int → Int → Bool) : R2 := fun x y H Q => ∃ i j, x = .int i ∧ y = .int j ∧ Q (.bl (p i j)) H
def rCmpS (p : List Nat → List Nat → Bool) : R2 := fun x y H Q => ∃ i j : Str, x = .str i ∧ y = .str j ∧ Q (.bl (p i.cps.toList j.cps.toList)) H
def rLtG : R2 := fun x y H Q => rCmpI (fun i j => decide (i < j)) x y H Q ∨ rCmpS (fun i j => decide (i < j)) x y H Q
theorem op_ltG : OpR X (compareOp .Lt) rLtG := OpR.or (r := rCmpI fun i j => decide (i < j)) (r' := rCmpS fun i j => decide (i < j)) op_lt op_lt_str
def rGtG : R2 := rCmpI fun i j => decide (j < i)
theorem op_gtG : OpR X (compareOp .Gt) rGtG := op_gt
def rGeG : R2 := rCmpI fun i j => decide (j ≤ i)
theorem op_geG : OpR X (compareOp .GtE) rGeG := op_ge
def rInSg : R2 := fun x y H Q => ∃ (c : Nat) (z : Str), x = .str ⟨#[c]⟩ ∧ y = .str z ∧ Q (.bl (decide (c ∈ z.cps.toList))) H
def rNiSg : R2 := fun x y H Q => ∃ (c : Nat) (z : Str), x = .str ⟨#[c]⟩ ∧ y = .str z ∧ Q (.bl (!decide (c ∈ z.cps.toList))) H
def rInG (K : PySem.W.Frag) : R2 := fun x y H Q => rInSg x y H Q ∨ rIn K false x y H Q
theorem op_inG : OpR X (compareOp .In) (rInG X.K) := OpR.or (r := rInSg) op_in_sign op_in_seq
def rNinG (K : PySem.W.Frag) : R2 := fun x y H Q => rNiSg x y H Q ∨ rIn K true x y H Q
theorem op_ninG : OpR X (compareOp .NotIn) (rNinG X.K) := OpR.or (r := rNiSg) op_notIn_sign op_notIn_seq
def rEqG (K : PySem.W.Frag) : R2 := fun x y H Q => rEq x y H Q ∨ rEqD K x y H Q
theorem op_eqG (hu : X.A.units + 64 < cLine) : OpR X (compareOp .Eq) (rEqG X.K) := op_eq.or (op_eqD hu)
def rNeG (K : PySem.W.Frag) : R2 := fun x y H Q => rNe x y H Q ∨ rNeD K x y H Q
theorem op_neG (hu : X.A.units + 64 < cLine) : OpR X (compareOp .NotEq) (rNeG X.K) := op_ne.or (op_neD hu)
def rIsiG (K : PySem.W.Frag) : List V → Hp → VK → Prop := fun xs H Q => rIsi K xs H Q ∨ rIsiT K xs H Q
theorem call_isiG : CallR X (.builtin "isinstance") (rIsiG X.K) := call_isi.or call_isiT
end
/-- the pen at p, its cells at c: n takes are left -/
def Pen (H : Hp) (p c : Addr) (n : Nat) : Prop := ∃ (cs : List Int) (k : Nat) (left : Int), H p = some (.lst [.ref c, .int k, .int left]) ∧ H c = some (.lst (cs.map V.int)) ∧ cs.length ≤ 12 ∧ k + n ≤ 1048576 ∧ c ≠ p
theorem Pen.less {H : Hp} {p c : Addr} {n m : Nat} (h : Pen H p c n) (hm : m ≤ n) : Pen H p c m := by
  obtain ⟨cs, k, l, h1, h2, h3, h4, h5⟩ := h
  exact ⟨cs, k, l, h1, h2, h3, by omega, h5⟩
theorem Pen.same {H H' : Hp} {p c : Addr} {n : Nat} (h : Pen H p c n) (s : Same H H') : Pen H' p c n := by
  obtain ⟨cs, k, l, h1, h2, h3, h4, h5⟩ := h
  exact ⟨cs, k, l, s _ _ h1, s _ _ h2, h3, h4, h5⟩
theorem Pen.at {H : Hp} {p c : Addr} {n : Nat} (h : Pen H p c n) : ∃ xs, H p = some (.lst xs) := by
  obtain ⟨cs, k, l, h1, h2, h3, h4, h5⟩ := h
  exact ⟨_, h1⟩
theorem Pen.atc {H : Hp} {p c : Addr} {n : Nat} (h : Pen H p c n) : ∃ xs, H c = some (.lst xs) := by
  obtain ⟨cs, k, l, h1, h2, h3, h4, h5⟩ := h
  exact ⟨_, h2⟩
theorem Pen.ts {H H' : Hp} {p c : Addr} {n : Nat} (h : Pen H p c n) (b : But p H H') : TS H H' := by
  obtain ⟨xs, e⟩ := h.at
  exact b.ts e
/-- a new address is neither the pen's nor its cells' -/
theorem Pen.ne {H : Hp} {p c D : Addr} {n : Nat} (h : Pen H p c n) (hD : H D = none) : p ≠ D ∧ c ≠ D := by
  obtain ⟨xs, e⟩ := h.at
  obtain ⟨ys, e2⟩ := h.atc
  exact ⟨ne_of_none e hD, ne_of_none e2 hD⟩
theorem Pen.chg {H H' : Hp} {p c D : Addr} {n : Nat} (h : Pen H p c n) (d : p ≠ D ∧ c ≠ D) (b : But D H H') : Pen H' p c n := by
  obtain ⟨cs, k, l, h1, h2, h3, h4, h5⟩ := h
  exact ⟨cs, k, l, b _ _ d.1 h1, b _ _ d.2 h2, h3, h4, h5⟩
/-- what is changed at D, new since H1, changes nothing of H -/
theorem But.chg {H H1 H4 H5 : Hp} {p D : Addr} (b : But p H H4) (b1 : But p H H1) (hD : H1 D = none) (b5 : But D H4 H5) : But p H H5 := fun b' o n e => b5 _ _ (ne_of_none (b1 _ _ n e) hD) (b _ _ n e)
theorem same_chg {H H1 H4 H5 : Hp} {D : Addr} (b : Same H H4) (b1 : Same H H1) (hD : H1 D = none) (b5 : But D H4 H5) : Same H H5 := fun b' o e => b5 _ _ (ne_of_none (b1 _ _ e) hD) (b _ _ e)
/-! ### small lists of ints read at a reckoned place -/
theorem fmod_in {a b : Int} (h : 0 < b) : 0 ≤ a.fmod b ∧ a.fmod b < b := ⟨Int.fmod_nonneg_of_pos a h, Int.fmod_lt_of_pos a h⟩
theorem at_of {α : Type} {xs : List α} {i : Int} (h0 : 0 ≤ i) (h1 : i < (xs.length : Int)) : ∃ v, atI xs i = some v ∧ v ∈ xs := by
  have hk : i.toNat < xs.length := by omega
  have ek : i = ((i.toNat : Nat) : Int) := by omega
  have q : atI xs ((i.toNat : Nat) : Int) = some (xs[i.toNat]'hk) := atI_nat (List.getElem?_eq_getElem hk)
  rw [← ek] at q
  exact ⟨_, q, List.getElem_mem hk⟩
theorem at_int {xs : List Int} {i : Int} (h0 : 0 ≤ i) (h1 : i < (xs.length : Int)) : ∃ v, atI (xs.map V.int) i = some (.int v) ∧ v ∈ xs := by
  obtain ⟨v, e, hv⟩ := at_of (xs := xs.map V.int) h0 (by rw [List.length_map]; exact h1)
  obtain ⟨w, hw, rfl⟩ := List.mem_map.mp hv
  exact ⟨w, e, hw⟩
theorem mul_in {a b A B : Int} (a0 : 0 ≤ a) (a1 : a < A) (b0 : 0 ≤ b) (b1 : b < B) : 0 ≤ a * b ∧ a * b < A * B := by
  refine ⟨Int.mul_nonneg a0 b0, ?_⟩
  have h1 : a * b ≤ A * b := Int.mul_le_mul_of_nonneg_right (by omega) b0
  have h2 : A * b < A * B := Int.mul_lt_mul_of_pos_left b1 (by omega)
  omega
theorem get_map {α : Type} {f : α → V} {xs : List α} {i : Nat} {x : V} (h : (xs.map f)[i]? = some x) : ∃ z, xs[i]? = some z ∧ x = f z := by
  rw [List.getElem?_map] at h
  cases e : xs[i]? with
  | none => rw [e] at h; cases h
  | some z => rw [e] at h; exact ⟨z, rfl, (Option.some.inj h).symm⟩
theorem szS {n : Nat} (h : Nat.ble n 1000 = true := by rfl) : n ≤ sizeLine := Nat.le_of_lt (small1000 (Nat.le_of_ble_eq_true h))
theorem ixN_of {n : Nat} {i : Int} (h0 : 0 ≤ i) (h1 : i < (n : Int)) : ixN n i = some i.toNat := by
  unfold ixN
  rw [if_pos h0, if_pos h1]
theorem cut_hi (xs : List V) (k : Nat) : cutV xs none (some (k : Int)) = xs.take k := by
  unfold cutV
  rw [HT.sIx_none, HT.sIx_nat, List.drop_zero, Nat.sub_zero]
  by_cases h : k ≤ xs.length
  · rw [Nat.min_eq_left h]
  · rw [Nat.min_eq_right (by omega), List.take_of_length_le (Nat.le_refl _), List.take_of_length_le (by omega)]
theorem cut_lohi (xs : List V) (j k : Nat) : cutV xs (some (j : Int)) (some (k : Int)) = (xs.drop j).take (k - j) := by
  unfold cutV
  rw [HT.sIx_nat, HT.sIx_nat]
  by_cases hj : j ≤ xs.length
  · rw [Nat.min_eq_left hj]
    by_cases h : k ≤ xs.length
    · rw [Nat.min_eq_left h]
    · rw [Nat.min_eq_right (by omega), List.take_of_length_le (by rw [List.length_drop]; omega), List.take_of_length_le (by rw [List.length_drop]; omega)]
  · rw [Nat.min_eq_right (by omega : xs.length ≤ j), List.drop_length, List.drop_eq_nil_of_le (by omega)]
    simp
theorem cut_lo (xs : List V) (j : Nat) : cutV xs (some (j : Int)) none = xs.drop j := by
  unfold cutV
  rw [HT.sIx_nat, HT.sIx_none]
  by_cases hj : j ≤ xs.length
  · rw [Nat.min_eq_left hj, List.take_of_length_le (by rw [List.length_drop]; omega)]
  · rw [Nat.min_eq_right (by omega : xs.length ≤ j), List.drop_length, List.drop_eq_nil_of_le (by omega)]
    simp
/-! ### the rules at a written part K by name (within a comprehension's block) -/
section
variable {X : Cx} (K : PySem.W.Frag)
theorem kLen (e : X.K = K) : CallR X (.builtin "len") (rLenN K) := e ▸ call_lenN
theorem kIsi (e : X.K = K) : CallR X (.builtin "isinstance") (rIsiG K) := e ▸ call_isiG
theorem kList (e : X.K = K) (hc : X.calm = true) : CallR X (.type "list") (rListG K) := e ▸ call_listG hc
theorem kTuple (e : X.K = K) : CallR X (.type "tuple") (rTupN K) := e ▸ call_tupleN
theorem kSorted (e : X.K = K) : CallR X (.builtin "sorted") (rSortN K) := e ▸ cr_sortedN
theorem kIx (e : X.K = K) : IxR X (rIx K) := e ▸ ix_seq
theorem kSl (e : X.K = K) : SlR X (rSlG K) := e ▸ sl_G
theorem kIn (e : X.K = K) : OpR X (compareOp .In) (rInG K) := e ▸ op_inG
theorem kNin (e : X.K = K) : OpR X (compareOp .NotIn) (rNinG K) := e ▸ op_ninG
theorem kEq (e : X.K = K) (hu : X.A.units + 64 < cLine) : OpR X (compareOp .Eq) (rEqG K) := e ▸ op_eqG hu
theorem kNe (e : X.K = K) (hu : X.A.units + 64 < cLine) : OpR X (compareOp .NotEq) (rNeG K) := e ▸ op_neG hu
theorem kAll (e : X.K = K) (hc : X.calm = true) : CallR X (.builtin "all") (rAll K) := e ▸ cr_all hc
theorem kAny (e : X.K = K) (hc : X.calm = true) : CallR X (.builtin "any") (rAny K) := e ▸ cr_any hc
theorem kG (e : X.K = K) {tg ex : Expr} {te : TE} (he : PE X ex te) : PI X tg ex (iG K te) := e ▸ pi_G he
theorem kTg (e : X.K = K) {es : List Expr} {k : Nat} {pos : Pos} {t : TGs} {n : Nat} (hc : X.calm = true) (h : PGs X es t)
    (hn : (assignEach es X.env).length = n := by rfl) (hst : (assignEach es X.env).findIdx? (·.1) = none := by rfl) : PG X (.Tuple es k pos) (gTup K n t) := e ▸ pg_tup hc h hn hst
theorem kBm (e : X.K = K) {T : String} {r : V → List V → Hp → VK → Prop} {ex : Expr} {to : TE} {t : TA} (h : PE X ex (tBM X.K T r to t)) : PE X ex (tBM K T r to t) := e ▸ h
theorem kBm0 (e : X.K = K) {T : String} {r : V → List V → Hp → VK → Prop} {ex : Expr} {to : TE} (h : PE X ex (tBM0 X.K T r to)) : PE X ex (tBM0 K T r to) := e ▸ h
def rJoin (K : PySem.W.Frag) : V → List V → Hp → VK → Prop := fun x xs H Q => ∃ a p, ∃ ys : List Str, x = .str a ∧ xs = [.ref p] ∧ (SqL K H p (ys.map V.str) ∨ SqT K H p (ys.map V.str)) ∧ (ys.map (·.length)).sum + ys.length * a.length ≤ 16777216 ∧ Q (.str (Txt.join a ys)) H
theorem kJoin (e : X.K = K) {o ex : Expr} {to te : TE} {apos pos : Pos} (ho : PE X o to) (he : PE X ex te) (hs : starEach [ex] X.env = [(false, eval ex X.env)] := by rfl) (hbase : attributeBase o "join" X.env (eval o X.env) = eval o X.env := by rfl) (hline : (apos.endLine == pos.line) = true := by rfl) :
    PE X (.Call (.Attribute o "join" apos) [ex] [] pos) (tM1 (rJoin K) to te) := by
  subst e
  exact pe_join ho he hs hbase hline
end
/-! ### walks -/
/-- a new pair of the i-th of xs and the i-th of ys, at a later heap -/
def YPairN (xs ys : Nat → Option V) : Nat → Hp → V → Hp → Prop := fun i H v H' => ∃ T x y, v = .ref T ∧ Same H H' ∧ H' T = some (.tup [x, y]) ∧ xs i = some x ∧ ys i = some y
theorem walkPair {J : It} {n : Nat} {G : Hp → Prop} {xs ys : Nat → Option V} (w : Walk J n G (YPair xs ys)) : Walk J n G (YPairN xs ys) := w.mono (fun _ h => h) fun i H x H' _ _ y => by
  obtain ⟨T, a, b, rfl, h1, rfl, h3, h4⟩ := y
  exact ⟨T, a, b, rfl, same_new h1, upd_same, h3, h4⟩
theorem walk_zipT {K : PySem.W.Frag} {a b : Addr} {xs ys : List V} {n : Nat} (hn : n = min xs.length ys.length) : Walk (ItzT K a b) n (fun H => SqT K H a xs ∧ SqT K H b ys) (YPair (fun i => xs[i]?) (fun i => ys[i]?)) := by
  have both : ∀ k, k < n → (∃ u, xs[k]? = some u) ∧ ∃ u, ys[k]? = some u := fun k hk =>
    ⟨⟨_, List.getElem?_eq_getElem (show k < xs.length by omega)⟩, ⟨_, List.getElem?_eq_getElem (show k < ys.length by omega)⟩⟩
  constructor
  · intro k _ hk st
    have ⟨⟨u, hu⟩, ⟨t, ht⟩⟩ := both k hk
    exact ⟨_, _, u, t, st.1, st.2, hu, ht⟩
  · exact fun _ st => ⟨_, _, st.1, st.2, by omega⟩
  · rintro k _ v _ - st ⟨pair, u, t, e1, e2, e3, left, right⟩
    exact ⟨pair, u, t, e1, e2, e3, left _ st.1, right _ st.2⟩
/-- a comprehension's state: Pv by the turn, what the new list at D holds, the heap -/
def LcI (D : Addr) (Pv : Nat → List V → Hp → Prop) (i : Nat) (H : Hp) : Prop := ∃ acc, acc.length ≤ i ∧ Pv i acc H ∧ H D = some (.lst acc)
theorem lcN {J : It} {n : Nat} {G : Hp → Prop} {Y : Nat → Hp → V → Hp → Prop} {g : TG} {tt : TT} {te : TE} {vs : List Nat} {σ : L2.St} {H1 : Hp} {D : Addr} {Qd : Hp → Prop} (w : Walk J n G Y) (hD : H1 D = none) (Pv : Nat → List V → Hp → Prop)
    (h0 : ∀ H', Same H1 H' → H' D = some (.lst []) → Pv 0 [] H') (hG : ∀ i acc H, i ≤ n → Pv i acc H → G H)
    (hs : ∀ i x acc H H', i < n → acc.length ≤ i → Pv i acc H → H D = some (.lst acc) → Y i H x H' → g x (wipe σ vs) H' fun σ2 H2 => wipe σ2 vs = wipe σ vs ∧ tt σ2 H2 fun b H3 =>
      if b = true then te σ2 H3 fun y H4 => ∃ acc, H4 D = some (.lst acc) ∧ acc.length < sizeLine ∧ LcI D Pv (i + 1) (upd H4 D (.lst (acc ++ [y]))) else LcI D Pv (i + 1) H3)
    (hd : ∀ acc H, acc.length ≤ n → Pv n acc H → H D = some (.lst acc) → Qd H) :
    ∃ W : Nat → Nat → Hp → Prop, (∃ m, W 0 m (upd H1 D (.lst []))) ∧ ∀ i m H, W i m H →
      (J.stop i H ∧ Qd H) ∨ (J.go i H ∧ ∃ Nx : Hp → Prop, (∀ H', Nx H' → ∃ m', m' < m ∧ W (i + 1) m' H') ∧ ∀ x H', J.yld i H x H' → g x (wipe σ vs) H' fun σ2 H2 => wipe σ2 vs = wipe σ vs ∧ tt σ2 H2 fun b H3 =>
        if b = true then te σ2 H3 fun y H4 => ∃ acc, H4 D = some (.lst acc) ∧ acc.length < sizeLine ∧ Nx (upd H4 D (.lst (acc ++ [y]))) else Nx H3) :=
  lc_it w (LcI D Pv) ⟨[], Nat.le_refl _, h0 _ (same_new hD) upd_same, upd_same⟩ (fun i H hi p => let ⟨acc, _, p, _⟩ := p; hG i acc H hi p)
    (fun i x H H' hi p y => let ⟨acc, hl, p, e⟩ := p; hs i x acc H H' hi hl p e y) (fun H p => let ⟨acc, hl, p, e⟩ := p; hd acc H hl p e)
/-- .. without an if -/
theorem lcN0 {J : It} {n : Nat} {G : Hp → Prop} {Y : Nat → Hp → V → Hp → Prop} {g : TG} {te : TE} {vs : List Nat} {σ : L2.St} {H1 : Hp} {D : Addr} {Qd : Hp → Prop} (w : Walk J n G Y) (hD : H1 D = none) (Pv : Nat → List V → Hp → Prop)
    (h0 : ∀ H', Same H1 H' → H' D = some (.lst []) → Pv 0 [] H') (hG : ∀ i acc H, i ≤ n → Pv i acc H → G H)
    (hs : ∀ i x acc H H', i < n → acc.length ≤ i → Pv i acc H → H D = some (.lst acc) → Y i H x H' → g x (wipe σ vs) H' fun σ2 H2 => wipe σ2 vs = wipe σ vs ∧ te σ2 H2 fun y H4 => ∃ acc, H4 D = some (.lst acc) ∧ acc.length < sizeLine ∧ LcI D Pv (i + 1) (upd H4 D (.lst (acc ++ [y]))))
    (hd : ∀ acc H, acc.length ≤ n → Pv n acc H → H D = some (.lst acc) → Qd H) :
    ∃ W : Nat → Nat → Hp → Prop, (∃ m, W 0 m (upd H1 D (.lst []))) ∧ ∀ i m H, W i m H →
      (J.stop i H ∧ Qd H) ∨ (J.go i H ∧ ∃ Nx : Hp → Prop, (∀ H', Nx H' → ∃ m', m' < m ∧ W (i + 1) m' H') ∧ ∀ x H', J.yld i H x H' → g x (wipe σ vs) H' fun σ2 H2 => wipe σ2 vs = wipe σ vs ∧ tYes σ2 H2 fun b H3 =>
        if b = true then te σ2 H3 fun y H4 => ∃ acc, H4 D = some (.lst acc) ∧ acc.length < sizeLine ∧ Nx (upd H4 D (.lst (acc ++ [y]))) else Nx H3) :=
  lcN (tt := tYes) w hD Pv h0 hG hs hd
theorem lcNext {D : Addr} {Pv : Nat → List V → Hp → Prop} {i : Nat} {H4 : Hp} {acc : List V} {y : V} (e : H4 D = some (.lst acc)) (hl : acc.length ≤ i) (hi : i < 100000) (k : ∀ H5, But D H4 H5 → H5 D = some (.lst (acc ++ [y])) → Pv (i + 1) (acc ++ [y]) H5) :
    ∃ acc, H4 D = some (.lst acc) ∧ acc.length < sizeLine ∧ LcI D Pv (i + 1) (upd H4 D (.lst (acc ++ [y]))) :=
  ⟨acc, e, by rw [sizeLine_eq]; omega, acc ++ [y], by rw [List.length_append]; exact Nat.succ_le_succ hl, k _ But.upd upd_same, upd_same⟩
/-! ### the reading, step by step -/
theorem modL {x y : V} {H : Hp} {Q : VK} {i j : Int} (hx : x = .int i) (hy : y = .int j) (hj : 0 < j) (h : ∀ r : Int, 0 ≤ r → r < j → Q (.int r) H) : rI (fun _ j => j ≠ 0) (fun i j => .int (i.fmod j)) x y H Q :=
  ⟨i, j, hx, hy, by omega, h _ (fmod_in hj).1 (fmod_in hj).2⟩
theorem mulR {i j : Int} (h : -(2 ^ 64) < j ∧ j < 2 ^ 64) : CMul i j := Or.inr h
theorem mulL {i j : Int} (h : -(2 ^ 64) < i ∧ i < 2 ^ 64) : CMul i j := Or.inl h
end Fo

namespace Fo
open PySem PySem.Spec PyProof.Rows L2 TL
/-! ### texts as lists of codes -/
abbrev Cs := List Nat
def tx (l : Cs) : Str := ⟨l.toArray⟩
theorem tl_tx (l : Cs) : tl (tx l) = l := rfl
theorem tx_tl (x : Str) : tx (tl x) = x := mk_tl x
theorem tx_len (l : Cs) : (tx l).length = l.length := by rw [len_tl, tl_tx]
theorem tx_inj {l m : Cs} (h : tx l = tx m) : l = m := by rw [← tl_tx l, h, tl_tx]
theorem tx_app (l m : Cs) : tx l ++ tx m = tx (l ++ m) := ext_tl (by rw [tl_append, tl_tx, tl_tx, tl_tx])
theorem tx_nil : (("" : String) : Str) = tx [] := by decide +kernel
theorem tx_one (c : Nat) : (⟨#[c]⟩ : Str) = tx [c] := rfl
theorem joinL_nil : ∀ l : List Cs, joinL [] l = l.flatten
  | [] => rfl
  | [a] => by simp [joinL]
  | a :: b :: r => by
    show a ++ ([] ++ joinL [] (b :: r)) = a ++ (b :: r).flatten
    rw [joinL_nil (b :: r), List.nil_append]
theorem join_tx (parts : List Cs) : Txt.join (("" : String) : Str) (parts.map tx) = tx parts.flatten := by
  refine ext_tl ?_
  rw [join_eq, tl_join, tx_nil, tl_tx, List.map_map, tl_tx]
  have e : parts.map (tl ∘ tx) = parts := by
    rw [show (tl ∘ tx) = (id : Cs → Cs) from funext fun l => rfl, List.map_id]
  rw [e, joinL_nil]
theorem flat_len (parts : List Cs) : ((parts.map tx).map (·.length)).sum = parts.flatten.length := by
  rw [List.length_flatten, List.map_map]
  have e : ((fun x : Str => x.length) ∘ tx) = List.length := funext fun l => tx_len l
  rw [e]
theorem flat_ones : ∀ t : Cs, (t.map fun c => [c]).flatten = t
  | [] => rfl
  | a :: r => by
    show [a] ++ (r.map fun c => [c]).flatten = a :: r
    rw [flat_ones r]
    rfl
theorem sgs_ones (t : Cs) : sgs t = ((t.map fun c => [c]).map tx).map V.str := by
  unfold sgs
  rw [List.map_map, List.map_map]
  rfl
theorem sgs_app (t : Cs) (k : Nat) : sgs t ++ [.str ⟨#[k]⟩] = sgs (t ++ [k]) := by
  unfold sgs
  rw [List.map_append]
  rfl
theorem idx_le : ∀ {l : Cs} {i : Nat} {hl : i < l.length} {c : Nat}, l[i] = c → ¬ i < l.idxOf c
  | a :: l, 0, _, c, h => by
    have e : a = c := h
    subst e
    rw [List.idxOf_cons_self]
    omega
  | a :: l, i + 1, hl, c, h => by
    have h2 : l[i]'(by simpa using hl) = c := by simpa using h
    rw [List.idxOf_cons]
    have ih := idx_le h2
    cases (a == c) with
    | true => simp
    | false => simp; omega
theorem occ_sign {l : Cs} {c : Nat} (h : c ∈ l) : ∃ rest, Builtin.Str.occurrences (tx l) ⟨#[c]⟩ 0 (tx l).length 1 = l.idxOf c :: rest := by
  have at_iff : ∀ i, StrLaws.At (tx l) ⟨#[c]⟩ (tx l).length i ↔ l[i]? = some c := fun i => StrLaws.subAt_one (tx l) c i
  have hi : l[l.idxOf c]? = some c := by
    have hlt := List.idxOf_lt_length_iff.mpr h
    rw [List.getElem?_eq_getElem hlt, List.getElem_idxOf hlt]
  rcases StrLaws.occ_head (tx l) ⟨#[c]⟩ 1 (Nat.le_refl 1) with ⟨_, hn⟩ | ⟨i, r, e, ha, hn⟩
  · exact absurd ((at_iff _).mpr hi) (hn _)
  · have h1 := (at_iff i).mp ha
    have h2 : ¬ l.idxOf c < i := fun z => hn _ z ((at_iff _).mpr hi)
    have h3 : ¬ i < l.idxOf c := fun z => by
      obtain ⟨hl, hg⟩ := List.getElem?_eq_some_iff.mp h1
      exact idx_le hg z
    have e2 : i = l.idxOf c := by omega
    exact ⟨r, by rw [e, e2]⟩
/-! ### signs drawn out of a pool -/
theorem erase_perm {α : Type} : ∀ {l : List α} {k : Nat} {y : α}, l[k]? = some y → (y :: l.eraseIdx k).Perm l
  | [], k, y, h => by simp at h
  | a :: l, 0, y, h => by
    have e : a = y := by simpa using h
    subst e
    exact List.Perm.refl _
  | a :: l, k + 1, y, h => by
    have h2 : l[k]? = some y := by simpa using h
    exact (List.Perm.swap a y _).trans (List.Perm.cons a (erase_perm h2))
theorem erase_map {α β : Type} (f : α → β) : ∀ (l : List α) (k : Nat), (l.map f).eraseIdx k = (l.eraseIdx k).map f
  | [], _ => rfl
  | _ :: _, 0 => rfl
  | a :: l, k + 1 => by
    show f a :: (l.map f).eraseIdx k = f a :: (l.eraseIdx k).map f
    rw [erase_map f l k]
def one (c : Nat) : Str := ⟨#[c]⟩
theorem one_of {t : Cs} {ys : List Str} (h : ys.Perm (t.map one)) : ∃ u : Cs, ys = u.map one ∧ u.Perm t := by
  have hb : ∀ l : Cs, (l.map one).map (fun x => (TL.tl x).headD 0) = l := fun l => by
    induction l with
    | nil => rfl
    | cons a r ih =>
      rw [List.map_cons, List.map_cons, ih]
      rfl
  refine ⟨ys.map fun x => (TL.tl x).headD 0, ?_, by have := h.map (fun x => (TL.tl x).headD 0); rw [hb] at this; exact this⟩
  have hm : ∀ x ∈ ys, ∃ c, x = one c := fun x hx => by
    obtain ⟨c, _, e⟩ := List.mem_map.mp (h.mem_iff.mp hx)
    exact ⟨c, e.symm⟩
  clear h
  induction ys with
  | nil => rfl
  | cons a r ih =>
    obtain ⟨c, rfl⟩ := hm a (List.mem_cons_self ..)
    rw [List.map_cons, List.map_cons, ← ih (fun x hx => hm x (List.mem_cons_of_mem _ hx))]
    rfl
theorem rise_of : ∀ (r : Cs) (p : Nat), risingS (one p) (r.map one) = true → (p :: r).Pairwise (· ≤ ·)
  | [], p, _ => List.pairwise_singleton _ _
  | x :: r, p, h => by
    have h' : (!ltCps [x] [p] && risingS (one x) (r.map one)) = true := h
    rw [Bool.and_eq_true] at h'
    have ih := rise_of r x h'.2
    have hx : p ≤ x := by
      have z := h'.1
      simp [ltCps] at z
      omega
    refine List.pairwise_cons.mpr ⟨fun y hy => ?_, ih⟩
    rcases List.mem_cons.mp hy with rfl | hy
    · exact hx
    · exact Nat.le_trans hx ((List.pairwise_cons.mp ih).1 y hy)
theorem sorted_of {u : Cs} (h : sortedS (u.map one) = true) : u.Pairwise (· ≤ ·) := by
  cases u with
  | nil => exact List.Pairwise.nil
  | cons a r => exact rise_of r a h
theorem strict_of {u : Cs} (h : u.Pairwise (· ≤ ·)) (n : u.Nodup) : u.Pairwise (· < ·) := by
  induction u with
  | nil => exact List.Pairwise.nil
  | cons a r ih =>
    obtain ⟨h1, h2⟩ := List.pairwise_cons.mp h
    obtain ⟨n1, n2⟩ := List.nodup_cons.mp n
    refine List.pairwise_cons.mpr ⟨fun y hy => ?_, ih h2 n2⟩
    have := h1 y hy
    have : a ≠ y := fun e => n1 (e ▸ hy)
    omega
def poolL : Cs := ((List.range 94).map (· + 33)).filter (· ≠ 37)
theorem poolL_len : poolL.length = 93 := by decide +kernel
theorem poolL_nodup : poolL.Nodup := by decide +kernel
theorem poolL_in : ∀ c ∈ poolL, 33 ≤ c ∧ c ≤ 126 := by decide +kernel
/-- a text of signs, unlike, sorted -/
structure Sgs (t : Cs) (n : Nat) : Prop where
  len : t.length = n
  up : t.Pairwise (· < ·)
  sub : ∀ c ∈ t, 33 ≤ c ∧ c ≤ 126
theorem sgs_of {t u rest : Cs} {n : Nat} (hp : (t ++ rest).Perm poolL) (hl : t.length = n) (hu : u.Perm t) (hs : sortedS (u.map one) = true) : Sgs u n := by
  have hn : (t ++ rest).Nodup := hp.nodup_iff.mpr poolL_nodup
  have hnu : u.Nodup := hu.nodup_iff.mpr (List.nodup_append.mp hn).1
  refine ⟨hu.length_eq.trans hl, strict_of (sorted_of hs) hnu, fun c hc => ?_⟩
  exact poolL_in c (hp.mem_iff.mp (List.mem_append_left _ (hu.mem_iff.mp hc)))
/-! ### data of tuples -/
mutual
inductive Tv (H : Hp) : V → PyData → Prop
  | non : Tv H .non .none
  | bl (b : Bool) : Tv H (.bl b) (.bool b)
  | int (i : Int) : Tv H (.int i) (.int i)
  | str (x : Str) : Tv H (.str x) (.str x)
  | tup {a : Addr} {xs : List V} {ds : List PyData} : H a = some (.tup xs) → TvA H xs ds → Tv H (.ref a) (.tuple ds)
inductive TvA (H : Hp) : List V → List PyData → Prop
  | nil : TvA H [] []
  | cons {v : V} {vs : List V} {d : PyData} {ds : List PyData} : Tv H v d → TvA H vs ds → TvA H (v :: vs) (d :: ds)
end
mutual
theorem Tv.ts {H H' : Hp} (t : TS H H') : ∀ (d : PyData) (v : V), Tv H v d → Tv H' v d
  | .none, _, h => by cases h; exact .non
  | .bool b, _, h => by cases h; exact .bl b
  | .int i, _, h => by cases h; exact .int i
  | .str x, _, h => by cases h; exact .str x
  | .tuple ds, _, h => by
    cases h with
    | tup h1 h2 => exact .tup (t _ _ h1) (TvA.ts t ds _ h2)
  | .list _, _, h => by cases h
  | .dict _, _, h => by cases h
theorem TvA.ts {H H' : Hp} (t : TS H H') : ∀ (ds : List PyData) (vs : List V), TvA H vs ds → TvA H' vs ds
  | [], _, h => by cases h; exact .nil
  | d :: ds, _, h => by
    cases h with
    | cons h1 h2 => exact .cons (Tv.ts t d _ h1) (TvA.ts t ds _ h2)
end
mutual
theorem Tv.dp {K : PySem.W.Frag} {H : Hp} : ∀ (d : PyData) (v : V), Tv H v d → Dp K H v d
  | .none, _, h => by cases h; exact .non
  | .bool b, _, h => by cases h; exact .bl b
  | .int i, _, h => by cases h; exact .int i
  | .str x, _, h => by cases h; exact .str x
  | .tuple ds, _, h => by
    cases h with
    | tup h1 h2 => exact .tup (SqT.of h1) (TvA.dp ds _ h2)
  | .list _, _, h => by cases h
  | .dict _, _, h => by cases h
theorem TvA.dp {K : PySem.W.Frag} {H : Hp} : ∀ (ds : List PyData) (vs : List V), TvA H vs ds → DpAll K H vs ds
  | [], _, h => by cases h; exact .nil
  | d :: ds, _, h => by
    cases h with
    | cons h1 h2 => exact .cons (Tv.dp d _ h1) (TvA.dp ds _ h2)
end
theorem Tv.mv {H H' : Hp} {d : PyData} {v : V} (h : Tv H v d) (t : TS H H') : Tv H' v d := Tv.ts t d v h
theorem TvA.mv {H H' : Hp} {ds : List PyData} {vs : List V} (h : TvA H vs ds) (t : TS H H') : TvA H' vs ds := TvA.ts t ds vs h
theorem Tv.tupI {H : Hp} {v : V} {ds : List PyData} (h : Tv H v (.tuple ds)) : ∃ a xs, v = .ref a ∧ H a = some (.tup xs) ∧ TvA H xs ds := by
  cases h with
  | tup h1 h2 => exact ⟨_, _, rfl, h1, h2⟩
theorem Tv.intI {H : Hp} {v : V} {i : Int} (h : Tv H v (.int i)) : v = .int i := by cases h; rfl
theorem Tv.strI {H : Hp} {v : V} {x : Str} (h : Tv H v (.str x)) : v = .str x := by cases h; rfl
theorem Tv.nonI {H : Hp} {v : V} (h : Tv H v .none) : v = .non := by cases h; rfl
theorem Tv.blI {H : Hp} {v : V} {b : Bool} (h : Tv H v (.bool b)) : v = .bl b := by cases h; rfl
theorem TvA.len {H : Hp} : ∀ {ds : List PyData} {vs : List V}, TvA H vs ds → vs.length = ds.length
  | [], _, h => by cases h; rfl
  | d :: ds, _, h => by
    cases h with
    | cons h1 h2 => rw [List.length_cons, List.length_cons, TvA.len h2]
theorem TvA.get {H : Hp} : ∀ {ds : List PyData} {vs : List V} {i : Nat} {d : PyData}, TvA H vs ds → ds[i]? = some d → ∃ x, vs[i]? = some x ∧ Tv H x d
  | [], _, i, d, h, e => by simp at e
  | d0 :: ds, _, i, d, h, e => by
    cases h with
    | cons h1 h2 =>
      cases i with
      | zero => simp at e; subst e; exact ⟨_, rfl, h1⟩
      | succ i =>
        obtain ⟨x, e1, e2⟩ := TvA.get (i := i) h2 (by simpa using e)
        exact ⟨x, by simpa using e1, e2⟩
theorem TvA.nilI {H : Hp} {vs : List V} (h : TvA H vs []) : vs = [] := by cases h; rfl
theorem TvA.consI {H : Hp} {vs : List V} {d : PyData} {ds : List PyData} (h : TvA H vs (d :: ds)) : ∃ x r, vs = x :: r ∧ Tv H x d ∧ TvA H r ds := by
  cases h with
  | cons h1 h2 => exact ⟨_, _, rfl, h1, h2⟩
theorem TvA.snoc {H : Hp} : ∀ {ds : List PyData} {vs : List V} {d : PyData} {v : V}, TvA H vs ds → Tv H v d → TvA H (vs ++ [v]) (ds ++ [d])
  | [], _, d, v, h, hv => by cases h; exact .cons hv .nil
  | d0 :: ds, _, d, v, h, hv => by
    cases h with
    | cons h1 h2 => exact .cons h1 (TvA.snoc h2 hv)
theorem TvA.strs {H : Hp} : ∀ (xs : List Str), TvA H (xs.map V.str) (xs.map PyData.str)
  | [] => .nil
  | x :: r => .cons (.str x) (TvA.strs r)
theorem TvA.app {H : Hp} : ∀ {ds es : List PyData} {vs ws : List V}, TvA H vs ds → TvA H ws es → TvA H (vs ++ ws) (ds ++ es)
  | [], _, _, _, h, h' => by cases h; exact h'
  | d0 :: ds, _, _, _, h, h' => by
    cases h with
    | cons h1 h2 => exact .cons h1 (TvA.app h2 h')
theorem TvA.take {H : Hp} : ∀ {ds : List PyData} {vs : List V} (n : Nat), TvA H vs ds → TvA H (vs.take n) (ds.take n)
  | _, _, 0, _ => .nil
  | [], _, n + 1, h => by cases h; exact .nil
  | d0 :: ds, _, n + 1, h => by
    cases h with
    | cons h1 h2 => exact .cons h1 (TvA.take n h2)
theorem TvA.drop {H : Hp} : ∀ {ds : List PyData} {vs : List V} (n : Nat), TvA H vs ds → TvA H (vs.drop n) (ds.drop n)
  | _, _, 0, h => h
  | [], _, n + 1, h => by cases h; exact .nil
  | d0 :: ds, _, n + 1, h => by
    cases h with
    | cons h1 h2 => exact TvA.drop n h2
/-! ### data of tuples and lists -/
mutual
inductive Lv (H : Hp) : V → PyData → Prop
  | non : Lv H .non .none
  | bl (b : Bool) : Lv H (.bl b) (.bool b)
  | int (i : Int) : Lv H (.int i) (.int i)
  | str (x : Str) : Lv H (.str x) (.str x)
  | tup {a : Addr} {xs : List V} {ds : List PyData} : H a = some (.tup xs) → LvA H xs ds → Lv H (.ref a) (.tuple ds)
  | lst {a : Addr} {xs : List V} {ds : List PyData} : H a = some (.lst xs) → LvA H xs ds → Lv H (.ref a) (.list ds)
inductive LvA (H : Hp) : List V → List PyData → Prop
  | nil : LvA H [] []
  | cons {v : V} {vs : List V} {d : PyData} {ds : List PyData} : Lv H v d → LvA H vs ds → LvA H (v :: vs) (d :: ds)
end
mutual
theorem Lv.sm {H H' : Hp} (t : Same H H') : ∀ (d : PyData) (v : V), Lv H v d → Lv H' v d
  | .none, _, h => by cases h; exact .non
  | .bool b, _, h => by cases h; exact .bl b
  | .int i, _, h => by cases h; exact .int i
  | .str x, _, h => by cases h; exact .str x
  | .tuple ds, _, h => by
    cases h with
    | tup h1 h2 => exact .tup (t _ _ h1) (LvA.sm t ds _ h2)
  | .list ds, _, h => by
    cases h with
    | lst h1 h2 => exact .lst (t _ _ h1) (LvA.sm t ds _ h2)
  | .dict _, _, h => by cases h
theorem LvA.sm {H H' : Hp} (t : Same H H') : ∀ (ds : List PyData) (vs : List V), LvA H vs ds → LvA H' vs ds
  | [], _, h => by cases h; exact .nil
  | d :: ds, _, h => by
    cases h with
    | cons h1 h2 => exact .cons (Lv.sm t d _ h1) (LvA.sm t ds _ h2)
end
mutual
theorem Tv.lv {H : Hp} : ∀ (d : PyData) (v : V), Tv H v d → Lv H v d
  | .none, _, h => by cases h; exact .non
  | .bool b, _, h => by cases h; exact .bl b
  | .int i, _, h => by cases h; exact .int i
  | .str x, _, h => by cases h; exact .str x
  | .tuple ds, _, h => by
    cases h with
    | tup h1 h2 => exact .tup h1 (TvA.lv ds _ h2)
  | .list _, _, h => by cases h
  | .dict _, _, h => by cases h
theorem TvA.lv {H : Hp} : ∀ (ds : List PyData) (vs : List V), TvA H vs ds → LvA H vs ds
  | [], _, h => by cases h; exact .nil
  | d :: ds, _, h => by
    cases h with
    | cons h1 h2 => exact .cons (Tv.lv d _ h1) (TvA.lv ds _ h2)
end
theorem LvA.len {H : Hp} : ∀ {ds : List PyData} {vs : List V}, LvA H vs ds → vs.length = ds.length
  | [], _, h => by cases h; rfl
  | d :: ds, _, h => by
    cases h with
    | cons h1 h2 => rw [List.length_cons, List.length_cons, LvA.len h2]
theorem LvA.at {H : Hp} : ∀ {ds : List PyData} {vs : List V} {i : Nat} {x : V}, LvA H vs ds → vs[i]? = some x → ∃ d, ds[i]? = some d ∧ Lv H x d
  | [], _, i, x, h, e => by cases h; simp at e
  | d0 :: ds, _, i, x, h, e => by
    cases h with
    | cons h1 h2 =>
      cases i with
      | zero => simp at e; subst e; exact ⟨_, rfl, h1⟩
      | succ i =>
        obtain ⟨d, e1, e2⟩ := LvA.at (i := i) h2 (by simpa using e)
        exact ⟨d, by simpa using e1, e2⟩
/-- how deep a data value is: within n -/
def SD : Nat → PyData → Prop
  | 0, _ => False
  | _ + 1, .none => True
  | _ + 1, .bool _ => True
  | _ + 1, .int _ => True
  | _ + 1, .str _ => True
  | _ + 1, .dict _ => False
  | n + 1, .tuple ds => ds.length ≤ 50000 ∧ ∀ d ∈ ds, SD n d
  | n + 1, .list ds => ds.length ≤ 50000 ∧ ∀ d ∈ ds, SD n d
/-- isinstance of one class, of two -/
theorem isi1 {K : PySem.W.Frag} {H : Hp} {x : V} {T S : String} {b : Bool} {Q : VK} (ty : TyX K H x (.type T)) (k : kitB T S = some b) (q : Q (.bl b) H) : rIsiG K [x, .ty S] H Q :=
  .inl ⟨x, .ty S, .type T, .type S, b, rfl, .ty S, ty, kit_ty k, q⟩
theorem isi2 {K : PySem.W.Frag} {H : Hp} {x : V} {T S S' : String} {b b' : Bool} {tp : Addr} {Q : VK} (e : H tp = some (.tup [.ty S, .ty S'])) (ty : TyX K H x (.type T)) (k : kitB T S = some b) (k' : kitB T S' = some b') (q : Q (.bl (b || b')) H) : rIsiG K [x, .ref tp] H Q :=
  .inr ⟨x, tp, [.ty S, .ty S'], .type T, [.type S, .type S'], b || b', rfl, e, .cons (.ty S) (.cons (.ty S') .nil), ty,
    kitAny_cons (kit_ty k) (fun h => kitAny_cons (kit_ty k') (fun h' => by rw [h, h']; exact kitAny_nil) (fun h' => by rw [h']; exact Bool.or_true _)) (fun h => by rw [h]; rfl), q⟩
theorem notin_true : ∀ n : Nat, inV (.bl false) (List.replicate n (.bl true)) = false
  | 0 => rfl
  | n + 1 => by
    show (eqV (.bl true) (.bl false) || inV (.bl false) (List.replicate n (.bl true))) = false
    rw [notin_true n]
    rfl
theorem flat_true : ∀ n : Nat, (List.replicate n (V.bl true)).all flatV = true
  | 0 => rfl
  | n + 1 => by
    show (flatV (.bl true) && (List.replicate n (V.bl true)).all flatV) = true
    rw [flat_true n]
    rfl
/-! ### readers -/
structure Sta where
  ways : List (Nat × Cs)
  fin : Option Cs
  deriving DecidableEq
structure Rdr where
  reads : Cs
  tells : Cs
  states : List Sta
  deriving DecidableEq
instance : Inhabited Sta := ⟨⟨[], none⟩⟩
def dO : Option Cs → PyData
  | none => .none
  | some t => .str (tx t)
def dW (w : Nat × Cs) : PyData := .tuple [.int w.1, .str (tx w.2)]
def dS (s : Sta) : PyData := .tuple [.tuple (s.ways.map dW), dO s.fin]
def dR (r : Rdr) : PyData := .tuple [.str (tx r.reads), .str (tx r.tells), .tuple (r.states.map dS)]
/-- what reading it asks, no told text longer than B -/
structure Rdr.Ok (r : Rdr) (B : Nat) : Prop where
  ne : 0 < r.states.length
  ways : ∀ s ∈ r.states, s.ways.length = r.reads.length
  there : ∀ s ∈ r.states, ∀ w ∈ s.ways, w.1 < r.states.length ∧ w.2.length ≤ B
  fins : ∀ s ∈ r.states, ∀ t, s.fin = some t → t.length ≤ B
def Rdr.sta (r : Rdr) (s : Nat) : Sta := r.states.getD s default
def Rdr.go (r : Rdr) (s : Nat) (c : Nat) : Nat × Cs := (r.sta s).ways.getD (r.reads.idxOf c) (0, [])
def Rdr.run (r : Rdr) : Nat → Cs → Nat × Cs
  | s, [] => (s, [])
  | s, c :: cs => ((r.run (r.go s c).1 cs).1, (r.go s c).2 ++ (r.run (r.go s c).1 cs).2)
theorem Rdr.run_app (r : Rdr) : ∀ (l m : Cs) (s : Nat), r.run s (l ++ m) = ((r.run (r.run s l).1 m).1, (r.run s l).2 ++ (r.run (r.run s l).1 m).2)
  | [], m, s => rfl
  | c :: l, m, s => by
    show ((r.run (r.go s c).1 (l ++ m)).1, (r.go s c).2 ++ (r.run (r.go s c).1 (l ++ m)).2) = _
    rw [Rdr.run_app r l m]
    show _ = (_, ((r.go s c).2 ++ (r.run (r.go s c).1 l).2) ++ _)
    rw [List.append_assoc]
    rfl
theorem Rdr.run_one (r : Rdr) (s c : Nat) : r.run s [c] = r.go s c := by
  show ((r.go s c).1, (r.go s c).2 ++ []) = _
  rw [List.append_nil]
theorem Rdr.run_snoc (r : Rdr) (l : Cs) (c s : Nat) : r.run s (l ++ [c]) = ((r.go (r.run s l).1 c).1, (r.run s l).2 ++ (r.go (r.run s l).1 c).2) := by
  rw [Rdr.run_app, Rdr.run_one]
theorem Rdr.sta_at {r : Rdr} {s : Nat} (h : s < r.states.length) : r.states[s]? = some (r.sta s) := by
  unfold Rdr.sta
  rw [List.getD_eq_getElem?_getD, List.getElem?_eq_getElem h]
  rfl
theorem Rdr.sta_mem {r : Rdr} {s : Nat} (h : s < r.states.length) : r.sta s ∈ r.states := List.mem_of_getElem? (Rdr.sta_at h)
theorem Rdr.go_at {r : Rdr} {B s c : Nat} (o : r.Ok B) (h : s < r.states.length) (hc : c ∈ r.reads) : (r.sta s).ways[r.reads.idxOf c]? = some (r.go s c) := by
  have hl := o.ways _ (Rdr.sta_mem h)
  have hi := List.idxOf_lt_length_iff.mpr hc
  unfold Rdr.go
  rw [List.getD_eq_getElem?_getD, List.getElem?_eq_getElem (by omega)]
  rfl
theorem Rdr.go_ok {r : Rdr} {B s c : Nat} (o : r.Ok B) (h : s < r.states.length) (hc : c ∈ r.reads) : (r.go s c).1 < r.states.length ∧ (r.go s c).2.length ≤ B :=
  o.there _ (Rdr.sta_mem h) _ (List.mem_of_getElem? (Rdr.go_at o h hc))
theorem Rdr.run_ok {r : Rdr} {B : Nat} (o : r.Ok B) : ∀ (l : Cs) (s : Nat), s < r.states.length → (∀ c ∈ l, c ∈ r.reads) → (r.run s l).1 < r.states.length ∧ (r.run s l).2.length ≤ l.length * B
  | [], s, h, _ => ⟨h, Nat.zero_le _⟩
  | c :: l, s, h, hl => by
    have g := Rdr.go_ok o h (hl c (List.mem_cons_self ..))
    have q := Rdr.run_ok o l _ g.1 (fun x hx => hl x (List.mem_cons_of_mem _ hx))
    refine ⟨q.1, ?_⟩
    show ((r.go s c).2 ++ (r.run (r.go s c).1 l).2).length ≤ (l.length + 1) * B
    rw [List.length_append, Nat.succ_mul]
    omega
/-- the telling -/
def Rdr.telling (r : Rdr) (l : Cs) : Option Cs := (r.sta (r.run 0 l).1).fin.map ((r.run 0 l).2 ++ ·)
/-- a state as the document has it: R ways, below N, told at most B signs of T, an end of at most E -/
structure StaVal (R N B E : Nat) (T : Cs) (s : Sta) : Prop where
  len : s.ways.length = R
  way : ∀ w ∈ s.ways, w.1 < N ∧ w.2.length ≤ B ∧ ∀ c ∈ w.2, c ∈ T
  fin : ∀ t, s.fin = some t → t.length ≤ E ∧ ∀ c ∈ t, c ∈ T
structure Rdr.Val (r : Rdr) (B E : Nat) : Prop where
  ne : 0 < r.states.length
  sta : ∀ s ∈ r.states, StaVal r.reads.length r.states.length B E r.tells s
theorem Rdr.Val.ok {r : Rdr} {B E M : Nat} (v : r.Val B E) (hB : B ≤ M) (hE : E ≤ M) : r.Ok M :=
  ⟨v.ne, fun s hs => (v.sta s hs).len, fun s hs w hw => let z := (v.sta s hs).way w hw; ⟨z.1, Nat.le_trans z.2.1 hB⟩, fun s hs t ht => Nat.le_trans ((v.sta s hs).fin t ht).1 hE⟩
theorem succ_cost {m k C : Nat} (h : k < m) : (m - k) * C = (m - (k + 1)) * C + C := by
  rw [show m - k = (m - (k + 1)) + 1 by omega, Nat.succ_mul]
theorem end_of {H : Hp} {v : V} {t T : Cs} {E : Nat} (hv : v ∈ [V.str (tx t), V.str (("" : String) : Str), V.str (("" : String) : Str), V.non]) (ht : t.length ≤ E) (hs : ∀ c ∈ t, c ∈ T) :
    ∃ f : Option Cs, Tv H v (dO f) ∧ ∀ u, f = some u → u.length ≤ E ∧ ∀ c ∈ u, c ∈ T := by
  have h0 : ∃ f : Option Cs, Tv H (V.str (("" : String) : Str)) (dO f) ∧ ∀ u, f = some u → u.length ≤ E ∧ ∀ c ∈ u, c ∈ T := by
    refine ⟨some [], ?_, fun u e => ?_⟩
    · rw [tx_nil]
      exact .str _
    · cases e
      exact ⟨Nat.zero_le _, fun _ h => nomatch h⟩
  rcases List.mem_cons.mp hv with rfl | hv
  · exact ⟨some t, .str _, fun u e => by cases e; exact ⟨ht, hs⟩⟩
  rcases List.mem_cons.mp hv with rfl | hv
  · exact h0
  rcases List.mem_cons.mp hv with rfl | hv
  · exact h0
  · rw [List.mem_singleton.mp hv]
    exact ⟨none, .non, fun u e => nomatch e⟩
theorem min_in {r : Int} (h : 0 ≤ r) : 0 ≤ (if r < 3 then r else 3) ∧ (if r < 3 then r else 3) < 4 := by
  by_cases c : r < 3
  · rw [if_pos c]
    omega
  · rw [if_neg c]
    omega
/-- a data value is handed back -/
def Ret (d : PyData) (H : Hp) (Q : VK) : Prop := ∀ x H', Same H H' → Tv H' x d → Q x H'
theorem Tv.dR {H : Hp} {v : V} {r : Rdr} (h : Tv H v (dR r)) : ∃ a ss xs, v = .ref a ∧ H a = some (.tup [.str (tx r.reads), .str (tx r.tells), .ref ss]) ∧ H ss = some (.tup xs) ∧ TvA H xs (r.states.map dS) := by
  obtain ⟨a, xs, rfl, ha, hA⟩ := h.tupI
  obtain ⟨x1, r1, rfl, h1, hA⟩ := hA.consI
  obtain ⟨x2, r2, rfl, h2, hA⟩ := hA.consI
  obtain ⟨x3, r3, rfl, h3, hA⟩ := hA.consI
  cases hA.nilI
  cases h1.strI
  cases h2.strI
  obtain ⟨ss, ys, rfl, hs, hB⟩ := h3.tupI
  exact ⟨a, ss, ys, rfl, ha, hs, hB⟩
theorem Tv.dS {H : Hp} {v : V} {s : Sta} (h : Tv H v (dS s)) : ∃ a ws xs e, v = .ref a ∧ H a = some (.tup [.ref ws, e]) ∧ H ws = some (.tup xs) ∧ TvA H xs (s.ways.map dW) ∧ Tv H e (dO s.fin) := by
  obtain ⟨a, xs, rfl, ha, hA⟩ := h.tupI
  obtain ⟨x1, r1, rfl, h1, hA⟩ := hA.consI
  obtain ⟨x2, r2, rfl, h2, hA⟩ := hA.consI
  cases hA.nilI
  obtain ⟨ws, ys, rfl, hs, hB⟩ := h1.tupI
  exact ⟨a, ws, ys, x2, rfl, ha, hs, hB, h2⟩
theorem Tv.dW {H : Hp} {v : V} {w : Nat × Cs} (h : Tv H v (dW w)) : ∃ a, v = .ref a ∧ H a = some (.tup [.int w.1, .str (tx w.2)]) := by
  obtain ⟨a, xs, rfl, ha, hA⟩ := h.tupI
  obtain ⟨x1, r1, rfl, h1, hA⟩ := hA.consI
  obtain ⟨x2, r2, rfl, h2, hA⟩ := hA.consI
  cases hA.nilI
  cases h1.intI
  cases h2.strI
  exact ⟨a, rfl, ha⟩
theorem Tv.mkW {H : Hp} {a : Addr} {w : Nat × Cs} (h : H a = some (.tup [.int w.1, .str (tx w.2)])) : Tv H (.ref a) (Fo.dW w) := .tup h (.cons (.int _) (.cons (.str _) .nil))
theorem dS_at {H : Hp} {xs : List V} {r : Rdr} {s : Nat} (h : TvA H xs (r.states.map Fo.dS)) (hs : s < r.states.length) : ∃ x, xs[s]? = some x ∧ Tv H x (Fo.dS (r.sta s)) :=
  h.get (by rw [List.getElem?_map, Rdr.sta_at hs]; rfl)
theorem dW_at {H : Hp} {xs : List V} {r : Rdr} {B s c : Nat} (o : r.Ok B) (h : TvA H xs ((r.sta s).ways.map Fo.dW)) (hs : s < r.states.length) (hc : c ∈ r.reads) : ∃ x, xs[r.reads.idxOf c]? = some x ∧ Tv H x (Fo.dW (r.go s c)) :=
  h.get (by rw [List.getElem?_map, Rdr.go_at o hs hc]; rfl)
theorem take_snoc {α : Type} {l : List α} {i : Nat} {x : α} (h : l[i]? = some x) : l.take (i + 1) = l.take i ++ [x] := by
  rw [List.take_add_one, h]
  rfl
theorem tx_at {l : Cs} {i : Nat} {c : Nat} (h : (tx l).cps[i]? = some c) : l[i]? = some c := by
  unfold tx at h
  simpa using h
theorem tx_size (l : Cs) : (tx l).cps.size = l.length := by
  unfold tx
  simp
end Fo

namespace Fo
open PySem PySem.Spec PyProof.Rows L2
/-! ### what can be shown as a text -/
structure RP (d : PyData) (k M : Nat) : Prop where
  lay : d.canLay0 = true
  dep : d.depth ≤ k
  wt : d.weight ≤ M
  short : d.intsShort 13 = true
  show' : d.showable = true
theorem RP.mono {d : PyData} {k M k' M' : Nat} (h : RP d k M) (hk : k ≤ k') (hM : M ≤ M') : RP d k' M' := ⟨h.lay, Nat.le_trans h.dep hk, Nat.le_trans h.wt hM, h.short, h.show'⟩
theorem RP.none {k M : Nat} : RP .none k M := ⟨by simp [PyData.canLay0], by simp [PyData.depth], by simp [PyData.weight], by simp [PyData.intsShort], by simp [PyData.showable]⟩
theorem RP.str {l : Cs} {k M : Nat} (h : ∀ c ∈ l, c < 0x110000) (hl : l.length ≤ M) : RP (.str (tx l)) k M := by
  refine ⟨?_, by simp [PyData.depth], ?_, by simp [PyData.intsShort], by simp [PyData.showable]⟩
  · simp only [PyData.canLay0, PyData.strOk]
    rw [← Array.all_toList]
    exact List.all_eq_true.mpr fun c hc => decide_eq_true (h c hc)
  · show (tx l).cps.size ≤ M
    rw [tx_size]
    exact hl
theorem all_map0 {α : Type} {f : α → PyData} : ∀ {l : List α} {k M : Nat}, (∀ x ∈ l, RP (f x) k M) → PyData.canLayAll0 (l.map f) = true ∧ PyData.depthAll (l.map f) ≤ k ∧ PyData.weightAll (l.map f) ≤ l.length * (M + 1) ∧ PyData.intsShortAll 13 (l.map f) = true ∧ PyData.showableAll (l.map f) = true
  | [], k, M, _ => ⟨by simp [PyData.canLayAll0], by simp [PyData.depthAll], by simp [PyData.weightAll], by simp [PyData.intsShortAll], by simp [PyData.showableAll]⟩
  | x :: r, k, M, h => by
    have hx := h x (List.mem_cons_self ..)
    obtain ⟨a1, a2, a3, a4, a5⟩ := all_map0 (f := f) (l := r) fun y hy => h y (List.mem_cons_of_mem _ hy)
    rw [List.map_cons]
    refine ⟨?_, ?_, ?_, ?_, ?_⟩
    · simp only [PyData.canLayAll0, hx.lay, a1, Bool.and_self]
    · simp only [PyData.depthAll]
      have := hx.dep
      omega
    · simp only [PyData.weightAll, List.length_cons, Nat.succ_mul]
      have := hx.wt
      omega
    · simp only [PyData.intsShortAll, hx.short, a4, Bool.and_self]
    · simp only [PyData.showableAll, hx.show', a5, Bool.and_self]
theorem RP.tupM {α : Type} {f : α → PyData} {l : List α} {k M : Nat} (h : ∀ x ∈ l, RP (f x) k M) : RP (.tuple (l.map f)) (k + 1) (l.length * (M + 1)) := by
  obtain ⟨a1, a2, a3, a4, a5⟩ := all_map0 h
  exact ⟨by simp only [PyData.canLay0]; exact a1, by simp only [PyData.depth]; omega, by simp only [PyData.weight]; exact a3, by simp only [PyData.intsShort]; exact a4, by simp only [PyData.showable]; exact a5⟩
theorem RP.tup {ds : List PyData} {k M : Nat} (h : ∀ x ∈ ds, RP x k M) : RP (.tuple ds) (k + 1) (ds.length * (M + 1)) := by
  have := RP.tupM (f := id) h
  rw [List.map_id] at this
  exact this
theorem RP.nat {n k : Nat} (h : n < 1000) : RP (.int (n : Int)) k 64 := by
  have hl : (TL.tl (Str.ofString (toString ((n : Nat) : Int)))).length ≤ 3 := by
    rw [TL.tl_num]
    exact TL.numL_len (k := 3) (by decide) h
  have h2 : ((n : Int).natAbs).log2 ≤ 10 := by
    have e : (n : Int).natAbs = n := rfl
    rw [e]
    by_cases h0 : n = 0
    · subst h0
      decide
    · exact Nat.le_of_lt_succ ((Nat.log2_lt h0).mpr (by omega))
  refine ⟨by simp [PyData.canLay0], by simp [PyData.depth], ?_, ?_, ?_⟩
  · simp only [PyData.weight]
    split
    · omega
    · omega
  · simp only [PyData.intsShort]
    refine decide_eq_true ?_
    show (Str.ofString (toString ((n : Nat) : Int))).length ≤ 13
    rw [TL.len_tl]
    omega
  · simp only [PyData.showable]
    exact decide_eq_true (by omega)
theorem mem2 {α : Type} {P : α → Prop} {a b : α} (ha : P a) (hb : P b) : ∀ x ∈ [a, b], P x := fun x hx => by
  rcases List.mem_cons.mp hx with rfl | hx
  · exact ha
  · rw [List.mem_singleton.mp hx]
    exact hb
theorem mem3 {α : Type} {P : α → Prop} {a b c : α} (ha : P a) (hb : P b) (hc : P c) : ∀ x ∈ [a, b, c], P x := fun x hx => by
  rcases List.mem_cons.mp hx with rfl | hx
  · exact ha
  · exact mem2 hb hc x hx
theorem RP.dO {f : Option Cs} {k M : Nat} (h : ∀ t, f = some t → t.length ≤ M ∧ ∀ c ∈ t, c < 0x110000) : RP (Fo.dO f) k M := by
  cases f with
  | none => exact .none
  | some t => exact .str (h t rfl).2 (h t rfl).1
theorem RP.dR {r : Rdr} {B E : Nat} (v : r.Val B E) (hB : B ≤ 60) (hE : E ≤ 60) (hr : ∀ c ∈ r.reads, c < 0x110000) (ht : ∀ c ∈ r.tells, c < 0x110000) (lr : r.reads.length ≤ 20) (lt : r.tells.length ≤ 20) (ln : r.states.length ≤ 20) : RP (Fo.dR r) 60 1000000 := by
  have w1 : ∀ s ∈ r.states, RP (.tuple (s.ways.map Fo.dW)) 2 2700 := fun s hs => by
    have vs := v.sta s hs
    refine (RP.tupM (k := 1) (M := 130) (fun w hw => ?_)).mono (Nat.le_refl _) ?_
    · have z := vs.way w hw
      exact (RP.tup (k := 0) (M := 64) (mem2 (RP.nat (by omega)) (.str (fun c hc => ht c (z.2.2 c hc)) (by omega)))).mono (Nat.le_refl _) (by show 2 * (64 + 1) ≤ 130; decide)
    · rw [vs.len]
      omega
  have w2 : ∀ s ∈ r.states, RP (Fo.dS s) 3 5402 := fun s hs => by
    have vs := v.sta s hs
    exact (RP.tup (k := 2) (M := 2700) (mem2 (w1 s hs) (RP.dO fun t h => ⟨Nat.le_trans (vs.fin t h).1 (by omega), fun c hc => ht c ((vs.fin t h).2 c hc)⟩))).mono (Nat.le_refl _) (by show 2 * (2700 + 1) ≤ 5402; decide)
  have w3 := (RP.tupM w2).mono (k' := 4) (M' := 110000) (Nat.le_refl _) (by omega)
  exact (RP.tup (k := 4) (M := 110000) (mem3 (.str hr (by omega)) (.str ht (by omega)) w3)).mono (by decide) (by show 3 * (110000 + 1) ≤ 1000000; decide)
/-! ### repr of data, where nothing is being shown -/
def rRepr (K : PySem.W.Frag) : List V → Hp → VK → Prop := fun xs H Q => ∃ (a : Addr) (d : PyData), xs = [.ref a] ∧ Dp K H (.ref a) d ∧ RP d 60 1000000 ∧ Q (.str d.shown) H
section
variable {X : Cx}
theorem call_reprD (K : PySem.W.Frag) (e : X.K = K) {k : Nat} (hg : X.A.guards = some []) (hr : Room k X.A) : CallR X (.builtin "repr") (rRepr K) := by
  subst e
  intro pins s σ H xs us Q I r h
  obtain ⟨a, d, rfl, hd, rp, q⟩ := h
  rw [Vals.ref1 r]
  obtain ⟨as, rd⟩ := Dp.reads I d _ (.ref a) hd rfl
  have hl : d.layable0 = true := by
    have h1 := rp.lay
    have h2 : decide (d.depth ≤ 64) = true := decide_eq_true (Nat.le_trans rp.dep (by decide))
    have h3 : decide (d.weight ≤ 2 ^ 20) = true := decide_eq_true (Nat.le_trans rp.wt (by decide))
    show (d.canLay0 && decide (d.depth ≤ 64) && decide (d.weight ≤ 2 ^ 20)) = true
    rw [h1, h2, h3]
    rfl
  refine repr_of_reads' rd rp.show' (PyData.noDict_hsm (PyData.hasDict_of_layable hl)) hg (by have := hr.un; have := rp.dep; omega) (fun _ _ z => z) (fun h' u tk hk => ?_) (Nat.le_trans (shown_le13 hl rp.short) (by rw [sizeLine_eq]; decide))
  exact ⟨.str d.shown, H, I.kept hk, ⟨_, rfl⟩, q⟩
end
/-! ### a def that is asked where nothing is being shown -/
structure FnG (P : Program) (w : World) (K : PySem.W.Frag) (mg : Str → Option Value) (base : Heap) (CX : CXT) (k : Nat) (f : Addr) (fd : FuncData) (ps : List Str) (sp : Sp) : Prop where
  len : ∀ vs H Q E, sp vs H Q E → vs.length = ps.length
  run : ∀ (A : Around) (hg : A.guards = some []) (outer : List Env) (s : Shared) (H : Hp) (args : Args) (us : List Value) (vs : List V) (Q : VK) (E : XK), Room k A → Env0 P w K mg base A outer s H →
    BindsTo s fd args (ps.zip us) → Vals vs us → sp vs H Q E → codeAny (model P w) A (.call (.ref f) args) (CR CX outer P w H s Q E) s
section
variable {P : Program} {w : World} {K : PySem.W.Frag} {mg : Str → Option Value} {base : Heap}
/-- by its body -/
theorem fnG {x qual : Str} {st : Stmt} {f : Addr} {fd : FuncData} {N ps : List Str} {k : Nat} {sp : Sp} (F : Fun K x qual st f fd) (S : FnScope N ps (defScope st)) (len : ∀ vs H Q E, sp vs H Q E → vs.length = ps.length)
    (body : ∀ (cdv : Value) (A : Around) (outer : List Env) (s : Shared) (H : Hp) (vs : List V) (Q : VK) (E : XK), A.guards = some [] → Room k (A.deeper (envOfC qual (defScope st) s.heap.objs.size f cdv)) → sp vs H Q E →
      ∃ t, PSs (cxOf CX0 P w K mg base N qual (defScope st) f cdv A outer s H E).nox (defBody st) t ∧ t { nx := fun _ H' => Q .non H', rt := Q } (L2.start N vs) H) : FnG P w K mg base CX0 (k + 1) f fd ps sp := by
  obtain ⟨oc, od, kV, doc, pm, an, cdv, ct, osl, rfl, lk, hcd⟩ := F.ex
  refine ⟨len, fun A hg outer s H args us vs Q E hr en hb r h => ?_⟩
  have old : ∀ b o, base.get? b = some o → s.heap.get? b = some o := fun b o z => (en.bs b o z).1
  have inK := en.mod.kin.keeps old
  have kinds : ∀ y ∈ ps.zip us, (defScope st).names.lookup y.1 = some .local ∨ ((defScope st).names.lookup y.1 = some .cell ∧ ((cellsFrom (s.heap.objs.size + 1) (defScope st).names []).lookup y.1).isSome = true) := by
    rintro ⟨n, v⟩ hy
    rcases S.par n (List.of_mem_zip hy).1 with z | z
    · exact Or.inl z
    · exact Or.inr ⟨z, PySem.W.cellsFrom_some _ _ _ (Or.inl z)⟩
  apply codeAny_call_function hr.depth (inK _ _ lk) rfl S.co S.gen rfl
    (PySem.W.codeRec_of inK hcd)
  apply hb
  refine wpAny_newFunctionEnv_cells S.kind kinds (fun env he s1 x => ?_)
  subst he
  refine ⟨(en.mod.nolimit.keeps old).keeps x.toInCall.keep, ?_⟩
  apply codeAny_func
  obtain ⟨t, ht, hq⟩ := body cdv A outer s H vs Q E hg (hr.deeper _) h
  have J0 := inv_start (CX := CX0) (E := E) S hr.hd en (len _ _ _ _ h) r x
  refine wpAny_mono (ht.nox.run [] s1 _ H _ J0 hq) (fun fl s' z => ?_) (fun e s' z => z)
  have out : ∀ {σ' : L2.St} {H' : Hp} {v : V} {u : Value}, Inv (cxOf CX0 P w K mg base N qual (defScope st) f cdv A outer s H E) [] σ' H' s' → RelV v u → Q v H' → CE outer P w H s Q u s' :=
    fun J rv hv => ⟨_, _, J.os, J.bare, J.base, J.hok, rv, hv⟩
  cases fl with
  | next => exact let ⟨_, _, J, hv⟩ := z; out (v := V.non) (u := Value.none) J rfl hv
  | ret u => exact let ⟨_, _, _, J, rv, hv⟩ := z; out J rv hv
  | brk => exact let ⟨_, _, _, hv⟩ := z; hv.elim
  | cont => exact let ⟨_, _, _, hv⟩ := z; hv.elim
end
/-! ### the law's call, from such a promise -/
section
variable {P : Program} {w : World} {K : PySem.W.Frag} {mg mb : Str → Option Value} {k : Nat} {fa a : Addr} {fd : FuncData} {x : Str} {sp : Sp} {s₁ : Shared} {vs : List Value} {ns : List Int}
/-- what the law's call is to leave -/
def LawEnd (s₁ : Shared) (r : Result) (s' : Shared) : Prop := r = .ok (.ret (.bool true)) ∧ OldK s₁.heap s'.heap ∧ s'.os = s₁.os ∧ AllBare s'.gens
/-- from an abstract heap that tracks the script alone, or nothing -/
theorem lawG_at (inK : K.In s₁.heap) (hm : s₁.heap.Ns mainGlobals mg) (hb : s₁.heap.Ns builtinsNs mb) (hbb : ∀ x : Str, x ≠ "__name__" → mb x = bootBuiltins x) (lim : s₁.heap.NoLimit) (ng : s₁.gens = #[])
    (ha : s₁.heap.get? a = some { cls := .type "list", data := .seq vs.toArray }) (hr : Room k callerA) (F : ∀ base : Heap, K.In base → base.Ns mainGlobals mg → FnG P w K mg base CX0 k fa fd [x] sp)
    (bd : ∀ (s : Shared) (u : Value), BindsTo s fd ⟨[u], []⟩ [(x, u)]) {H : Hp} (only : Only H) (hs : sp [.ref a] H (fun v _ => v = .bl true) fun _ _ _ => False) (hok : HOk P w H s₁.heap) (at' : ∀ b, H b ≠ none → b = a) (out : H a ≠ none → K.lookup a = none) :
    codeAny (model P w) callerA (.call (.ref fa) ⟨[.ref a], []⟩) (LawEnd s₁) s₁ := by
  -- what is not tracked stands in the base
  have keepB : ∀ {b : Addr} {o : Obj}, s₁.heap.get? b = some o → H b = none → (hidT s₁.heap H).get? b = some o := hidT_get
  have untracked : ∀ {b : Addr}, b ≠ a → H b = none := fun {b} n => by
    by_cases z : H b = none
    · exact z
    · exact absurd (at' b z) n
  have spaces : ∀ {b : Addr} {m : Str → Option Value}, s₁.heap.Ns b m → (hidT s₁.heap H).Ns b m := fun {b m} h => by
    obtain ⟨o, es, ep, e, d, r⟩ := h
    refine ⟨o, es, ep, keepB e (untracked fun z => ?_), d, r⟩
    subst z
    cases ha.symm.trans e
    cases d
  have inB : K.In (hidT s₁.heap H) := fun b o e => by
    refine keepB (inK b o e) ?_
    by_cases z : H b = none
    · exact z
    · have eb := at' b z
      subst eb
      rw [out z] at e
      cases e
  have md : Mod K mg (hidT s₁.heap H) := by
    refine ⟨inB, spaces hm, ⟨mb, spaces hb, hbb⟩, ?_⟩
    obtain ⟨mc, h1, h2⟩ := lim
    exact ⟨mc, spaces h1, h2⟩
  have en : Env0 P w K mg (hidT s₁.heap H) callerA [] s₁ H := by
    refine ⟨rfl, md, fun b o e => of_hidT e, Nat.le_of_eq (hidT_size _ _), trivial, fun b z => ?_, hok, .of_eq ng⟩
    exact absurd (show b ∈ ([] : List Addr) from z) List.not_mem_nil
  have run := (F _ inB (spaces hm)).run callerA rfl [] s₁ H ⟨[.ref a], []⟩ [.ref a] [.ref a] _ _ hr en (bd s₁ (.ref a)) (.cons rfl .nil) hs
  refine codeAny_mono run fun r s' z => ?_
  rcases r with e | fl
  · exact False.elim z
  cases fl with
  | ret u =>
    obtain ⟨v, H', eos, bare, un, hok', rv, q⟩ := z
    cases (show v = .bl true from q)
    cases (show u = Value.bool true from rv)
    refine ⟨rfl, OldK.of_keep (fun b o e => ?_), eos, bare⟩
    by_cases zb : H b = none
    · exact un.keep b o e zb (by intro z; exact absurd (show b ∈ ([] : List Addr) from z) List.not_mem_nil) List.not_mem_nil
    · rcases only b with z | ⟨ob, xs, z⟩
      · exact absurd z zb
      · have h1 := (hok b _ z).1
        have h2 := (hok' b _ (un.frzs b ob _ z)).1
        cases e.symm.trans h1
        exact h2
  | next => exact False.elim z
  | brk => exact False.elim z
  | cont => exact False.elim z
theorem lawG (inK : K.In s₁.heap) (hm : s₁.heap.Ns mainGlobals mg) (hb : s₁.heap.Ns builtinsNs mb) (hbb : ∀ x : Str, x ≠ "__name__" → mb x = bootBuiltins x) (lim : s₁.heap.NoLimit) (ng : s₁.gens = #[])
    (ha : s₁.heap.get? a = some { cls := .type "list", data := .seq vs.toArray }) (hi : IntsAre vs ns) (hl : ns.length ≤ sizeLine) (hr : Room k callerA) (F : ∀ base : Heap, K.In base → base.Ns mainGlobals mg → FnG P w K mg base CX0 k fa fd [x] sp)
    (bd : ∀ (s : Shared) (u : Value), BindsTo s fd ⟨[u], []⟩ [(x, u)]) (hs : ∀ H : Hp, Only H → SqL K H a (ns.map V.int) → sp [.ref a] H (fun v _ => v = .bl true) fun _ _ _ => False) :
    codeAny (model P w) callerA (.call (.ref fa) ⟨[.ref a], []⟩) (LawEnd s₁) s₁ := by
  have rv := vals_ints hi
  have hl2 : (ns.map V.int).length ≤ sizeLine := by rw [List.length_map]; exact hl
  cases hk : K.lookup a with
  | some o =>
    have e := inK a o hk
    cases ha.symm.trans e
    have nothing : Only fun _ => none := fun _ => Or.inl rfl
    refine lawG_at inK hm hb hbb lim ng ha hr F bd nothing (hs _ nothing (Or.inr ⟨_, vs.toArray, _, hk, rfl, rfl, rfl, ?_, by simpa using rv⟩)) (fun b u z => nomatch z) (fun b z => absurd rfl z) (fun z => absurd rfl z)
    rw [List.size_toArray, hi.length]
    exact hl
  | none =>
    let o : Obj := { cls := .type "list", data := .seq vs.toArray }
    have here : upd (fun _ => none) a (HO.frz o (.lst (ns.map V.int))) a = some (.frz o (.lst (ns.map V.int))) := upd_same
    have only : Only (upd (fun _ => none) a (HO.frz o (.lst (ns.map V.int)))) := fun b => by
      by_cases hb' : b = a
      · subst hb'
        exact Or.inr ⟨_, _, here⟩
      · exact Or.inl (upd_ne hb')
    have just : ∀ b, upd (fun _ => none) a (HO.frz o (.lst (ns.map V.int))) b ≠ none → b = a := fun b z => by
      by_cases hb' : b = a
      · exact hb'
      · exact absurd (upd_ne hb') z
    refine lawG_at inK hm hb hbb lim ng ha hr F bd only (hs _ only (Or.inl (Or.inr ⟨_, here⟩))) (fun b u z => ?_) just (fun _ => hk)
    have eb := just b (by rw [z]; exact fun q => nomatch q)
    subst eb
    cases here.symm.trans z
    exact ⟨ha, hl2, vs, _, rv, ha⟩
end
theorem walkG {l : PySem.W.OpenLaw} {n k : Nat} {q : Program} {loose : List Str} {XP : (Str → Option Value) → Heap → Prop} {YP : World → Heap → Prop} {d : DefRec} {K : Params → PySem.W.Frag} {sp : PySem.W.Frag → Sp} {x : Str}
    (hn : l.most = some n) (hn2 : n ≤ sizeLine) (hdf : d.params.defaults = []) (hr : Room k callerA) (hY : ∀ (w : World) (h : Heap), YP w h → (K w.params).In h)
    (F : ∀ (w : World) (mg : Str → Option Value) (fa : Addr) (h : Heap), (K w.params).In h → h.Ns mainGlobals mg → mg d.name = some (.ref fa) →
      ∃ fd : FuncData, (∀ (s : Shared) (u : Value), BindsTo s fd ⟨[u], []⟩ [(x, u)]) ∧ ∀ base : Heap, (K w.params).In base → base.Ns mainGlobals mg → FnG l.prog w (K w.params) mg base CX0 k fa fd [x] (sp (K w.params)))
    (hsp : ∀ (K : PySem.W.Frag) (H : Hp) (a : Addr) (ns : List Int), ns.length ≤ n → SqL K H a (ns.map V.int) → sp K [.ref a] H (fun v _ => v = .bl true) fun _ _ _ => False) :
    PySem.W.WalkO q loose XP YP l.row.toRowW d [] (fun f vs => PySem.call f vs) := by
  apply Att.attach_call hn hdf
  intro w s₀ s₁ mg mb fa o pm cd doc a vs ns G Y ho hd hcd hmg hobj hints hlen hg
  have inK := hY w _ Y
  obtain ⟨fd, hb, hF⟩ := F w mg fa _ inK G.T.g hmg
  exact lawG inK G.T.g G.T.b G.T.builtins G.T.nolimit hg hobj hints (Nat.le_trans hlen hn2) hr hF hb (fun H _ hS => hsp _ H a ns hlen hS)
/-- a call that writes every keyword-only parameter -/
theorem kb_of {K : PySem.W.Frag} {x qual : Str} {params : Arguments} {body : List Stmt} {scope : Scope} {kws : List (Str × V)} {f : Addr} {fd : FuncData} {ps ks : List Str} {n : Nat} (F : FunD K x qual params body scope [] kws f fd)
    (h : ∀ (kV doc pm : Value) (an : Option Addr) (cdv ct : Value) (us ws : List Value), us.length = n → ws.length = ks.length → bindArgs (PySem.W.fnOf x qual params body scope .none kV doc pm an cdv ct) ⟨us, ks.zip ws⟩ = pure (ps.zip (us ++ ws))) :
    KBn K fd ps n ks (fun us ws => us ++ ws) (fun vs zs => vs ++ zs) := by
  obtain ⟨oc, od, dV, kV, doc, pm, an, cdv, ct, osl, rfl, lk, hcd, hD, hK⟩ := F.ex
  rcases hD with ⟨_, rfl⟩ | ⟨e, _⟩
  · exact ⟨fun s us ws _ h1 h2 => .of_eq (h kV doc pm an cdv ct us ws h1 h2), fun r1 r2 => r1.append r2⟩
  · exact absurd rfl e
end Fo

namespace Fo
open PySem PySem.Spec PyProof.Rows L2
/-! ### zip of any two of lists, tuples, texts -/
/-- what is gone over -/
inductive K3
  | l (a : Addr)
  | t (a : Addr)
  | s (z : Str)
def K3.v : K3 → V
  | .l a => .ref a
  | .t a => .ref a
  | .s z => .str z
def K3.over (K : PySem.W.Frag) (H : Hp) : K3 → List V → Prop
  | .l a, xs => SqL K H a xs
  | .t a, xs => SqT K H a xs
  | .s z, xs => xs = sgs z.cps.toList
/-- its iterator at it, i items taken -/
def K3.at_ (h : Heap) (it : Addr) (i : Nat) : K3 → Prop
  | .l a => h.IsListIter it a i
  | .t a => h.IsTupleIter it a i
  | .s z => ∃ t, h.IsStrIter it (strIterType z) z t i
def K3.low (b : Addr) : K3 → Prop
  | .l a => a < b
  | .t a => a < b
  | .s _ => True
theorem K3.at_obj {k : K3} {h : Heap} {it : Addr} {i : Nat} (x : k.at_ h it i) : ∃ o, h.get? it = some o ∧ ∀ v, o.data ≠ .cell v := by
  cases k with
  | l a =>
    obtain ⟨o, e, _, d⟩ := x
    exact ⟨o, e, fun v q => by rw [d] at q; cases q⟩
  | t a =>
    obtain ⟨o, e, _, d⟩ := x
    exact ⟨o, e, fun v q => by rw [d] at q; cases q⟩
  | s z =>
    obtain ⟨t, o, e, _, d⟩ := x
    exact ⟨o, e, fun v q => by rw [d] at q; cases q⟩
theorem K3.at_keep {k : K3} {h h' : Heap} {it : Addr} {i : Nat} (x : k.at_ h it i) (e : ∀ o, h.get? it = some o → h'.get? it = some o) : k.at_ h' it i := by
  cases k with
  | l a => exact Heap.IsListIter.at x e
  | t a => exact Heap.IsTupleIter.at x e
  | s z =>
    obtain ⟨t, o, eo, r⟩ := x
    exact ⟨t, o, e o eo, r⟩
theorem vals_at : ∀ {xs : List V} {us : List Value} {i : Nat} {u : Value}, Vals xs us → us[i]? = some u → ∃ x, xs[i]? = some x ∧ RelV x u
  | _, _, i, u, .nil, e => by simp at e
  | _, _, 0, u, .cons h _, e => by
    simp at e
    subst e
    exact ⟨_, rfl, h⟩
  | _, _, i + 1, u, .cons _ r, e => by
    obtain ⟨x, ex, rx⟩ := vals_at r (i := i) (by simpa using e)
    exact ⟨x, by simpa using ex, rx⟩
/-- what is drawn of it -/
structure Drawn (P : Program) (w : World) (A : Around) (k : K3) (h : Heap) (it : Addr) (i b : Nat) (xs : List V) (fp : List Addr) (Pv : Nat → Value → Prop) (St : Nat → Heap → Prop) : Prop where
  draws : Draws P w A it fp xs.length Pv St
  now : St i h
  items : ∀ j v, Pv j v → ∃ x, xs[j]? = some x ∧ RelV x v
  later : ∀ j h', St j h' → k.at_ h' it j
  mine : it ∈ fp
  low : ∀ c ∈ fp, c = it ∨ c < b
theorem K3.drawn {X : Cx} {pins : List (Addr × Obj)} {σ : L2.St} {H : Hp} {s : Shared} {k : K3} {it b : Addr} {i : Nat} {xs : List V} (A : Around) (calm : A.handled = none) (I : Inv X pins σ H s) (o : k.over X.K H xs) (x : k.at_ s.heap it i) (lo : k.low b) (hi : b ≤ it) :
    ∃ fp Pv St, Drawn X.prog X.w A k s.heap it i b xs fp Pv St := by
  cases k with
  | l a =>
    obtain ⟨us, r, here, _⟩ := I.list o
    have lo : a < b := lo
    have len : us.toArray.size = xs.length := by rw [List.size_toArray, r.length]
    refine ⟨[it, a], fun j v => us.toArray[j]? = some v, fun j h => h.IsListIter it a j ∧ h.IsList a us.toArray, ⟨by rw [← len]; exact Draws.list calm it a (Nat.ne_of_lt (Nat.lt_of_lt_of_le lo hi)) us.toArray, ⟨x, here.isList⟩, fun j v h => ?_, fun j h' st => st.1, by simp, fun c hc => ?_⟩⟩
    · exact vals_at r (by simpa using h)
    · rcases List.mem_cons.mp hc with h | h
      · exact .inl h
      · rw [List.mem_singleton.mp h]
        exact .inr lo
  | t a =>
    obtain ⟨us, r, here, _⟩ := I.tuple o
    have lo : a < b := lo
    have len : us.toArray.size = xs.length := by rw [List.size_toArray, r.length]
    refine ⟨[it, a], fun j v => us.toArray[j]? = some v, fun j h => h.IsTupleIter it a j ∧ h.IsTuple a us.toArray, ⟨by rw [← len]; exact Draws.tuple calm it a (Nat.ne_of_lt (Nat.lt_of_lt_of_le lo hi)) us.toArray, ⟨x, here⟩, fun j v h => ?_, fun j h' st => st.1, by simp, fun c hc => ?_⟩⟩
    · exact vals_at r (by simpa using h)
    · rcases List.mem_cons.mp hc with h | h
      · exact .inl h
      · rw [List.mem_singleton.mp h]
        exact .inr lo
  | s z =>
    obtain ⟨t, x⟩ := x
    have o : xs = sgs z.cps.toList := o
    subst o
    have len : z.cps.size = (sgs z.cps.toList).length := by unfold sgs; simp
    refine ⟨_, _, _, ⟨by rw [← len]; exact Draws.text calm it z t, x, fun j v h => ?_, fun j h' st => ⟨t, st⟩, by simp, fun c hc => .inl (by simpa using hc)⟩⟩
    obtain ⟨c, u, hc, rfl⟩ := h
    refine ⟨.str ⟨#[c]⟩, ?_, ⟨u, rfl⟩⟩
    unfold sgs
    rw [List.getElem?_map, Array.getElem?_toList, hc]
    rfl
/-- the five cells of a zip, from b on -/
structure Zs (h : Heap) (b : Addr) (k m : K3) (i : Nat) : Prop where
  zip : IsZip h (b + 4) (b + 2) (b + 3) .none
  its : IsTupOf2 h (b + 2) (.ref b) (.ref (b + 1))
  out : ∃ x y, IsTupOf2 h (b + 3) x y
  one : k.at_ h b i
  two : m.at_ h (b + 1) i
def cells (b : Addr) : List Addr := [b + 4, b + 2, b + 3, b, b + 1]
theorem in_cells {b c : Nat} : c ∈ cells b ↔ b ≤ c ∧ c ≤ b + 4 := by
  unfold cells
  simp only [List.mem_cons, List.not_mem_nil, or_false]
  omega
theorem sep_of {P : Program} {w : World} {A : Around} {k m : K3} {h : Heap} {b i : Nat} {xs ys : List V} {fp1 fp2 : List Addr} {P1 P2 : Nat → Value → Prop} {St1 St2 : Nat → Heap → Prop}
    (d1 : Drawn P w A k h b i b xs fp1 P1 St1) (d2 : Drawn P w A m h (b + 1) i b ys fp2 P2 St2) : ZipSep2 (b + 4) (b + 2) (b + 3) b (b + 1) fp1 fp2 := by
  have no1 : ∀ c : Nat, b < c → c ∉ fp1 := fun c hc hm => by
    rcases d1.low c hm with e | e
    · exact absurd e (Nat.ne_of_gt hc)
    · exact absurd (Nat.lt_trans hc e) (Nat.lt_irrefl _)
  have no2 : ∀ c : Nat, b ≤ c → c ≠ b + 1 → c ∉ fp2 := fun c hc hn hm => by
    rcases d2.low c hm with e | e
    · exact hn e
    · exact absurd (Nat.lt_of_le_of_lt hc e) (Nat.lt_irrefl _)
  have n : ∀ x y : Nat, x ≠ y → b + x ≠ b + y := fun x y h e => h (Nat.add_left_cancel e)
  exact ⟨n 2 4 (by decide), n 3 4 (by decide), n 2 3 (by decide), n 2 0 (by decide), d1.mine, no1 _ (Nat.lt_add_of_pos_right (by decide)), no1 _ (Nat.lt_add_of_pos_right (by decide)),
    n 2 1 (by decide), d2.mine, no2 _ (Nat.le_add_right _ _) (n 4 1 (by decide)), no2 _ (Nat.le_add_right _ _) (n 3 1 (by decide)), no2 _ (Nat.le_refl _) (n 0 1 (by decide)), no1 _ (Nat.lt_succ_self _)⟩
/-- both as they stand at each turn, the items in new pairs -/
def ItzA (K : PySem.W.Frag) (k m : K3) : It :=
  ⟨fun i H => ∃ (xs ys : List V) (x y : V), k.over K H xs ∧ m.over K H ys ∧ xs[i]? = some x ∧ ys[i]? = some y,
    fun i H v H' => ∃ (T : Addr) (x y : V), v = .ref T ∧ H T = none ∧ H' = upd H T (.tup [x, y]) ∧ (∀ xs, k.over K H xs → xs[i]? = some x) ∧ ∀ ys, m.over K H ys → ys[i]? = some y,
    fun i H => ∃ xs ys : List V, k.over K H xs ∧ m.over K H ys ∧ ((xs.length = i ∧ i ≤ ys.length) ∨ (ys.length = i ∧ i ≤ xs.length))⟩
theorem K3.same {X : Cx} {pins : List (Addr × Obj)} {σ : L2.St} {H : Hp} {s : Shared} {k : K3} {xs ys : List V} (I : Inv X pins σ H s) (a : k.over X.K H xs) (b : k.over X.K H ys) : xs = ys := by
  cases k with
  | l _ => exact I.list_inj a b
  | t _ => exact I.tuple_inj a b
  | s _ => exact Eq.trans a (Eq.symm b)
theorem turn_any {P : Program} {w : World} {K : PySem.W.Frag} {elts : List Expr} {kk : Nat} {tpos : Pos} {b : Addr} {k m : K3} (lk : k.low b) (lm : m.low b) :
    Turn P w K (.Tuple elts kk tpos) (ItzA K k m) (cells b) (b + 4) (fun i h => Zs h b k m i) where
  mem := by simp [cells]
  obj := fun i h z c hc => by
    unfold cells at hc
    rcases List.mem_cons.mp hc with rfl | hc
    · exact ⟨_, z.zip, fun v q => nomatch q⟩
    rcases List.mem_cons.mp hc with rfl | hc
    · exact ⟨_, z.its, fun v q => nomatch q⟩
    rcases List.mem_cons.mp hc with rfl | hc
    · obtain ⟨x, y, e⟩ := z.out
      exact ⟨_, e, fun v q => nomatch q⟩
    rcases List.mem_cons.mp hc with rfl | hc
    · exact K3.at_obj z.one
    · rw [List.mem_singleton.mp hc]
      exact K3.at_obj z.two
  keep := fun i h h' z keep => by
    obtain ⟨x, y, out⟩ := z.out
    have c := fun a (ha : a ∈ cells b) o => keep a ha o
    exact ⟨c _ (by simp [cells]) _ z.zip, c _ (by simp [cells]) _ z.its, ⟨x, y, c _ (by simp [cells]) _ out⟩, K3.at_keep z.one (c _ (by simp [cells])), K3.at_keep z.two (c _ (by simp [cells]))⟩
  item := by
    intro X eP ew eK calm i pins s σ H E I free z go
    subst eP ew eK
    obtain ⟨xs, ys, x, y, ox, oy, hx, hy⟩ := go
    obtain ⟨x0, y0, out⟩ := z.out
    have hh : X.A.in1.handled = none := by simpa using I.ok.hd calm
    obtain ⟨f1, P1, S1, d1⟩ := K3.drawn X.A.in1 hh I ox z.one lk (Nat.le_refl _)
    obtain ⟨f2, P2, S2, d2⟩ := K3.drawn X.A.in1 hh I oy z.two lm (Nat.le_succ _)
    have zl := Heap.lt_size z.zip
    refine wpAny_pyNext_zipD2_item (sep_of d1 d2) d1.draws d2.draws z.zip z.its out d1.now d2.now (List.getElem?_eq_some_iff.mp hx).1 (List.getElem?_eq_some_iff.mp hy).1 fun u v h' tk pu pv zip' out' s1 s2 new size keep => ?_
    refine ⟨_, rfl, wpAny_letOwnedTupleGo_zip (s := { s with heap := h', toks := tk }) zip' fun h'' zip'' same => ?_⟩
    obtain ⟨x', hx', rx⟩ := d1.items i u pu
    obtain ⟨y', hy', ry⟩ := d2.items i v pv
    rw [hx] at hx'
    rw [hy] at hy'
    cases hx'
    cases hy'
    have nz : ∀ c : Nat, c ≠ b + 4 → ∀ o, h'.get? c = some o → h''.get? c = some o := fun c hc o e => (same.2 c hc).trans e
    have n : ∀ x y : Nat, x ≠ y → b + x ≠ b + y := fun x y h e => h (Nat.add_left_cancel e)
    have made : ObjOk X.prog X.w (upd H s.heap.objs.size (.tup [x, y])) h'' s.heap.objs.size (.tup [x, y]) :=
      ⟨szS, [u, v], .cons rx (.cons ry .nil), ⟨_, nz _ (Nat.ne_of_gt zl) _ new, rfl, _, rfl⟩⟩
    have fresh := I.hok.fresh (a := s.heap.objs.size) (Nat.le_refl _)
    have J : Inv X pins σ (upd H s.heap.objs.size (.tup [x, y])) { s with heap := h'', toks := tk } :=
      I.turnedNew (ch := cells b) (fun c o hc e => nz c (fun q => hc (by rw [q]; simp [cells])) o (keep c o (fun q => hc (by rw [q]; simp [cells])) (fun q => hc (by rw [q]; simp [cells])) (fun q => hc (by rw [q]; simp [cells])) (fun q => hc (by rw [q]; simp [cells])) e)) free (Nat.le_refl _) made
    refine ⟨.ref s.heap.objs.size, _, J, rfl, ⟨_, x, y, rfl, fresh, rfl, fun l hl => by rw [K3.same I hl ox]; exact hx, fun l hl => by rw [K3.same I hl oy]; exact hy⟩,
      ⟨zip'', nz _ (n 2 4 (by decide)) _ (keep _ _ (n 2 4 (by decide)) (n 2 3 (by decide)) (n 2 0 (by decide)) (n 2 1 (by decide)) z.its), ⟨u, v, nz _ (n 3 4 (by decide)) _ out'⟩, K3.at_keep (d1.later _ _ s1) (nz _ (n 0 4 (by decide))), K3.at_keep (d2.later _ _ s2) (nz _ (n 1 4 (by decide)))⟩, fun c hc => ?_⟩
    have lt : c < s.heap.objs.size := by
      have := (in_cells.mp hc).2
      exact Nat.lt_of_le_of_lt this zl
    rw [upd_ne (Nat.ne_of_lt lt)]
    exact (free c hc).1
  done := by
    intro X eP ew eK calm i pins s σ H E I free z stop
    subst eP ew eK
    obtain ⟨xs, ys, ox, oy, ends⟩ := stop
    obtain ⟨x0, y0, out⟩ := z.out
    have hh : X.A.in1.handled = none := by simpa using I.ok.hd calm
    obtain ⟨f1, P1, S1, d1⟩ := K3.drawn X.A.in1 hh I ox z.one lk (Nat.le_refl _)
    obtain ⟨f2, P2, S2, d2⟩ := K3.drawn X.A.in1 hh I oy z.two lm (Nat.le_succ _)
    have e1 : i ≤ xs.length ∧ i ≤ ys.length ∧ (i = xs.length ∨ i = ys.length) := by omega
    refine wpAny_pyNext_zipD2_end (sep_of d1 d2) d1.draws d2.draws z.zip z.its out d1.now d2.now e1.1 e1.2.1 e1.2.2 fun h' tk keep => ⟨rfl, ?_⟩
    exact I.turnedL (ch := cells b) (fun c o hc e => keep c o (fun q => hc (by rw [q]; simp [cells])) (fun q => hc (by rw [q]; simp [cells])) (fun q => hc (by rw [q]; simp [cells])) (fun q => hc (by rw [q]; simp [cells])) e) free
  self := fun A i s Q E z h => wpAny_pyIter_zip z.zip h
/-- how going over it begins -/
theorem K3.begins {X : Cx} {pins : List (Addr × Obj)} {σ : L2.St} {H : Hp} {s : Shared} {k : K3} {xs : List V} {u : Value} (I : Inv X pins σ H s) (o : k.over X.K H xs) (r : RelV k.v u) :
    ∃ (ob : Obj) (Hq : Heap → Prop), Begins u ob Hq ∧ Hq s.heap ∧ k.low s.heap.objs.size ∧ ∀ (h : Heap) (it : Addr), h.get? it = some ob → k.at_ h it 0 := by
  cases k with
  | l a =>
    cases r
    obtain ⟨us, _, here, _⟩ := I.list o
    exact ⟨_, _, begins_list a us.toArray, here.isList, here.lt, fun h it e => ⟨_, e, rfl, rfl⟩⟩
  | t a =>
    cases r
    obtain ⟨us, _, here, _⟩ := I.tuple o
    obtain ⟨ob, e, _⟩ := id here
    exact ⟨_, _, begins_tuple a us.toArray, here, Heap.lt_size e, fun h it e => ⟨_, e, rfl, rfl⟩⟩
  | s z =>
    obtain ⟨t, rfl⟩ := r
    exact ⟨_, _, begins_text z t, trivial, trivial, fun h it e => ⟨t, _, e, rfl, rfl⟩⟩
def iZip2 (K : PySem.W.Frag) (ta : TA) : TI := fun σ H R => ta σ H fun vs H1 => ∃ (k m : K3) (xs ys : List V), vs = [k.v, m.v] ∧ k.over K H1 xs ∧ m.over K H1 ys ∧ R (ItzA K k m) H1
theorem pi_zip2 {X : Cx} (K : PySem.W.Frag) (eK : X.K = K) {e e2 : Expr} {ta : TA} {p pos tpos : Pos} {elts : List Expr} {kk : Nat} (hg : Gl X "zip") (hm : X.mg "zip" = none) (ha : PA X [e, e2] ta)
    (hs : starEach [e, e2] X.env = (false, eval e X.env) :: starEach [e2] X.env := by rfl) (hpl : (backTo pos (starEach [e2] X.env)).any (·.1) = false := by rfl) :
    PI X (.Tuple elts kk tpos) (.Call (.Name "zip" p) [e, e2] [] pos) (iZip2 K ta) := by
  subst eK
  refine ⟨fun pins s σ H R I asked => Call_ (ld_blt I hg hm boot_zip (callWith_type1 (thn (ha.run pos pins s σ H _ I asked) fun us s1 told => ?_) hs hpl))⟩
  obtain ⟨vs, H1, J, rs, k, m, xs, ys, rfl, ok, om, goal⟩ := told
  obtain ⟨u, v, rfl, ru, rv⟩ := Vals.two rs
  obtain ⟨ob1, q1, b1, here1, low1, at1⟩ := K3.begins J ok ru
  obtain ⟨ob2, q2, b2, here2, low2, at2⟩ := K3.begins J om rv
  refine zip_begins2 b1 b2 here1 here2 fun h' z its out o1 o2 size keep => wpAny_pyIter_zip z ?_
  refine ⟨s1.heap.objs.size + 4, cells s1.heap.objs.size, _, _, H1, rfl, J.kept (t' := s1.toks) keep, turn_any low1 low2, ⟨z, its, ⟨_, _, out⟩, at1 _ _ o1, at2 _ _ o2⟩, fun c hc => ?_, goal⟩
  have le := (in_cells.mp hc).1
  exact J.fpOk le (J.hok.fresh le)
theorem walk_zip2 {K : PySem.W.Frag} {k m : K3} {xs ys : List V} {n : Nat} (hn : n = min xs.length ys.length) :
    Walk (ItzA K k m) n (fun H => k.over K H xs ∧ m.over K H ys) (YPairN (fun i => xs[i]?) (fun i => ys[i]?)) := by
  refine walkPair ⟨fun i _ hi st => ?_, fun _ st => ⟨xs, ys, st.1, st.2, by omega⟩, fun i H v H' _ st y => ?_⟩
  · exact ⟨xs, ys, _, _, st.1, st.2, List.getElem?_eq_getElem (show i < xs.length by omega), List.getElem?_eq_getElem (show i < ys.length by omega)⟩
  · obtain ⟨T, x, y, e1, e2, e3, q1, q2⟩ := y
    exact ⟨T, x, y, e1, e2, e3, q1 xs st.1, q2 ys st.2⟩
end Fo

namespace Fo
open PySem PySem.Spec PyProof.Rows L2
/-! ### enumerate of a list, a tuple, a text -/
abbrev enumObj (it : Addr) : Obj := { cls := .type "enumerate", data := .fields #[.none, .bool false, .ref it, rawInt 0, .none, .none] }
theorem enum_made {v : Value} {ob : Obj} {Hq : Heap → Prop} (B : Begins v ob Hq) :
    Meets (Builtin.«enumerate.__new__» ⟨[.type "enumerate", v], []⟩) (fun _ R s => Hq s.heap ∧ R (.ok (.ret (.ref (s.heap.push ob).objs.size))) { s with heap := (s.heap.push ob).push (enumObj s.heap.objs.size) }) := by
  refine Meets.of_wp fun prog w A R s told => ?_
  rcases s with ⟨heap, gens, drawn, toks, os⟩
  rcases told with ⟨here, goal⟩
  have below := sub_enumerate
  have first : ∀ {A' : Around} {E Q : Value → Shared → Prop}, Q (.ref heap.objs.size) ⟨heap.push ob, gens, drawn, toks, os⟩ → wpAny (model prog w) A' (pyIter v) Q E ⟨heap, gens, drawn, toks, os⟩ := fun q => B.iter prog w _ _ ⟨heap, gens, drawn, toks, os⟩ _ here q
  wp_walk
  refine wpAny_stack_any fun st => wpAny_pure ?_
  split
  · rename_i c _ _ _ _ _
    cases (c == Value.type "enumerate") <;> (wp_walk using first; exact ⟨_, rfl, goal⟩)
  · wp_walk using first
    exact ⟨_, rfl, goal⟩
section
variable {P : Program} {w : World} {A : Around} {E : Value → Shared → Prop} {s : Shared}
theorem enum_call {v : Value} {ob : Obj} {Hq : Heap → Prop} {Q : Value → Shared → Prop} (B : Begins v ob Hq) (here : Hq s.heap)
    (goal : ∀ h', IsEnum h' (s.heap.objs.size + 1) s.heap.objs.size 0 .none → h'.get? s.heap.objs.size = some ob → (∀ b o, s.heap.get? b = some o → h'.get? b = some o) → Q (.ref (s.heap.objs.size + 1)) { s with heap := h' }) :
    wpAny (model P w) A (call (.type "enumerate") [v]) Q E s := by
  have next : (s.heap.push ob).objs.size = s.heap.objs.size + 1 := Heap.size_push ..
  refine callType_new F.called_enumerate (by decide) (F.typeCall_enumerate_1 _) (F.newCall_enumerate_1 _) (fun obj => F.args_object_init_2 obj _) F.entry_enumerate_new (enum_made B) ⟨here, ?_⟩
  have there : ((s.heap.push ob).push (enumObj s.heap.objs.size)).get? (s.heap.push ob).objs.size = some (enumObj s.heap.objs.size) := Heap.get?_push_size _ rfl
  rw [next] at there
  show _ ∧ _
  rw [next]
  exact ⟨⟨_, there, rfl⟩, goal _ there (Heap.get?_push_of_some _ (Heap.get?_push_size _ B.free)) fun b o e => Heap.get?_push_of_some _ (Heap.get?_push_of_some _ e)⟩
end
/-- as it stands at each turn, the place and the item in a new pair -/
def IteA (K : PySem.W.Frag) (k : K3) : It :=
  ⟨fun i H => ∃ (xs : List V) (x : V), k.over K H xs ∧ xs[i]? = some x,
    fun i H v H' => ∃ (T : Addr) (x : V), v = .ref T ∧ H T = none ∧ H' = upd H T (.tup [.int (i : Nat), x]) ∧ ∀ xs, k.over K H xs → xs[i]? = some x,
    fun i H => ∃ xs : List V, k.over K H xs ∧ xs.length = i⟩
theorem turn_each {P : Program} {w : World} {K : PySem.W.Frag} {elts : List Expr} {kk : Nat} {tpos : Pos} {b : Nat} {k : K3} (lk : k.low b) :
    Turn P w K (.Tuple elts kk tpos) (IteA K k) [b + 1, b] (b + 1) (fun i h => (∃ old, IsEnum h (b + 1) b ((i : Nat) : Int) old) ∧ k.at_ h b i) where
  mem := by simp
  obj := fun i h z c hc => by
    obtain ⟨⟨old, e⟩, x⟩ := z
    rcases List.mem_cons.mp hc with rfl | hc
    · exact ⟨_, e, fun v q => nomatch q⟩
    · rw [List.mem_singleton.mp hc]
      exact K3.at_obj x
  keep := fun i h h' z keep => by
    obtain ⟨⟨old, e⟩, x⟩ := z
    exact ⟨⟨old, keep _ (by simp) _ e⟩, K3.at_keep x (keep _ (by simp))⟩
  item := by
    intro X eP ew eK calm i pins s σ H E I free z go
    subst eP ew eK
    obtain ⟨⟨old, en⟩, at1⟩ := z
    obtain ⟨xs, x, ox, hx⟩ := go
    have hh : X.A.in1.handled = none := by simpa using I.ok.hd calm
    obtain ⟨f1, P1, S1, d1⟩ := K3.drawn X.A.in1 hh I ox at1 lk (Nat.le_refl _)
    have lt1 := Heap.lt_size en
    have notIn : b + 1 ∉ f1 := fun hm => by
      rcases d1.low _ hm with e | e
      · exact absurd e (Nat.succ_ne_self b)
      · exact absurd (Nat.lt_trans (Nat.lt_succ_self b) e) (Nat.lt_irrefl _)
    refine wpAny_pyNext_enum_itemD d1.draws en d1.now (List.getElem?_eq_some_iff.mp hx).1 (Nat.succ_ne_self b) notIn fun u h' tk pu out s1 new size keep => ?_
    refine ⟨_, rfl, wpAny_letOwnedTupleGo_enum (s := { s with heap := h', toks := tk + 1 }) out fun h'' en' same => ?_⟩
    obtain ⟨x', hx', rx⟩ := d1.items i u pu
    rw [hx] at hx'
    cases hx'
    have nz : ∀ c : Nat, c ≠ b + 1 → ∀ o, h'.get? c = some o → h''.get? c = some o := fun c hc o e => (same.2 c hc).trans e
    have made : ObjOk X.prog X.w (upd H s.heap.objs.size (.tup [.int (i : Nat), x])) h'' s.heap.objs.size (.tup [.int (i : Nat), x]) :=
      ⟨szS, [.int i tk, u], .cons ⟨_, rfl⟩ (.cons rx .nil), ⟨_, nz _ (Nat.ne_of_gt lt1) _ new, rfl, _, rfl⟩⟩
    have fresh := I.hok.fresh (a := s.heap.objs.size) (Nat.le_refl _)
    have J : Inv X pins σ (upd H s.heap.objs.size (.tup [.int (i : Nat), x])) { s with heap := h'', toks := tk + 1 } :=
      I.turnedNew (ch := [b + 1, b]) (fun c o hc e => nz c (fun q => hc (by rw [q]; simp)) o (keep c o (fun q => hc (by rw [q]; simp)) (fun q => hc (by rw [q]; simp)) e)) free (Nat.le_refl _) made
    have place : (((i + 1 : Nat) : Nat) : Int) = (i : Int) + 1 := by omega
    refine ⟨.ref s.heap.objs.size, _, J, rfl, ⟨_, x, rfl, fresh, rfl, fun l hl => by rw [K3.same I hl ox]; exact hx⟩, ⟨⟨_, by rw [place]; exact en'⟩, K3.at_keep (d1.later _ _ s1) (nz _ (Nat.ne_of_lt (Nat.lt_succ_self b)))⟩, fun c hc => ?_⟩
    have lt : c < s.heap.objs.size := by
      rcases List.mem_cons.mp hc with rfl | hc
      · exact lt1
      · rw [List.mem_singleton.mp hc]
        exact Nat.lt_trans (Nat.lt_succ_self b) lt1
    rw [upd_ne (Nat.ne_of_lt lt)]
    exact (free c hc).1
  done := by
    intro X eP ew eK calm i pins s σ H E I free z stop
    subst eP ew eK
    obtain ⟨⟨old, en⟩, at1⟩ := z
    obtain ⟨xs, ox, rfl⟩ := stop
    have hh : X.A.in1.handled = none := by simpa using I.ok.hd calm
    obtain ⟨f1, P1, S1, d1⟩ := K3.drawn X.A.in1 hh I ox at1 lk (Nat.le_refl _)
    refine wpAny_pyNext_enum_endD d1.draws en d1.now fun h' keep => ⟨rfl, ?_⟩
    exact I.turnedL (t' := s.toks) (ch := [b + 1, b]) (fun c o hc e => keep c o (fun q => hc (by rw [q]; simp)) e) free
  self := fun A i s Q E z h => wpAny_pyIter_enum z.1.choose_spec h
def iEnumA (K : PySem.W.Frag) (ta : TA) : TI := fun σ H R => ta σ H fun vs H1 => ∃ (k : K3) (xs : List V), vs = [k.v] ∧ k.over K H1 xs ∧ R (IteA K k) H1
theorem pi_enumA {X : Cx} (K : PySem.W.Frag) (eK : X.K = K) {e : Expr} {ta : TA} {p pos tpos : Pos} {elts : List Expr} {kk : Nat} (hg : Gl X "enumerate") (hm : X.mg "enumerate" = none) (ha : PA X [e] ta) (hs : starEach [e] X.env = [(false, eval e X.env)] := by rfl) :
    PI X (.Tuple elts kk tpos) (.Call (.Name "enumerate" p) [e] [] pos) (iEnumA K ta) := by
  subst eK
  refine ⟨fun pins s σ H R I asked => Call_ (ld_blt I hg hm boot_enumerate (callWith_type1 (thn (ha.run pos pins s σ H _ I asked) fun us s1 told => ?_) hs rfl))⟩
  obtain ⟨vs, H1, J, rs, k, xs, rfl, ok, goal⟩ := told
  obtain ⟨u, rfl, ru⟩ := Vals.one rs
  obtain ⟨ob, q1, b1, here, low, at1⟩ := K3.begins J ok ru
  refine enum_call b1 here fun h' en o1 keep => wpAny_pyIter_enum en ?_
  refine ⟨s1.heap.objs.size + 1, [s1.heap.objs.size + 1, s1.heap.objs.size], _, _, H1, rfl, J.kept (t' := s1.toks) keep, turn_each low, ⟨⟨_, en⟩, at1 _ _ o1⟩, fun c hc => ?_, goal⟩
  have le : s1.heap.objs.size ≤ c := by
    rcases List.mem_cons.mp hc with rfl | hc
    · exact Nat.le_succ _
    · rw [List.mem_singleton.mp hc]
      exact Nat.le_refl _
  exact J.fpOk le (J.hok.fresh le)
theorem walk_each {K : PySem.W.Frag} {k : K3} {xs : List V} :
    Walk (IteA K k) xs.length (fun H => k.over K H xs) (YPairN (fun i => some (.int (i : Nat))) (fun i => xs[i]?)) := by
  refine walkPair ⟨fun i _ hi st => ⟨xs, _, st, List.getElem?_eq_getElem hi⟩, fun _ st => ⟨xs, st, rfl⟩, fun i H v H' _ st y => ?_⟩
  obtain ⟨T, x, e1, e2, e3, q⟩ := y
  exact ⟨T, .int (i : Nat), x, e1, e2, e3, rfl, q xs st⟩
end Fo

namespace Fo
open PySem PySem.Spec PyProof.Rows L2
/-! ### lots -/
structure LSt where
  ways : List (Option Nat)
  good : Bool
structure Lot where
  signs : Cs
  states : List LSt
instance : Inhabited LSt := ⟨⟨[], false⟩⟩
def dN : Option Nat → PyData
  | none => .none
  | some n => .int (n : Int)
def dLs (s : LSt) : PyData := .tuple [.tuple (s.ways.map dN), .bool s.good]
def dLot (l : Lot) : PyData := .tuple [.str (tx l.signs), .tuple (l.states.map dLs)]
structure Lot.Ok (l : Lot) : Prop where
  ne : 0 < l.states.length
  ways : ∀ s ∈ l.states, s.ways.length = l.signs.length
  there : ∀ s ∈ l.states, ∀ n, some n ∈ s.ways → n < l.states.length
  once : l.signs.Nodup
def Lot.sta (l : Lot) (s : Nat) : LSt := l.states.getD s default
def Lot.step (l : Lot) : Option Nat → Nat → Option Nat
  | none, _ => none
  | some s, c => if c ∈ l.signs then (l.sta s).ways.getD (l.signs.idxOf c) none else none
def Lot.on (l : Lot) (s : Option Nat) (t : Cs) : Option Nat := t.foldl l.step s
def Lot.word (l : Lot) (t : Cs) : Bool := match l.on (some 0) t with
  | none => false
  | some s => (l.sta s).good
theorem Lot.on_none (l : Lot) : ∀ t : Cs, l.on none t = none
  | [] => rfl
  | c :: t => Lot.on_none l t
theorem Lot.on_snoc (l : Lot) (s : Option Nat) (t : Cs) (c : Nat) : l.on s (t ++ [c]) = l.step (l.on s t) c := by
  unfold Lot.on
  rw [List.foldl_append]
  rfl
theorem Lot.on_split (l : Lot) (s : Option Nat) (t : Cs) (i : Nat) : l.on s t = l.on (l.on s (t.take i)) (t.drop i) := by
  unfold Lot.on
  rw [← List.foldl_append, List.take_append_drop]
theorem Lot.on_stop {l : Lot} {s : Option Nat} {t : Cs} {i : Nat} (h : l.on s (t.take i) = none) : l.on s t = none := by
  rw [Lot.on_split l s t i, h, Lot.on_none]
theorem Lot.sta_at {l : Lot} {s : Nat} (h : s < l.states.length) : l.states[s]? = some (l.sta s) := by
  unfold Lot.sta
  rw [List.getD_eq_getElem?_getD, List.getElem?_eq_getElem h]
  rfl
theorem Lot.sta_mem {l : Lot} {s : Nat} (h : s < l.states.length) : l.sta s ∈ l.states := List.mem_of_getElem? (Lot.sta_at h)
theorem Lot.way_at {l : Lot} (o : l.Ok) {s c : Nat} (hs : s < l.states.length) (hc : c ∈ l.signs) : (l.sta s).ways[l.signs.idxOf c]? = some (l.step (some s) c) := by
  have hi := List.idxOf_lt_length_iff.mpr hc
  have hl := o.ways _ (Lot.sta_mem hs)
  show _ = some (if c ∈ l.signs then (l.sta s).ways.getD (l.signs.idxOf c) none else none)
  rw [if_pos hc, List.getD_eq_getElem?_getD, List.getElem?_eq_getElem (by omega)]
  rfl
theorem Lot.step_lt {l : Lot} (o : l.Ok) {s c n : Nat} (hs : s < l.states.length) (h : l.step (some s) c = some n) : n < l.states.length := by
  have hc : c ∈ l.signs := by
    rcases Classical.em (c ∈ l.signs) with q | q
    · exact q
    · have e : l.step (some s) c = none := if_neg q
      rw [e] at h
      cases h
  have w := Lot.way_at o hs hc
  rw [h] at w
  exact o.there _ (Lot.sta_mem hs) n (List.mem_of_getElem? w)
theorem Lot.on_lt {l : Lot} (o : l.Ok) : ∀ (t : Cs) (s n : Nat), s < l.states.length → l.on (some s) t = some n → n < l.states.length
  | [], s, n, hs, h => by
    cases h
    exact hs
  | c :: t, s, n, hs, h => by
    have h : l.on (l.step (some s) c) t = some n := h
    cases e : l.step (some s) c with
    | none =>
      rw [e, Lot.on_none] at h
      cases h
    | some m =>
      rw [e] at h
      exact Lot.on_lt o t m n (Lot.step_lt o hs e) h
/-! ### how many words -/
def bump (xs : List Int) (k : Nat) (v : Int) : List Int := xs.set k (xs.getD k 0 + v)
def bumps (v : Int) : List (Option Nat) → List Int → List Int
  | [], a => a
  | none :: ws, a => bumps v ws a
  | some k :: ws, a => bumps v ws (bump a k v)
def sweep : List Int → List LSt → List Int → List Int
  | c :: cs, s :: ss, a => sweep cs ss (bumps c s.ways a)
  | _, _, a => a
def Lot.more (l : Lot) (cs : List Int) : List Int := sweep cs l.states (List.replicate l.states.length 0)
def Lot.cnt (l : Lot) : Nat → List Int
  | 0 => 1 :: List.replicate (l.states.length - 1) 0
  | n + 1 => l.more (l.cnt n)
def total : List Int → List LSt → List Int
  | c :: cs, s :: ss => if s.good then c :: total cs ss else total cs ss
  | _, _ => []
def Lot.many (l : Lot) (n : Nat) : Int := (total (l.cnt n) l.states).sum
theorem bump_len (xs : List Int) (k : Nat) (v : Int) : (bump xs k v).length = xs.length := List.length_set
theorem bumps_len (v : Int) : ∀ (ws : List (Option Nat)) (a : List Int), (bumps v ws a).length = a.length
  | [], _ => rfl
  | none :: ws, a => bumps_len v ws a
  | some k :: ws, a => (bumps_len v ws _).trans (bump_len a k v)
theorem sweep_len : ∀ (cs : List Int) (ss : List LSt) (a : List Int), (sweep cs ss a).length = a.length
  | [], _, _ => rfl
  | _ :: _, [], _ => rfl
  | c :: cs, s :: ss, a => (sweep_len cs ss _).trans (bumps_len c s.ways a)
theorem Lot.cnt_len {l : Lot} (o : l.Ok) : ∀ n, (l.cnt n).length = l.states.length
  | 0 => by
    show (1 :: List.replicate (l.states.length - 1) 0 : List Int).length = _
    have := o.ne
    rw [List.length_cons, List.length_replicate]
    omega
  | n + 1 => (sweep_len _ _ _).trans List.length_replicate
theorem bump_get {xs : List Int} {k : Nat} (v : Int) (j : Nat) (h : k < xs.length) : (bump xs k v).getD j 0 = xs.getD j 0 + if k = j then v else 0 := by
  unfold bump
  rw [List.getD_eq_getElem?_getD, List.getElem?_set]
  by_cases e : k = j
  · subst e
    rw [if_pos rfl, if_pos h, if_pos rfl]
    rfl
  · rw [if_neg e, if_neg e, List.getD_eq_getElem?_getD, Int.add_zero]
theorem bumps_get (v : Int) (j : Nat) : ∀ (ws : List (Option Nat)) (a : List Int), (∀ k, some k ∈ ws → k < a.length) → (bumps v ws a).getD j 0 = a.getD j 0 + v * (ws.count (some j) : Nat)
  | [], a, _ => by
    show a.getD j 0 = a.getD j 0 + v * ((0 : Nat) : Int)
    simp
  | none :: ws, a, h => by
    have e : (none :: ws).count (some j) = ws.count (some j) := by rw [List.count_cons]; simp
    rw [e]
    exact bumps_get v j ws a fun k hk => h k (List.mem_cons_of_mem _ hk)
  | some k :: ws, a, h => by
    have hk := h k (List.mem_cons_self ..)
    have ih := bumps_get v j ws (bump a k v) fun m hm => by rw [bump_len]; exact h m (List.mem_cons_of_mem _ hm)
    show (bumps v ws (bump a k v)).getD j 0 = _
    rw [ih, bump_get v j hk, List.count_cons]
    by_cases e : k = j
    · subst e
      simp [Int.mul_add]
      omega
    · have ne : (some k == some j) = false := by simpa using e
      rw [if_neg e, ne]
      simp
/-- what comes to j, by the counts c from the states from k on -/
def flow (c : Nat → Int) (j : Nat) : List LSt → Nat → Int
  | [], _ => 0
  | s :: ss, k => c k * (s.ways.count (some j) : Nat) + flow c j ss (k + 1)
theorem sweep_get (j : Nat) (c : Nat → Int) : ∀ (cs : List Int) (ss : List LSt) (a : List Int) (k : Nat), cs.length = ss.length → (∀ i, cs.getD i 0 = c (k + i)) → (∀ s ∈ ss, ∀ n, some n ∈ s.ways → n < a.length) →
    (sweep cs ss a).getD j 0 = a.getD j 0 + flow c j ss k
  | [], [], a, k, _, _, _ => (Int.add_zero _).symm
  | [], _ :: _, _, _, h, _, _ => by simp at h
  | _ :: _, [], _, _, h, _, _ => by simp at h
  | x :: cs, s :: ss, a, k, h, hc, ht => by
    have ih := sweep_get j c cs ss (bumps x s.ways a) (k + 1) (by simpa using h) (fun i => by have := hc (i + 1); rw [show k + 1 + i = k + (i + 1) by omega, ← this]; rfl) fun s' hs n hn => by rw [bumps_len]; exact ht s' (List.mem_cons_of_mem _ hs) n hn
    have e0 : x = c k := hc 0
    show (sweep cs ss (bumps x s.ways a)).getD j 0 = _
    rw [ih, bumps_get x j s.ways a (ht s (List.mem_cons_self ..)), e0]
    show _ = a.getD j 0 + (c k * _ + flow c j ss (k + 1))
    omega
theorem flow_zero (j : Nat) : ∀ (ss : List LSt) (k : Nat), flow (fun _ => 0) j ss k = 0
  | [], _ => rfl
  | s :: ss, k => by
    show 0 * _ + flow (fun _ => 0) j ss (k + 1) = 0
    rw [flow_zero j ss (k + 1), Int.zero_mul, Int.add_zero]
theorem flow_one (c : Nat → Int) (j m : Nat) : ∀ (ss : List LSt) (k : Nat), flow (fun i => c i + if m = i then 1 else 0) j ss k = flow c j ss k + if k ≤ m then (((ss[m - k]?).map fun s => s.ways.count (some j)).getD 0 : Nat) else 0
  | [], k => by
    show (0 : Int) = 0 + _
    split <;> simp
  | s :: ss, k => by
    have ih := flow_one c j m ss (k + 1)
    show (c k + if m = k then 1 else 0) * ((s.ways.count (some j) : Nat) : Int) + flow _ j ss (k + 1) = c k * ((s.ways.count (some j) : Nat) : Int) + flow c j ss (k + 1) + _
    rw [ih, Int.add_mul]
    rcases Nat.lt_trichotomy m k with h | h | h
    · rw [if_neg (show ¬ m = k by omega), if_neg (show ¬ k + 1 ≤ m by omega), if_neg (show ¬ k ≤ m by omega)]
      omega
    · subst h
      rw [if_pos rfl, if_neg (show ¬ m + 1 ≤ m by omega), if_pos (Nat.le_refl m), Nat.sub_self]
      show c m * _ + 1 * _ + (_ + 0) = c m * _ + _ + ((s.ways.count (some j) : Nat) : Int)
      omega
    · rw [if_neg (show ¬ m = k by omega), if_pos (show k + 1 ≤ m by omega), if_pos (show k ≤ m by omega), show m - k = (m - (k + 1)) + 1 by omega, List.getElem?_cons_succ]
      omega
/-- the ways of a state -/
def Lot.roads (l : Lot) (j : Nat) : Option Nat → Nat
  | none => 0
  | some s => (l.sta s).ways.count (some j)
theorem flow_list {l : Lot} (j : Nat) : ∀ F : List (Option Nat), (∀ s, some s ∈ F → s < l.states.length) → flow (fun i => ((F.count (some i) : Nat) : Int)) j l.states 0 = ((F.map (l.roads j)).sum : Nat)
  | [], _ => flow_zero j l.states 0
  | none :: F, h => by
    have ih := flow_list j F fun s hs => h s (List.mem_cons_of_mem _ hs)
    have e : (fun i => (((none :: F).count (some i) : Nat) : Int)) = fun i => ((F.count (some i) : Nat) : Int) := funext fun i => by rw [List.count_cons]; simp
    rw [e, ih, List.map_cons, List.sum_cons]
    show _ = (((0 : Nat) + _ : Nat) : Int)
    rw [Nat.zero_add]
  | some m :: F, h => by
    have ih := flow_list j F fun s hs => h s (List.mem_cons_of_mem _ hs)
    have hm := h m (List.mem_cons_self ..)
    have e : (fun i => (((some m :: F).count (some i) : Nat) : Int)) = fun i => ((F.count (some i) : Nat) : Int) + if m = i then 1 else 0 := funext fun i => by
      rw [List.count_cons]
      by_cases q : m = i
      · subst q
        simp
      · have ne : (some m == some i) = false := by simpa using q
        rw [ne, if_neg q]
        simp
    rw [e, flow_one, ih, List.map_cons, List.sum_cons, if_pos (Nat.zero_le m), Nat.sub_zero, Lot.sta_at hm]
    show _ + (((l.sta m).ways.count (some j) : Nat) : Int) = (((l.sta m).ways.count (some j) + _ : Nat) : Int)
    omega
/-- all texts of a length, as they are made -/
def longer (g : Cs) (ts : List Cs) : List Cs := ts.flatMap fun t => g.map fun c => t ++ [c]
def texts (g : Cs) : Nat → List Cs
  | 0 => [[]]
  | n + 1 => longer g (texts g n)
theorem map_ways : ∀ (g : Cs) (ws : List (Option Nat)), g.Nodup → ws.length = g.length → (g.map fun c => ws.getD (g.idxOf c) none) = ws
  | [], [], _, _ => rfl
  | [], _ :: _, _, h => by simp at h
  | _ :: _, [], _, h => by simp at h
  | a :: g, w :: ws, d, h => by
    obtain ⟨d1, d2⟩ := List.nodup_cons.mp d
    have ih := map_ways g ws d2 (by simpa using h)
    rw [List.map_cons, List.idxOf_cons_self]
    show w :: _ = w :: ws
    congr 1
    refine Eq.trans (List.map_congr_left fun c hc => ?_) ih
    have ne : (a == c) = false := beq_eq_false_iff_ne.mpr fun e => d1 (e ▸ hc)
    rw [List.idxOf_cons, ne, cond_false]
    rfl
theorem step_all {l : Lot} (o : l.Ok) {s : Nat} (hs : s < l.states.length) : l.signs.map (l.step (some s)) = (l.sta s).ways := by
  refine Eq.trans (List.map_congr_left fun c hc => ?_) (map_ways l.signs (l.sta s).ways o.once (o.ways _ (Lot.sta_mem hs)))
  exact if_pos hc
theorem on_longer {l : Lot} (ts : List Cs) : (longer l.signs ts).map (l.on (some 0)) = (ts.map (l.on (some 0))).flatMap fun o => l.signs.map (l.step o) := by
  unfold longer
  rw [List.map_flatMap, List.flatMap_map]
  congr 1
  funext t
  rw [List.map_map]
  exact List.map_congr_left fun c _ => Lot.on_snoc l (some 0) t c
theorem count_flat {l : Lot} (o : l.Ok) (j : Nat) : ∀ F : List (Option Nat), (∀ s, some s ∈ F → s < l.states.length) → (F.flatMap fun q => l.signs.map (l.step q)).count (some j) = (F.map (l.roads j)).sum
  | [], _ => rfl
  | q :: F, h => by
    have ih := count_flat o j F fun s hs => h s (List.mem_cons_of_mem _ hs)
    rw [List.flatMap_cons, List.count_append, ih, List.map_cons, List.sum_cons]
    congr 1
    cases q with
    | none =>
      show (l.signs.map fun _ => (none : Option Nat)).count (some j) = 0
      exact List.count_eq_zero.mpr fun hm => by
        obtain ⟨c, _, e⟩ := List.mem_map.mp hm
        cases e
    | some s => rw [step_all o (h s (List.mem_cons_self ..))]; rfl
theorem on_some_lt {l : Lot} (o : l.Ok) {ts : List Cs} : ∀ s, some s ∈ ts.map (l.on (some 0)) → s < l.states.length := fun s hs => by
  obtain ⟨t, _, e⟩ := List.mem_map.mp hs
  exact Lot.on_lt o t 0 s o.ne e
theorem cnt_get {l : Lot} (o : l.Ok) : ∀ (n j : Nat), (l.cnt n).getD j 0 = ((((texts l.signs n).map (l.on (some 0))).count (some j) : Nat) : Int)
  | 0, j => by
    show (1 :: List.replicate (l.states.length - 1) 0 : List Int).getD j 0 = (([some 0].count (some j) : Nat) : Int)
    cases j with
    | zero => rfl
    | succ j =>
      rw [List.getD_eq_getElem?_getD, List.getElem?_cons_succ, List.getElem?_replicate]
      have e : [some 0].count (some (j + 1)) = 0 := by simp [List.count_cons]
      rw [e]
      split <;> rfl
  | n + 1, j => by
    have ih := cnt_get o n
    have z := sweep_get j (fun i => (l.cnt n).getD i 0) (l.cnt n) l.states (List.replicate l.states.length 0) 0 (Lot.cnt_len o n) (fun i => by rw [Nat.zero_add]) (fun s hs k hk => by rw [List.length_replicate]; exact o.there s hs k hk)
    show (sweep (l.cnt n) l.states (List.replicate l.states.length 0)).getD j 0 = _
    have e0 : (List.replicate l.states.length (0 : Int)).getD j 0 = 0 := by
      rw [List.getD_eq_getElem?_getD, List.getElem?_replicate]
      split <;> rfl
    rw [z, e0, Int.zero_add, show (fun i => (l.cnt n).getD i 0) = fun i => ((((texts l.signs n).map (l.on (some 0))).count (some i) : Nat) : Int) from funext ih, flow_list j _ (on_some_lt o)]
    show _ = ((((longer l.signs (texts l.signs n)).map (l.on (some 0))).count (some j) : Nat) : Int)
    rw [on_longer, count_flat o j _ (on_some_lt o)]
/-- the good ones -/
def goods (c : Nat → Int) : List LSt → Nat → Int
  | [], _ => 0
  | s :: ss, k => (if s.good then c k else 0) + goods c ss (k + 1)
theorem total_sum (c : Nat → Int) : ∀ (cs : List Int) (ss : List LSt) (k : Nat), cs.length = ss.length → (∀ i, cs.getD i 0 = c (k + i)) → (total cs ss).sum = goods c ss k
  | [], [], _, _, _ => rfl
  | [], _ :: _, _, h, _ => by simp at h
  | _ :: _, [], _, h, _ => by simp at h
  | x :: cs, s :: ss, k, h, hc => by
    have ih := total_sum c cs ss (k + 1) (by simpa using h) (fun i => by have := hc (i + 1); rw [show k + 1 + i = k + (i + 1) by omega, ← this]; rfl)
    have e0 : x = c k := hc 0
    show (if s.good then x :: total cs ss else total cs ss).sum = (if s.good then c k else 0) + goods c ss (k + 1)
    cases s.good
    · rw [if_neg Bool.false_ne_true, if_neg Bool.false_ne_true, ih, Int.zero_add]
    · rw [if_pos rfl, if_pos rfl, List.sum_cons, ih, e0]
theorem goods_zero : ∀ (ss : List LSt) (k : Nat), goods (fun _ => 0) ss k = 0
  | [], _ => rfl
  | s :: ss, k => by
    show (if s.good then (0 : Int) else 0) + goods (fun _ => 0) ss (k + 1) = 0
    rw [goods_zero ss (k + 1)]
    cases s.good <;> rfl
theorem goods_one (c : Nat → Int) (m : Nat) : ∀ (ss : List LSt) (k : Nat), goods (fun i => c i + if m = i then 1 else 0) ss k = goods c ss k + if k ≤ m ∧ ((ss[m - k]?).map LSt.good).getD false = true then 1 else 0
  | [], k => by
    show (0 : Int) = 0 + _
    rw [if_neg (by simp)]
    rfl
  | s :: ss, k => by
    have ih := goods_one c m ss (k + 1)
    show (if s.good then c k + (if m = k then 1 else 0) else 0) + goods _ ss (k + 1) = (if s.good then c k else 0) + goods c ss (k + 1) + _
    rw [ih]
    rcases Nat.lt_trichotomy m k with h | h | h
    · rw [if_neg (show ¬ m = k by omega), if_neg (show ¬ (k + 1 ≤ m ∧ _) from fun z => by omega), if_neg (show ¬ (k ≤ m ∧ _) from fun z => by omega), Int.add_zero, Int.add_zero, Int.add_zero]
    · subst h
      rw [if_pos rfl, if_neg (show ¬ (m + 1 ≤ m ∧ _) from fun z => by omega), Nat.sub_self]
      show _ = _ + if m ≤ m ∧ s.good = true then (1 : Int) else 0
      cases s.good
      · simp
      · simp
        omega
    · rw [if_neg (show ¬ m = k by omega), show m - k = (m - (k + 1)) + 1 by omega, List.getElem?_cons_succ, Int.add_zero]
      have p1 : k + 1 ≤ m := by omega
      have p2 : k ≤ m := by omega
      simp only [p1, p2, true_and]
      omega
def Lot.fine (l : Lot) : Option Nat → Bool
  | none => false
  | some s => (l.sta s).good
theorem goods_list {l : Lot} : ∀ F : List (Option Nat), (∀ s, some s ∈ F → s < l.states.length) → goods (fun i => ((F.count (some i) : Nat) : Int)) l.states 0 = ((F.countP l.fine : Nat) : Int)
  | [], _ => goods_zero l.states 0
  | none :: F, h => by
    have ih := goods_list F fun s hs => h s (List.mem_cons_of_mem _ hs)
    have e : (fun i => (((none :: F).count (some i) : Nat) : Int)) = fun i => ((F.count (some i) : Nat) : Int) := funext fun i => by rw [List.count_cons]; simp
    rw [e, ih, List.countP_cons]
    rfl
  | some m :: F, h => by
    have ih := goods_list F fun s hs => h s (List.mem_cons_of_mem _ hs)
    have hm := h m (List.mem_cons_self ..)
    have e : (fun i => (((some m :: F).count (some i) : Nat) : Int)) = fun i => ((F.count (some i) : Nat) : Int) + if m = i then 1 else 0 := funext fun i => by
      rw [List.count_cons]
      by_cases q : m = i
      · subst q
        simp
      · have ne : (some m == some i) = false := by simpa using q
        rw [ne, if_neg q]
        simp
    rw [e, goods_one, ih, List.countP_cons, Nat.sub_zero, Lot.sta_at hm]
    show _ + (if 0 ≤ m ∧ (l.sta m).good = true then (1 : Int) else 0) = ((F.countP l.fine + if (l.sta m).good = true then 1 else 0 : Nat) : Int)
    cases (l.sta m).good
    · rw [if_neg (fun z => Bool.false_ne_true z.2), if_neg Bool.false_ne_true]
      rfl
    · rw [if_pos ⟨Nat.zero_le m, rfl⟩, if_pos rfl]
      rfl
/-- as many as all texts that are words -/
theorem many_words {l : Lot} (o : l.Ok) (n : Nat) : l.many n = (((texts l.signs n).filter l.word).length : Nat) := by
  unfold Lot.many
  rw [total_sum (fun i => (l.cnt n).getD i 0) (l.cnt n) l.states 0 (Lot.cnt_len o n) (fun i => by rw [Nat.zero_add]), show (fun i => (l.cnt n).getD i 0) = fun i => ((((texts l.signs n).map (l.on (some 0))).count (some i) : Nat) : Int) from funext (cnt_get o n), goods_list _ (on_some_lt o), List.countP_map, ← List.countP_eq_length_filter]
  congr 2
section
variable {X : Cx}
def rRepN : R2 := fun x y H Q => ∃ (l : Addr) (k : Nat) (xs : List V), x = .ref l ∧ y = .int (k : Int) ∧ H l = some (.lst xs) ∧ k ≤ 50000 ∧ xs.length * k ≤ 50000 ∧ New (.lst (List.replicate k xs).flatten) H Q
def rMulN : R2 := fun x y H Q => rI CMul (fun i j => .int (i * j)) x y H Q ∨ rRepN x y H Q
theorem op_mulN : OpR X (binaryOp .Mult) rMulN := op_mul.or (OpR_imp op_rep fun x y H Q h => by
  obtain ⟨l, k, xs, rfl, rfl, e, small, fits, q⟩ := h
  refine ⟨l, (k : Int), xs, rfl, rfl, e, by omega, by omega, ?_, ?_⟩
  · rw [Int.toNat_natCast, sizeLine_eq]
    omega
  · rw [Int.toNat_natCast]
    exact q.at)
theorem ints_rep (x : Int) : ∀ m : Nat, (List.replicate m [V.int x]).flatten = (List.replicate m x).map V.int
  | 0 => rfl
  | m + 1 => by
    rw [List.replicate_succ, List.flatten_cons, ints_rep x m]
    rfl
def rGetN : V → V → Hp → VK → Prop := fun o i H Q => ∃ (p : Addr) (xs : List V) (j : Nat) (x : V), o = .ref p ∧ i = .int (j : Int) ∧ H p = some (.lst xs) ∧ xs[j]? = some x ∧ Q x H
theorem get_listN : PGet X rGetN := by
  rintro pins s σ H _ _ ov iv Q I ro ri ⟨p, xs, j, x, rfl, rfl, hp, hx, q⟩
  cases ro
  obtain ⟨t, rfl⟩ := ri
  obtain ⟨us, r, here, small⟩ := I.list (SqL.of (K := X.K) hp)
  obtain ⟨u, hu, ru⟩ := r.get hx
  have lt := (List.getElem?_eq_some_iff.mp hx).1
  rw [sizeLine_eq] at small
  refine wpAny_getItem_list here.isList (Int.natCast_nonneg j) ?_ (x := u) (by simpa using hu) ⟨x, H, I, ru, q⟩
  omega
theorem kSum (K : PySem.W.Frag) (e : X.K = K) (calm : X.calm = true) : CallR X (.builtin "sum") (rSum K) := e ▸ cr_sum calm
end
end Fo

namespace Kx
open PySem PySem.Spec PyProof.Rows L2 Fo
def topS (i : Nat) : Stmt := PySem.Challenge.pw_foeholes_k11_words_of_lots_counted.main.body.getD i (.Pass ⟨0, 0, 0, 0⟩)
abbrev s_lot_on : Stmt := topS 1
theorem sc_lot_on : FnScope ["lot", "text", "state", "signs", "states", "at", "sign"] ["lot", "text", "state"] (defScope s_lot_on) :=
  ⟨rfl, rfl, rfl, by decide +kernel, rfl, by decide +kernel, by decide +kernel⟩
abbrev s_is_word : Stmt := topS 2
theorem sc_is_word : FnScope ["lot", "text", "state"] ["lot", "text"] (defScope s_is_word) :=
  ⟨rfl, rfl, rfl, by decide +kernel, rfl, by decide +kernel, by decide +kernel⟩
abbrev s_how_many : Stmt := topS 3
theorem sc_how_many : FnScope ["lot", "length", "states", "texts", "_", "longer", "many", "ways", "good", "way"] ["lot", "length"] (defScope s_how_many) :=
  ⟨rfl, rfl, rfl, by decide +kernel, rfl, by decide +kernel, by decide +kernel⟩
abbrev s__law_open : Stmt := topS 5
theorem sc__law_open : FnScope ["script", "cells", "k", "cell"] ["script"] (defScope s__law_open) :=
  ⟨rfl, rfl, rfl, by decide +kernel, rfl, by decide +kernel, by decide +kernel⟩
abbrev s__law_spread : Stmt := topS 6
theorem sc__law_spread : FnScope ["cell", "at", "primes", "one", "two", "three"] ["cell", "at"] (defScope s__law_spread) :=
  ⟨rfl, rfl, rfl, by decide +kernel, rfl, by decide +kernel, by decide +kernel⟩
abbrev s__law_take : Stmt := topS 7
theorem sc__law_take : FnScope ["pen", "amount", "at", "cell", "found"] ["pen", "amount"] (defScope s__law_take) :=
  ⟨rfl, rfl, rfl, by decide +kernel, rfl, by decide +kernel, by decide +kernel⟩
abbrev s__law_some_signs : Stmt := topS 8
theorem sc__law_some_signs : FnScope ["pen", "amount", "pool", "left", "k"] ["pen", "amount"] (defScope s__law_some_signs) :=
  ⟨rfl, rfl, rfl, by decide +kernel, rfl, by decide +kernel, by decide +kernel⟩
abbrev s__law_some_text : Stmt := topS 9
theorem sc__law_some_text : FnScope ["pen", "signs", "most", "k"] ["pen", "signs", "most"] (defScope s__law_some_text) :=
  ⟨rfl, rfl, rfl, by decide +kernel, rfl, by decide +kernel, by decide +kernel⟩
abbrev s__law_same : Stmt := topS 10
theorem sc__law_same : FnScope ["found", "due", "one", "other"] ["found", "due"] (defScope s__law_same) :=
  ⟨rfl, rfl, rfl, by decide +kernel, rfl, by decide +kernel, by decide +kernel⟩
abbrev s__law_wide_lot : Stmt := topS 11
theorem sc__law_wide_lot : FnScope ["pen", "signs", "size", "many", "sort", "states", "k", "ways", "sign", "there"] ["pen", "signs", "size"] (defScope s__law_wide_lot) :=
  ⟨rfl, rfl, rfl, by decide +kernel, rfl, by decide +kernel, by decide +kernel⟩
abbrev s__law_lot_on : Stmt := topS 12
theorem sc__law_lot_on : FnScope ["lot", "text", "state", "sign"] ["lot", "text"] (defScope s__law_lot_on) :=
  ⟨rfl, rfl, rfl, by decide +kernel, rfl, by decide +kernel, by decide +kernel⟩
abbrev s__law_longer : Stmt := topS 13
theorem sc__law_longer : FnScope ["texts", "signs", "found", "text", "sign"] ["texts", "signs"] (defScope s__law_longer) :=
  ⟨rfl, rfl, rfl, by decide +kernel, rfl, by decide +kernel, by decide +kernel⟩
abbrev s__law_due : Stmt := topS 14
theorem sc__law_due : FnScope ["lot", "text", "state"] ["lot", "text"] (defScope s__law_due) :=
  ⟨rfl, rfl, rfl, by decide +kernel, rfl, by decide +kernel, by decide +kernel⟩
abbrev s__law_counted : Stmt := topS 15
theorem sc__law_counted : FnScope ["lot", "length", "counts", "turn", "after", "k", "state", "way"] ["lot", "length"] (defScope s__law_counted) :=
  ⟨rfl, rfl, rfl, by decide +kernel, rfl, by decide +kernel, by decide +kernel⟩
abbrev s__law_walked : Stmt := topS 16
theorem sc__law_walked : FnScope ["pen", "lot", "state", "text", "turn", "k", "some"] ["pen", "lot"] (defScope s__law_walked) :=
  ⟨rfl, rfl, rfl, by decide +kernel, rfl, by decide +kernel, by decide +kernel⟩
abbrev s__law_texts_right : Stmt := topS 17
theorem sc__law_texts_right : FnScope ["pen", "lot", "look", "text", "at", "again"] ["pen", "lot"] (defScope s__law_texts_right) :=
  ⟨rfl, rfl, rfl, by decide +kernel, rfl, by decide +kernel, by decide +kernel⟩
abbrev s_law : Stmt := topS 18
theorem sc_law : FnScope ["script", "pen", "turn", "lot", "kept", "length", "last", "text"] ["script"] (defScope s_law) :=
  ⟨rfl, rfl, rfl, by decide +kernel, rfl, by decide +kernel, by decide +kernel⟩
structure Top (K : PySem.W.Frag) (mg : Str → Option Value) where
  f_lot_on : Addr
  fd_lot_on : FuncData
  F_lot_on : FunD K "lot_on" "lot_on" (defArgs s_lot_on) (defBody s_lot_on) (defScope s_lot_on) [] [("state", .int 0)] f_lot_on fd_lot_on
  ds_lot_on : List Value
  v_lot_on : Vals [V.int 0] ds_lot_on
  b_lot_on : Binds K fd_lot_on ["lot", "text", "state"] ds_lot_on
  kb_lot_on : KBn K fd_lot_on ["lot", "text", "state"] 2 ["state"] (fun us ws => us ++ ws) (fun vs zs => vs ++ zs)
  g_lot_on : mg "lot_on" = some (.ref f_lot_on)
  f_is_word : Addr
  fd_is_word : FuncData
  F_is_word : Fun K "is_word" "is_word" s_is_word f_is_word fd_is_word
  b_is_word : Binds K fd_is_word ["lot", "text"] []
  g_is_word : mg "is_word" = some (.ref f_is_word)
  f_how_many : Addr
  fd_how_many : FuncData
  F_how_many : Fun K "how_many" "how_many" s_how_many f_how_many fd_how_many
  b_how_many : Binds K fd_how_many ["lot", "length"] []
  g_how_many : mg "how_many" = some (.ref f_how_many)
  f__law_open : Addr
  fd__law_open : FuncData
  F__law_open : Fun K "_law_open" "_law_open" s__law_open f__law_open fd__law_open
  b__law_open : Binds K fd__law_open ["script"] []
  g__law_open : mg "_law_open" = some (.ref f__law_open)
  f__law_spread : Addr
  fd__law_spread : FuncData
  F__law_spread : Fun K "_law_spread" "_law_spread" s__law_spread f__law_spread fd__law_spread
  b__law_spread : Binds K fd__law_spread ["cell", "at"] []
  g__law_spread : mg "_law_spread" = some (.ref f__law_spread)
  f__law_take : Addr
  fd__law_take : FuncData
  F__law_take : Fun K "_law_take" "_law_take" s__law_take f__law_take fd__law_take
  b__law_take : Binds K fd__law_take ["pen", "amount"] []
  g__law_take : mg "_law_take" = some (.ref f__law_take)
  f__law_some_signs : Addr
  fd__law_some_signs : FuncData
  F__law_some_signs : Fun K "_law_some_signs" "_law_some_signs" s__law_some_signs f__law_some_signs fd__law_some_signs
  b__law_some_signs : Binds K fd__law_some_signs ["pen", "amount"] []
  g__law_some_signs : mg "_law_some_signs" = some (.ref f__law_some_signs)
  f__law_some_text : Addr
  fd__law_some_text : FuncData
  F__law_some_text : Fun K "_law_some_text" "_law_some_text" s__law_some_text f__law_some_text fd__law_some_text
  b__law_some_text : Binds K fd__law_some_text ["pen", "signs", "most"] []
  g__law_some_text : mg "_law_some_text" = some (.ref f__law_some_text)
  f__law_same : Addr
  fd__law_same : FuncData
  F__law_same : Fun K "_law_same" "_law_same" s__law_same f__law_same fd__law_same
  b__law_same : Binds K fd__law_same ["found", "due"] []
  g__law_same : mg "_law_same" = some (.ref f__law_same)
  f__law_wide_lot : Addr
  fd__law_wide_lot : FuncData
  F__law_wide_lot : Fun K "_law_wide_lot" "_law_wide_lot" s__law_wide_lot f__law_wide_lot fd__law_wide_lot
  b__law_wide_lot : Binds K fd__law_wide_lot ["pen", "signs", "size"] []
  g__law_wide_lot : mg "_law_wide_lot" = some (.ref f__law_wide_lot)
  f__law_lot_on : Addr
  fd__law_lot_on : FuncData
  F__law_lot_on : Fun K "_law_lot_on" "_law_lot_on" s__law_lot_on f__law_lot_on fd__law_lot_on
  b__law_lot_on : Binds K fd__law_lot_on ["lot", "text"] []
  g__law_lot_on : mg "_law_lot_on" = some (.ref f__law_lot_on)
  f__law_longer : Addr
  fd__law_longer : FuncData
  F__law_longer : Fun K "_law_longer" "_law_longer" s__law_longer f__law_longer fd__law_longer
  b__law_longer : Binds K fd__law_longer ["texts", "signs"] []
  g__law_longer : mg "_law_longer" = some (.ref f__law_longer)
  f__law_due : Addr
  fd__law_due : FuncData
  F__law_due : Fun K "_law_due" "_law_due" s__law_due f__law_due fd__law_due
  b__law_due : Binds K fd__law_due ["lot", "text"] []
  g__law_due : mg "_law_due" = some (.ref f__law_due)
  f__law_counted : Addr
  fd__law_counted : FuncData
  F__law_counted : Fun K "_law_counted" "_law_counted" s__law_counted f__law_counted fd__law_counted
  b__law_counted : Binds K fd__law_counted ["lot", "length"] []
  g__law_counted : mg "_law_counted" = some (.ref f__law_counted)
  f__law_walked : Addr
  fd__law_walked : FuncData
  F__law_walked : Fun K "_law_walked" "_law_walked" s__law_walked f__law_walked fd__law_walked
  b__law_walked : Binds K fd__law_walked ["pen", "lot"] []
  g__law_walked : mg "_law_walked" = some (.ref f__law_walked)
  f__law_texts_right : Addr
  fd__law_texts_right : FuncData
  F__law_texts_right : Fun K "_law_texts_right" "_law_texts_right" s__law_texts_right f__law_texts_right fd__law_texts_right
  b__law_texts_right : Binds K fd__law_texts_right ["pen", "lot"] []
  g__law_texts_right : mg "_law_texts_right" = some (.ref f__law_texts_right)
  f_law : Addr
  fd_law : FuncData
  F_law : Fun K "law" "law" s_law f_law fd_law
  b_law : Binds K fd_law ["script"] []
  g_law : mg "law" = some (.ref f_law)
  m_bool : mg "bool" = none
  m_enumerate : mg "enumerate" = none
  m_int : mg "int" = none
  m_isinstance : mg "isinstance" = none
  m_len : mg "len" = none
  m_list : mg "list" = none
  m_min : mg "min" = none
  m_range : mg "range" = none
  m_repr : mg "repr" = none
  m_sorted : mg "sorted" = none
  m_str : mg "str" = none
  m_sum : mg "sum" = none
  m_tuple : mg "tuple" = none
  m_zip : mg "zip" = none
end Kx

namespace Kx
open PySem PySem.Spec PyProof.Rows L2 Fo
section
variable {P : Program} {w : World} {K : PySem.W.Frag} {mg : Str → Option Value} {base : Heap}
def primes : List Int := [2147483629, 2147483587, 2147483579, 2147483563, 2147483549, 2147483543, 2147483497, 2147483489, 2147483477, 2147483423, 2147483399, 2147483353, 2147483323]
theorem primes_in : ∀ p ∈ primes, 0 < p ∧ p < 2147483648 := by decide
theorem prime_at {i : Int} : ∃ v : Int, atI (primes.map V.int) (i.fmod 13) = some (.int v) ∧ 0 < v ∧ v < 2147483648 := by
  have f := fmod_in (a := i) (b := 13) (by decide)
  obtain ⟨v, e, m⟩ := at_int (xs := primes) f.1 f.2
  exact ⟨v, e, primes_in v m⟩
theorem pow17 (k : Nat) : (10 : Int) ^ Int.toNat 17 + (k : Int) ≠ 0 := by
  have : (0 : Int) < 10 ^ Int.toNat 17 := by decide
  omega
def sp_spread (K : PySem.W.Frag) : Sp := fun vs H Q _ => ∃ (cell : Int) (k : Nat), vs = [.int cell, .int k] ∧ k ≤ 1048576 ∧ ∀ H' r, Same H H' → Q (.int r) H'
theorem ok_spread (T : Top K mg) : FnOk P w K mg base CX0 1 T.f__law_spread T.fd__law_spread ["cell", "at"] (sp_spread K) := by
  refine T.F__law_spread.ok sc__law_spread (fun vs H Q E h => ?_) (fun cdv A outer s H vs Q E hr h => ?_)
  · obtain ⟨a, ns, rfl, _⟩ := h
    rfl
  obtain ⟨cell, k, rfl, hk, q⟩ := h
  refine ⟨_, (pss_cons (ps_if (pt_cmpR op_geG (pv 0) (pe_op op_pow pe_int pe_int) (nomark _)) (pss_one (ps_ret (pv 0))) pss_nil)
    (pss_cons (ps_set (i := 2) sc__law_spread.nd rfl (Or.inl rfl) (pe_lstN (pa_cons pe_int (pa_cons pe_int (pa_cons pe_int (pa_cons pe_int (pa_cons pe_int (pa_cons pe_int (pa_cons pe_int (pa_cons pe_int pa_nil))))))))))
    (pss_cons (ps_set (i := 2) sc__law_spread.nd rfl (Or.inl rfl) (pe_op op_addG (pv 2) (pe_lstN (pa_cons pe_int (pa_cons pe_int (pa_cons pe_int (pa_cons pe_int (pa_cons pe_int pa_nil))))))))
    (pss_cons (ps_set (i := 3) sc__law_spread.nd rfl (Or.inl rfl) (pe_op op_modN (pe_op op_pow (pe_op op_addG (pe_op op_addG (pe_op op_mulG (pe_op op_modN (pv 0) pe_int) (pe_op op_addG (pe_op op_mulG pe_int (pv 1)) pe_int)) (pe_op op_mulG (pv 1) pe_int)) pe_int) pe_int) (pe_ix (kIx K rfl) (pv 2) (pe_op op_modN (pv 1) pe_int) (fun _ _ => rfl))))
    (pss_cons (ps_set (i := 4) sc__law_spread.nd rfl (Or.inl rfl) (pe_op op_modN (pe_op op_pow (pe_op op_addG (pe_op op_addG (pe_op op_mulG (pv 3) (pe_op op_addG (pv 1) pe_int)) (pe_op op_modN (pv 0) pe_int)) pe_int) pe_int) (pe_ix (kIx K rfl) (pv 2) (pe_op op_modN (pe_op op_addG (pv 1) pe_int) pe_int) (fun _ _ => rfl))))
    (pss_cons (ps_set (i := 5) sc__law_spread.nd rfl (Or.inl rfl) (pe_op op_modN (pe_op op_pow (pe_op op_addG (pe_op op_addG (pv 4) (pe_op op_modN (pv 3) pe_int)) (pv 1)) pe_int) (pe_ix (kIx K rfl) (pv 2) (pe_op op_modN (pe_op op_addG (pv 1) pe_int) pe_int) (fun _ _ => rfl))))
    (pss_one (ps_ret (pe_op op_addG (pe_op op_mulG (pe_op op_addG (pe_op op_mulG (pv 3) pe_int) (pv 4)) pe_int) (pv 5)))))))))), ?_⟩
  refine ⟨_, rfl, _, _, rfl, rfl, ⟨by decide, by decide, by decide⟩, _, _, rfl, rfl, _, rfl, ite2 (fun _ => ?_) (fun _ => ?_)⟩
  · exact ⟨_, rfl, q _ _ (Same.refl _)⟩
  refine ⟨by decide, fun l H1 nl s1 e1 => ?_⟩
  refine ⟨_, rfl, by decide, fun l2 H2 nl2 s2 e2 => ?_⟩
  refine Or.inr (Or.inr (Or.inl ⟨_, _, _, _, rfl, rfl, s2 _ _ e1, e2, by decide, fun l3 H3 nl3 s3 e3 => ?_⟩))
  have hl : H3 l3 = some (.lst (primes.map V.int)) := e3
  have c1 := fmod_in (a := cell) (b := 1000000007) (by decide)
  have c2 := fmod_in (a := cell) (b := 65537) (by decide)
  obtain ⟨p1, i1, a1, b1⟩ := prime_at (i := k)
  obtain ⟨p2, i2, a2, b2⟩ := prime_at (i := (k : Int) + 5)
  obtain ⟨p3, i3, a3, b3⟩ := prime_at (i := (k : Int) + 7)
  -- one
  refine ⟨_, rfl, ?_⟩; (first | refine ⟨_, _, rfl, rfl, (by omega), ?_⟩ | refine Or.inl ⟨_, _, rfl, rfl, (by omega), ?_⟩); refine ⟨_, rfl, ?_⟩; (first | refine ⟨_, _, rfl, rfl, (mulR (by omega)), ?_⟩ | refine Or.inl ⟨_, _, rfl, rfl, (mulR (by omega)), ?_⟩); (first | refine Or.inl ⟨_, _, rfl, rfl, ?_⟩ | refine ⟨_, _, rfl, rfl, ?_⟩)
  (first | refine ⟨_, _, rfl, rfl, (mulL (by omega)), ?_⟩ | refine Or.inl ⟨_, _, rfl, rfl, (mulL (by omega)), ?_⟩); refine ⟨_, rfl, ?_⟩; (first | refine ⟨_, _, rfl, rfl, (mulR (by decide)), ?_⟩ | refine Or.inl ⟨_, _, rfl, rfl, (mulR (by decide)), ?_⟩); (first | refine Or.inl ⟨_, _, rfl, rfl, ?_⟩ | refine ⟨_, _, rfl, rfl, ?_⟩); (first | refine Or.inl ⟨_, _, rfl, rfl, ?_⟩ | refine ⟨_, _, rfl, rfl, ?_⟩)
  have m1 := mul_in (a := cell.fmod 1000000007) (b := 2 * (k : Int) + 69069) (A := 1000000007) (B := 2200000) c1.1 c1.2 (by omega) (by omega)
  refine ⟨_, _, rfl, rfl, ⟨by decide, by decide, (by show Int.natAbs _ < _; omega)⟩, ?_⟩
  refine ⟨_, rfl, ?_⟩; refine ⟨_, rfl, ?_⟩; (first | refine ⟨_, _, rfl, rfl, (by omega), ?_⟩ | refine Or.inl ⟨_, _, rfl, rfl, (by omega), ?_⟩); refine Or.inl ⟨_, _, _, _, rfl, rfl, SqL.of hl, i1, ?_⟩
  refine modL rfl rfl a1 (fun one o0 o1 => ?_)
  -- two
  refine ⟨_, rfl, ?_⟩; refine ⟨_, rfl, ?_⟩; (first | refine Or.inl ⟨_, _, rfl, rfl, ?_⟩ | refine ⟨_, _, rfl, rfl, ?_⟩); (first | refine ⟨_, _, rfl, rfl, (mulL (by omega)), ?_⟩ | refine Or.inl ⟨_, _, rfl, rfl, (mulL (by omega)), ?_⟩); refine ⟨_, rfl, ?_⟩; (first | refine ⟨_, _, rfl, rfl, (by omega), ?_⟩ | refine Or.inl ⟨_, _, rfl, rfl, (by omega), ?_⟩); (first | refine Or.inl ⟨_, _, rfl, rfl, ?_⟩ | refine ⟨_, _, rfl, rfl, ?_⟩); (first | refine Or.inl ⟨_, _, rfl, rfl, ?_⟩ | refine ⟨_, _, rfl, rfl, ?_⟩)
  have m2 := mul_in (a := one) (b := (k : Int) + 3) (A := 2147483648) (B := 1048580) o0 (by omega) (by omega) (by omega)
  refine ⟨_, _, rfl, rfl, ⟨by decide, by decide, (by show Int.natAbs _ < _; omega)⟩, ?_⟩
  refine ⟨_, rfl, ?_⟩; refine ⟨_, rfl, ?_⟩; (first | refine Or.inl ⟨_, _, rfl, rfl, ?_⟩ | refine ⟨_, _, rfl, rfl, ?_⟩); (first | refine ⟨_, _, rfl, rfl, (by omega), ?_⟩ | refine Or.inl ⟨_, _, rfl, rfl, (by omega), ?_⟩); refine Or.inl ⟨_, _, _, _, rfl, rfl, SqL.of hl, i2, ?_⟩
  refine modL rfl rfl a2 (fun two t0 t1 => ?_)
  -- three
  have c3 := fmod_in (a := one) (b := 1009) (by decide)
  refine ⟨_, rfl, ?_⟩; refine ⟨_, rfl, ?_⟩; (first | refine ⟨_, _, rfl, rfl, (by omega), ?_⟩ | refine Or.inl ⟨_, _, rfl, rfl, (by omega), ?_⟩); (first | refine Or.inl ⟨_, _, rfl, rfl, ?_⟩ | refine ⟨_, _, rfl, rfl, ?_⟩); refine ⟨_, rfl, ?_⟩; (first | refine Or.inl ⟨_, _, rfl, rfl, ?_⟩ | refine ⟨_, _, rfl, rfl, ?_⟩)
  refine ⟨_, _, rfl, rfl, ⟨by decide, by decide, (by show Int.natAbs _ < _; omega)⟩, ?_⟩
  refine ⟨_, rfl, ?_⟩; refine ⟨_, rfl, ?_⟩; (first | refine Or.inl ⟨_, _, rfl, rfl, ?_⟩ | refine ⟨_, _, rfl, rfl, ?_⟩); (first | refine ⟨_, _, rfl, rfl, (by omega), ?_⟩ | refine Or.inl ⟨_, _, rfl, rfl, (by omega), ?_⟩); refine Or.inl ⟨_, _, _, _, rfl, rfl, SqL.of hl, i3, ?_⟩; refine modL rfl rfl a3 (fun r r0 r1 => ?_)
  -- the end
  refine ⟨_, rfl, ?_⟩; (first | refine ⟨_, _, rfl, rfl, (mulR (by decide)), ?_⟩ | refine Or.inl ⟨_, _, rfl, rfl, (mulR (by decide)), ?_⟩); refine ⟨_, rfl, ?_⟩; (first | refine Or.inl ⟨_, _, rfl, rfl, ?_⟩ | refine ⟨_, _, rfl, rfl, ?_⟩); (first | refine ⟨_, _, rfl, rfl, (mulR (by decide)), ?_⟩ | refine Or.inl ⟨_, _, rfl, rfl, (mulR (by decide)), ?_⟩); refine ⟨_, rfl, ?_⟩; (first | refine Or.inl ⟨_, _, rfl, rfl, ?_⟩ | refine ⟨_, _, rfl, rfl, ?_⟩)
  exact q _ _ ((s1.trans s2).trans s3)
def sp_take (K : PySem.W.Frag) : Sp := fun vs H Q _ => ∃ (p c : Addr) (n : Nat) (m : Int), vs = [.ref p, .int m] ∧ Pen H p c (n + 1) ∧ 0 < m ∧ m < 1000000 ∧ ∀ H' r, But p H H' → Pen H' p c n → 0 ≤ r → r < m → Q (.int r) H'
theorem ok_take (T : Top K mg) : FnOk P w K mg base CX0 2 T.f__law_take T.fd__law_take ["pen", "amount"] (sp_take K) := by
  have G__law_spread := ok_spread (P := P) (w := w) (base := base) T
  refine T.F__law_take.ok sc__law_take (fun vs H Q E h => ?_) (fun cdv A outer s H vs Q E hr h => ?_)
  · obtain ⟨a, c, ns, m, rfl, _⟩ := h
    rfl
  obtain ⟨p, c, n, m, rfl, hp, hm, hm2, q⟩ := h
  obtain ⟨cs, k, left, h1, h2, h3, h4, h5⟩ := hp
  refine ⟨_, (pss_cons (ps_if (pt_cmpR op_ltG (pe_ix (kIx K rfl) (pv 0) pe_int (fun _ _ => rfl)) (pv 1) (nomark _)) (pss_cons (ps_set (i := 2) sc__law_take.nd rfl (Or.inl rfl) (pe_ix (kIx K rfl) (pv 0) pe_int (fun _ _ => rfl)))
    (pss_cons (ps_set (i := 3) sc__law_take.nd rfl (Or.inl rfl) pe_int)
    (pss_cons (ps_if (pt_cmpR op_ltG (pv 2) (pe_callB (kLen K rfl) (by rfl) T.m_len PySem.boot_len (pa_cons (pe_ix (kIx K rfl) (pv 0) pe_int (fun _ _ => rfl)) pa_nil)) (nomark _)) (pss_one (ps_set (i := 3) sc__law_take.nd rfl (Or.inl rfl) (pe_ix (kIx K rfl) (pe_ix (kIx K rfl) (pv 0) pe_int (fun _ _ => rfl)) (pv 2) (fun _ _ => rfl)))) (pss_one (ps_if (pt_cmpR op_gtG (pe_callB (kLen K rfl) (by rfl) T.m_len PySem.boot_len (pa_cons (pe_ix (kIx K rfl) (pv 0) pe_int (fun _ _ => rfl)) pa_nil)) pe_int (nomark _)) (pss_one (ps_set (i := 3) sc__law_take.nd rfl (Or.inl rfl) (pe_op op_modN (pe_ix (kIx K rfl) (pe_ix (kIx K rfl) (pv 0) pe_int (fun _ _ => rfl)) (pe_op op_modN (pe_op op_addG (pe_op op_mulG (pv 2) pe_int) pe_int) (pe_callB (kLen K rfl) (by rfl) T.m_len PySem.boot_len (pa_cons (pe_ix (kIx K rfl) (pv 0) pe_int (fun _ _ => rfl)) pa_nil))) (fun _ _ => rfl)) (pe_op op_addG (pe_op op_pow pe_int pe_int) (pv 2))))) pss_nil)))
    (pss_cons (ps_asg (pe_op op_addG (pv 2) pe_int) (pg_sub (pv 0) pe_int set_listN))
    (pss_one (ps_asg (pe_call G__law_spread (hr.mono (by first | decide | omega)) (by rfl) T.g__law_spread T.F__law_spread.kp T.b__law_spread .nil pass0 (pa_cons (pv 3) (pa_cons (pv 2) pa_nil))) (pg_sub (pv 0) pe_int set_listN))))))) pss_nil)
    (pss_cons (ps_set (i := 4) sc__law_take.nd rfl (Or.inl rfl) (pe_op op_modN (pe_ix (kIx K rfl) (pv 0) pe_int (fun _ _ => rfl)) (pv 1)))
    (pss_cons (ps_asg (pe_op op_fdivN (pe_ix (kIx K rfl) (pv 0) pe_int (fun _ _ => rfl)) (pv 1)) (pg_sub (pv 0) pe_int set_listN))
    (pss_one (ps_ret (pv 4)))))), ?_⟩
  -- the end, from any state with pen[2] = left2
  have fin : ∀ (H2 : Hp) (k2 : Nat) (left2 : Int) (σ2 σ3 : Option V), But p H H2 → H2 p = some (.lst [.ref c, .int k2, .int left2]) → H2 c = some (.lst (cs.map V.int)) → k2 + n ≤ 1048576 →
      (tSeq (tAsg (tOp (rI (fun _ j => j ≠ 0) fun i j => .int (i.fmod j)) (tOp (rIx K) (tVar 0) (tC (.int 2))) (tVar 1)) (gName 4))
        (tSeq (tAsg (tOp (rI CDivN fun i j => .int (i.fdiv j)) (tOp (rIx K) (tVar 0) (tC (.int 2))) (tVar 1)) (gSub (tVar 0) (tC (.int 2)) rSetN)) (tRet (tVar 4))))
        { nx := fun _ H' => Q .non H', rt := Q } [some (.ref p), some (.int m), σ2, σ3, none] H2 := by
    intro H2 k2 left2 σ2 σ3 b2 e1 e2 hk2
    refine ⟨_, rfl, ?_⟩; refine Or.inl ⟨_, _, _, _, rfl, rfl, SqL.of e1, rfl, ?_⟩; refine ⟨_, rfl, ?_⟩; (first | refine ⟨_, _, rfl, rfl, (by omega), ?_⟩ | refine Or.inl ⟨_, _, rfl, rfl, (by omega), ?_⟩)
    have f := fmod_in (a := left2) hm
    refine ⟨_, rfl, ?_⟩; refine Or.inl ⟨_, _, _, _, rfl, rfl, SqL.of e1, rfl, ?_⟩; refine ⟨_, rfl, ?_⟩; (first | refine ⟨_, _, rfl, rfl, ⟨by omega, by omega⟩, ?_⟩ | refine Or.inl ⟨_, _, rfl, rfl, ⟨by omega, by omega⟩, ?_⟩)
    refine ⟨_, rfl, _, _, _, _, rfl, rfl, e1, rfl, fun H3 b3 e3 => ?_⟩
    refine ⟨_, rfl, ?_⟩
    exact q _ _ (b2.trans b3) ⟨cs, k2, _, e3, b3 _ _ h5 e2, h3, hk2, h5⟩ f.1 f.2
  refine ⟨_, rfl, ?_⟩; refine Or.inl ⟨_, _, _, _, rfl, rfl, SqL.of h1, rfl, ?_⟩; refine ⟨_, rfl, ?_⟩; (first | refine Or.inl ⟨_, _, rfl, rfl, ?_⟩ | refine ⟨_, _, rfl, rfl, ?_⟩); refine ⟨_, rfl, ?_⟩
  refine ite2 (fun _ => ?_) (fun _ => ?_)
  · refine ⟨_, rfl, ?_⟩; refine Or.inl ⟨_, _, _, _, rfl, rfl, SqL.of h1, rfl, ?_⟩; refine ⟨_, rfl, ?_⟩
    -- the cell: any int
    have cell : ∀ (z : Int) (D : Ends), (∀ (H' : Hp) (left2 : Int), But p H H' → H' p = some (.lst [.ref c, .int ((k + 1 : Nat) : Int), .int left2]) → H' c = some (.lst (cs.map V.int)) → D.nx [some (.ref p), some (.int m), some (.int k), some (.int z), none] H') →
      (tSeq (tAsg (tOp rAddG (tVar 2) (tC (.int 1))) (gSub (tVar 0) (tC (.int 1)) rSetN)) (tAsg (tCall (sp_spread K) [] E0 (tCons (tVar 3) (tCons (tVar 2) tNil))) (gSub (tVar 0) (tC (.int 2)) rSetN)))
        D [some (.ref p), some (.int m), some (.int k), some (.int z), none] H := by
      intro z D hD
      refine ⟨_, rfl, ?_⟩; (first | refine Or.inl ⟨_, _, rfl, rfl, ?_⟩ | refine ⟨_, _, rfl, rfl, ?_⟩)
      refine ⟨_, rfl, _, _, _, _, rfl, rfl, h1, rfl, fun H3 b3 e3 => ?_⟩
      refine ⟨_, rfl, ?_⟩; refine ⟨_, rfl, ?_⟩
      refine ⟨_, _, rfl, by omega, fun H4 r s4 => ?_⟩
      refine ⟨_, rfl, _, _, _, _, rfl, rfl, s4 _ _ e3, rfl, fun H5 b5 e5 => ?_⟩
      exact hD _ r ((b3.trans (same_but p s4)).trans b5) (by rw [e5]; rfl) (b5 _ _ h5 (s4 _ _ (b3 _ _ h5 h2)))
    have goon : ∀ (z : Int) (H' : Hp) (left2 : Int), But p H H' → H' p = some (.lst [.ref c, .int ((k + 1 : Nat) : Int), .int left2]) → H' c = some (.lst (cs.map V.int)) → _ := fun z H' l2 b e1 e2 => fin H' (k + 1) l2 (some (.int k)) (some (.int z)) b e1 e2 (by omega)
    refine ⟨_, rfl, ?_⟩; refine Or.inl ⟨_, _, _, _, rfl, rfl, SqL.of h1, rfl, ?_⟩
    refine ⟨_, _, rfl, .inl ⟨_, SqL.of h2, rfl⟩, ?_⟩
    (first | refine Or.inl ⟨_, _, rfl, rfl, ?_⟩ | refine ⟨_, _, rfl, rfl, ?_⟩); refine ⟨_, rfl, ?_⟩
    refine ite2 (fun t1 => ?_) (fun t1 => ?_)
    · have hk : k < cs.length := by
        have := of_decide_eq_true t1
        rw [List.length_map] at this
        omega
      obtain ⟨v, hv, _⟩ := at_int (xs := cs) (i := (k : Int)) (by omega) (by omega)
      refine ⟨_, rfl, ?_⟩; refine Or.inl ⟨_, _, _, _, rfl, rfl, SqL.of h1, rfl, ?_⟩; refine ⟨_, rfl, ?_⟩; refine Or.inl ⟨_, _, _, _, rfl, rfl, SqL.of h2, hv, ?_⟩
      exact cell v _ (goon v)
    · refine ⟨_, rfl, ?_⟩; refine Or.inl ⟨_, _, _, _, rfl, rfl, SqL.of h1, rfl, ?_⟩
      refine ⟨_, _, rfl, .inl ⟨_, SqL.of h2, rfl⟩, ?_⟩
      (first | refine Or.inl ⟨_, _, rfl, rfl, ?_⟩ | refine ⟨_, _, rfl, rfl, ?_⟩); refine ⟨_, rfl, ?_⟩
      refine ite2 (fun t2 => ?_) (fun t2 => ?_)
      · have hn : 0 < ((cs.map V.int).length : Int) := of_decide_eq_true t2
        refine ⟨_, rfl, ?_⟩; refine Or.inl ⟨_, _, _, _, rfl, rfl, SqL.of h1, rfl, ?_⟩; refine ⟨_, rfl, ?_⟩; (first | refine ⟨_, _, rfl, rfl, (mulR (by decide)), ?_⟩ | refine Or.inl ⟨_, _, rfl, rfl, (mulR (by decide)), ?_⟩); (first | refine Or.inl ⟨_, _, rfl, rfl, ?_⟩ | refine ⟨_, _, rfl, rfl, ?_⟩); refine ⟨_, rfl, ?_⟩; refine Or.inl ⟨_, _, _, _, rfl, rfl, SqL.of h1, rfl, ?_⟩
        refine ⟨_, _, rfl, .inl ⟨_, SqL.of h2, rfl⟩, ?_⟩
        refine modL rfl rfl hn (fun r r0 r1 => ?_)
        rw [List.length_map] at r1
        obtain ⟨v, hv, _⟩ := at_int (xs := cs) (i := r) (by omega) (by omega)
        refine Or.inl ⟨_, _, _, _, rfl, rfl, SqL.of h2, hv, ?_⟩
        refine ⟨_, _, rfl, rfl, ⟨by decide, by decide, (by decide)⟩, ?_⟩
        refine ⟨_, rfl, ?_⟩; (first | refine Or.inl ⟨_, _, rfl, rfl, ?_⟩ | refine ⟨_, _, rfl, rfl, ?_⟩)
        (first | refine ⟨_, _, rfl, rfl, (pow17 k), ?_⟩ | refine Or.inl ⟨_, _, rfl, rfl, (pow17 k), ?_⟩)
        exact cell _ _ (goon _)
      · exact cell 0 _ (goon 0)
  · exact fin H k left _ _ (But.refl _ _) h1 h2 (by omega)
def sp_open (K : PySem.W.Frag) : Sp := fun vs H Q _ => ∃ (a : Addr) (ns : List Int), vs = [.ref a] ∧ SqL K H a (ns.map V.int) ∧ ns.length ≤ 63 ∧ ∀ p c H', H p = none → Same H H' → Pen H' p c 1048576 → Q (.ref p) H'
theorem ok_open (T : Top K mg) : FnOk P w K mg base CX0 1 T.f__law_open T.fd__law_open ["script"] (sp_open K) := by
  refine T.F__law_open.ok sc__law_open (fun vs H Q E h => ?_) (fun cdv A outer s H vs Q E hr h => ?_)
  · obtain ⟨a, ns, rfl, _⟩ := h
    rfl
  obtain ⟨a, ns, rfl, hS, hlen, q⟩ := h
  refine ⟨_, (pss_cons (ps_set (i := 1) sc__law_open.nd rfl (Or.inl rfl) (pe_callTy (kList K rfl rfl) (by rfl) T.m_list (by decide +kernel) (pa_cons (pe_slice (kSl K rfl) (pv 0) po_none (po_some pe_int)) pa_nil)))
    (pss_cons (ps_for PassesOwn.never rfl (pi_enum (by rfl) T.m_enumerate (pa_cons (pe_slice (kSl K rfl) (pv 0) (po_some pe_int) (po_some pe_int)) pa_nil)) (kTg K rfl (n := 2) rfl (pgs_cons (pg_name (i := 2) sc__law_open.nd rfl (Or.inl rfl)) (pgs_cons (pg_name (i := 3) sc__law_open.nd rfl (Or.inl rfl)) pgs_nil))) (pss_one (ps_asg (pe_op op_addG (pe_ix (kIx K rfl) (pv 1) (pe_op op_modN (pv 2) pe_int) (fun _ _ => rfl)) (pv 3)) (pg_sub (pv 1) (pe_op op_modN (pv 2) pe_int) set_listN))))
    (pss_one (ps_ret (pe_lstN (pa_cons (pv 1) (pa_cons pe_int (pa_cons pe_int pa_nil)))))))), ?_⟩
  refine ⟨_, rfl, ?_⟩; refine ⟨_, rfl, ?_⟩
  refine Or.inl ⟨_, _, rfl, hS, fun l1 H1 n1 s1 e1 => ?_⟩
  refine Or.inl ⟨_, _, rfl, .inl (SqL.of e1), fun l2 H2 n2 s2 e2 => ?_⟩
  have s02 := s1.trans s2
  rw [show (12 : Int) = ((12 : Nat) : Int) from rfl, cut_hi, ← List.map_take] at e2
  refine ⟨_, rfl, ?_⟩; refine ⟨_, rfl, ?_⟩; refine ⟨_, rfl, ?_⟩
  refine Or.inl ⟨_, _, rfl, s02.seq hS, fun l3 H3 n3 s3 e3 => ?_⟩
  rw [show (12 : Int) = ((12 : Nat) : Int) from rfl, show (63 : Int) = ((63 : Nat) : Int) from rfl, cut_lohi, ← List.map_drop, ← List.map_take] at e3
  have n2' : H l2 = none := s1.free n2
  have n3' : H l3 = none := s02.free n3
  have l23 : l2 ≠ l3 := ne_of_none e2 n3
  generalize hrs : List.take (63 - 12) (List.drop 12 ns) = rs at e3
  have full : 0 < rs.length → (ns.take 12).length = 12 := fun h => by
    have z : rs.length ≤ (ns.drop 12).length := by
      rw [← hrs, List.length_take]
      omega
    rw [List.length_drop] at z
    rw [List.length_take]
    omega
  refine ⟨_, _, rfl, SqL.of e3, for_it (walkPair (walk_enum (xs := rs.map V.int))) (fun i σ H' => ∃ (cs : List Int) (kv cv : Option V), σ = [some (.ref a), some (.ref l2), kv, cv] ∧ Same H H' ∧ H' l3 = some (.lst (rs.map V.int)) ∧ H' l2 = some (.lst (cs.map V.int)) ∧ cs.length = (ns.take 12).length)
    ⟨_, none, none, rfl, s02.trans s3, e3, s3 _ _ e2, rfl⟩ (fun i σ H' _ p => ?_) (fun i x σ H4 H5 hi p y => ?_) (fun σ H' p => ?_)⟩
  · obtain ⟨cs, kv, cv, _, _, e, _, _⟩ := p
    exact SqL.of e
  · obtain ⟨cs, kv, cv, rfl, s4, e4, c4, hc⟩ := p
    obtain ⟨U, x1, x2, rfl, s5, eU, ex1, ex2⟩ := y
    cases ex1
    rw [List.length_map] at hi
    have h12 := full (by omega)
    obtain ⟨z, _, rfl⟩ := get_map (f := V.int) ex2
    have f := fmod_in (a := (i : Int)) (b := 12) (by decide)
    obtain ⟨v, hv, _⟩ := at_int (xs := cs) (i := (i : Int).fmod 12) f.1 (by omega)
    refine ⟨U, _, rfl, SqT.of eU, rfl, _, _, rfl, _, _, rfl, rfl, ?_⟩
    refine ⟨_, rfl, ?_⟩; refine ⟨_, rfl, ?_⟩; (first | refine ⟨_, _, rfl, rfl, (by omega), ?_⟩ | refine Or.inl ⟨_, _, rfl, rfl, (by omega), ?_⟩); refine Or.inl ⟨_, _, _, _, rfl, rfl, SqL.of (s5 _ _ c4), hv, ?_⟩; refine ⟨_, rfl, ?_⟩; (first | refine Or.inl ⟨_, _, rfl, rfl, ?_⟩ | refine ⟨_, _, rfl, rfl, ?_⟩)
    refine ⟨_, rfl, ?_⟩; refine ⟨_, rfl, ?_⟩; (first | refine ⟨_, _, rfl, rfl, (by omega), ?_⟩ | refine Or.inl ⟨_, _, rfl, rfl, (by omega), ?_⟩)
    refine ⟨_, _, _, _, rfl, rfl, s5 _ _ c4, ixN_of f.1 (by rw [List.length_map]; omega), fun H6 b6 e6 => ?_⟩
    refine ⟨_, _, _, rfl, fun b o e => ?_, b6 _ _ (Ne.symm l23) (s5 _ _ e4), by rw [e6, ← List.map_set], by rw [List.length_set]; exact hc⟩
    exact b6 _ _ (ne_of_none e n2') (s5 _ _ (s4 _ _ e))
  · obtain ⟨cs, kv, cv, rfl, s4, e4, c4, hc⟩ := p
    refine ⟨_, rfl, ?_⟩
    refine ⟨szS, fun p H5 n5 s5 e5 => ?_⟩
    refine q p l2 H5 (s4.free n5) (s4.trans s5) ⟨cs, 0, 0, e5, s5 _ _ c4, by rw [hc, List.length_take]; omega, by omega, ne_of_none c4 n5⟩
end
end Kx

namespace Kx
open PySem PySem.Spec PyProof.Rows L2 Fo
section
variable {P : Program} {w : World} {K : PySem.W.Frag} {mg : Str → Option Value} {base : Heap}
def sp_text (K : PySem.W.Frag) : Sp := fun vs H Q _ => ∃ (p c : Addr) (n : Nat) (g : Cs) (most : Nat), vs = [.ref p, .str (tx g), .int most] ∧ Pen H p c (n + most + 1) ∧ g ≠ [] ∧ g.length ≤ 1000 ∧ most ≤ 1000 ∧
  ∀ H' t, But p H H' → Pen H' p c n → t.length ≤ most → (∀ c ∈ t, c ∈ g) → Q (.str (tx t)) H'
theorem ok_text (T : Top K mg) : FnOk P w K mg base CX0 3 T.f__law_some_text T.fd__law_some_text ["pen", "signs", "most"] (sp_text K) := by
  have G__law_take := ok_take (P := P) (w := w) (base := base) T
  refine T.F__law_some_text.ok sc__law_some_text (fun vs H Q E h => ?_) (fun cdv A outer s H vs Q E hr h => ?_)
  · obtain ⟨p, c, n, g, m, rfl, _⟩ := h
    rfl
  obtain ⟨p, c, n, g, most, rfl, hp, g0, gl, hm, q⟩ := h
  refine ⟨_, (pss_one (ps_ret (kJoin K rfl pe_str (pe_lc (own := [("k", 3)]) (tt := tYes) rfl sc__law_some_text.nd (pi_range1 rfl T.m_range (pa_cons (pe_call G__law_take (hr.mono (by first | decide | omega)) (by rfl) T.g__law_take T.F__law_take.kp T.b__law_take .nil pass0 (pa_cons (pv 0) (pa_cons (pe_op op_addG (pv 2) pe_int) pa_nil))) pa_nil)) (blkOk_by (N := ["pen", "signs", "most", "k"]) (sc := defScope s__law_some_text) (by decide +kernel)) (fun _ _ _ _ _ => (pg_name (i := 3) sc__law_some_text.nd rfl (Or.inl rfl))) (fun _ _ _ _ _ => pts_nil) (fun _ _ _ _ _ => (pe_ix (kIx K rfl) (pv 1) (pe_call G__law_take (hr.mono (by first | decide | omega)) (by rfl) T.g__law_take T.F__law_take.kp T.b__law_take .nil pass0 (pa_cons (pv 0) (pa_cons (pe_callB (kLen K rfl) (by rfl) T.m_len PySem.boot_len (pa_cons (pv 1) pa_nil)) pa_nil))) (fun _ _ => rfl))))))), ?_⟩
  refine ⟨⟨_, rfl⟩, ?_⟩
  refine ⟨_, rfl, ?_⟩; refine ⟨_, rfl, ?_⟩; (first | refine Or.inl ⟨_, _, rfl, rfl, ?_⟩ | refine ⟨_, _, rfl, rfl, ?_⟩)
  refine ⟨p, c, n + most, (most : Int) + 1, rfl, hp, by omega, by omega, fun H1 m b1 p1 m0 m1 => ?_⟩
  refine ⟨m, rfl, by omega, by omega, fun D hD => ?_⟩
  have dn := p1.ne hD
  refine lcN0 walk_range hD (fun i acc H' => But p H H' ∧ Pen H' p c (n + most - i) ∧ ∃ t : Cs, t.length = i ∧ (∀ c ∈ t, c ∈ g) ∧ acc = sgs t) (fun H2 s2 e2 => ⟨b1.trans (same_but p s2), p1.same s2, [], rfl, (fun _ h => nomatch h), rfl⟩) (fun _ _ _ _ _ => trivial) (fun i x acc H2 H3 hi hl pv eD y => ?_) (fun acc H2 hl pv eD => ?_)
  · obtain ⟨b2, p2, t, tl, ts, rfl⟩ := pv
    obtain ⟨rfl, rfl⟩ := y
    refine ⟨rfl, ?_⟩
    refine ⟨_, rfl, ?_⟩; refine ⟨_, rfl, ?_⟩; refine ⟨_, rfl, ?_⟩
    refine ⟨_, _, rfl, ⟨by rw [tx_len, sizeLine_eq]; omega, rfl⟩, ?_⟩
    refine ⟨p, c, n + most - i - 1, ((tx g).length : Int), rfl, by rw [show n + most - i - 1 + 1 = n + most - i by omega]; exact p2, ?_, ?_, fun H4 r b4 p4 r0 r1 => ?_⟩
    · rw [tx_len]
      have := List.length_pos_iff.mpr g0
      omega
    · rw [tx_len]
      omega
    rw [tx_len] at r1
    obtain ⟨k, hk, mk⟩ := at_of (xs := (tx g).cps.toList) (i := r) r0 (by show r < ((TL.tl (tx g)).length : Int); exact r1)
    refine Or.inr (Or.inr ⟨_, _, _, rfl, rfl, (by rw [tx_len, sizeLine_eq]; omega), hk, ?_⟩)
    refine lcNext (b4 _ _ (Ne.symm dn.1) eD) hl (by omega) (fun H5 b5 e5 => ⟨(b2.trans b4).chg b1 hD b5, p4.chg dn b5 |>.less (by omega), t ++ [k], by rw [List.length_append, tl]; rfl, fun x hx => ?_, sgs_app t k⟩)
    rcases List.mem_append.mp hx with h | h
    · exact ts x h
    · rw [List.mem_singleton.mp h]
      exact mk
  · obtain ⟨b2, p2, t, tl, ts, rfl⟩ := pv
    rw [sgs_ones] at eD
    have ef := flat_ones t
    refine ⟨_, _, _, rfl, rfl, .inl (SqL.of eD), ?_, ?_⟩
    · rw [flat_len, ef, tl]
      show _ + _ * 0 ≤ _
      omega
    · rw [join_tx, ef]
      exact q _ _ b2 (p2.less (by omega)) (by omega) ts
end
end Kx

namespace Kx
open PySem PySem.Spec PyProof.Rows L2 Fo
section
variable {P : Program} {w : World} {K : PySem.W.Frag} {mg : Str → Option Value} {base : Heap}
def sp_signs (K : PySem.W.Frag) : Sp := fun vs H Q _ => ∃ (p c : Addr) (n m : Nat), vs = [.ref p, .int m] ∧ Pen H p c (n + m) ∧ m ≤ 60 ∧
  ∀ H' t, But p H H' → Pen H' p c n → Sgs t m → Q (.str (tx t)) H'
theorem ok_signs (T : Top K mg) : FnOk P w K mg base CX0 3 T.f__law_some_signs T.fd__law_some_signs ["pen", "amount"] (sp_signs K) := by
  have G__law_take := ok_take (P := P) (w := w) (base := base) T
  refine T.F__law_some_signs.ok sc__law_some_signs (fun vs H Q E h => ?_) (fun cdv A outer s H vs Q E hr h => ?_)
  · obtain ⟨p, c, n, m, rfl, _⟩ := h
    rfl
  obtain ⟨p, c, n, m, rfl, hp, hm, q⟩ := h
  refine ⟨_, (pss_cons (ps_set (i := 2) sc__law_some_signs.nd rfl (Or.inl rfl) pe_str)
    (pss_cons (ps_set (i := 3) sc__law_some_signs.nd rfl (Or.inr rfl) (pe_callTy (kList K rfl rfl) (by rfl) T.m_list (by decide +kernel) (pa_cons (pv 2) pa_nil)))
    (pss_one (ps_ret (kJoin K rfl pe_str (pe_callB (kSorted K rfl) (by rfl) T.m_sorted (by decide +kernel) (pa_cons (pe_lc (own := [("k", 4)]) (tt := tYes) rfl sc__law_some_signs.nd (pi_range1 rfl T.m_range (pa_cons (pv 1) pa_nil)) (blkOk_by (N := ["pen", "amount", "pool", "left", "k"]) (sc := defScope s__law_some_signs) (by decide +kernel)) (fun _ _ _ _ _ => (pg_name (i := 4) sc__law_some_signs.nd rfl (Or.inl rfl))) (fun _ _ _ _ _ => pts_nil) (fun _ _ _ _ _ => (kBm K rfl (pe_bm PySem.F.plainAttrs_list PySem.F.slot_list_pop PySem.F.type_list_pop mt_popN (pv 3) (pa_cons (pe_call G__law_take (hr.mono (by first | decide | omega)) (by rfl) T.g__law_take T.F__law_take.kp T.b__law_take .nil pass0 (pa_cons (pv 0) (pa_cons (pe_callB (kLen K rfl) (by rfl) T.m_len PySem.boot_len (pa_cons (pv 3) pa_nil)) pa_nil))) pa_nil))))) pa_nil))))))), ?_⟩
  refine ⟨_, rfl, ?_⟩
  refine Or.inr ⟨_, rfl, szS, fun l H1 n1 s1 e1 => ?_⟩
  have e1' : H1 l = some (.lst (sgs poolL)) := e1.trans (congrArg (fun l : Cs => some (HO.lst (sgs l))) (show _ = poolL by decide +kernel))
  have p1 := hp.same s1
  refine ⟨⟨_, rfl⟩, ?_⟩
  refine ⟨_, rfl, ?_⟩
  refine ⟨m, rfl, by omega, by omega, fun D hD => ?_⟩
  have dn := p1.ne hD
  have dl := hp.ne n1
  have lD : l ≠ D := ne_of_none e1 hD
  rw [show (m : Int).toNat = m by omega]
  refine lcN0 walk_range hD (fun i acc H' => But p H H' ∧ Pen H' p c (n + m - i) ∧ ∃ t rest : Cs, t.length = i ∧ (t ++ rest).Perm poolL ∧ acc = sgs t ∧ H' l = some (.lst (sgs rest)))
    (fun H2 s2 e2 => ⟨same_but p (s1.trans s2), p1.same s2, [], poolL, rfl, List.Perm.refl _, rfl, s2 _ _ e1'⟩) (fun _ _ _ _ _ => trivial) (fun i x acc H2 H3 hi hl pv eD y => ?_) (fun acc H2 hl pv eD => ?_)
  · obtain ⟨b2, p2, t, rest, tl, hperm, rfl, el⟩ := pv
    obtain ⟨rfl, rfl⟩ := y
    have hlen := hperm.length_eq
    rw [List.length_append, poolL_len] at hlen
    refine ⟨rfl, ?_⟩
    refine ⟨_, rfl, ?_⟩
    refine ⟨.inl ⟨rfl, _, SqL.of el⟩, ?_⟩
    refine ⟨_, rfl, ?_⟩; refine ⟨_, rfl, ?_⟩
    refine ⟨_, _, rfl, .inl ⟨_, SqL.of el, rfl⟩, ?_⟩
    have hsl : (sgs rest).length = rest.length := by unfold sgs; rw [List.length_map]
    refine ⟨p, c, n + m - i - 1, ((sgs rest).length : Int), rfl, by rw [show n + m - i - 1 + 1 = n + m - i by omega]; exact p2, by omega, by omega, fun H4 r b4 p4 r0 r1 => ?_⟩
    rw [hsl] at r1
    have e4l := b4 _ _ (Ne.symm dl.1) el
    have e4D := b4 _ _ (Ne.symm dn.1) eD
    have hk : r.toNat < rest.length := by omega
    have hg : rest[r.toNat]? = some (rest[r.toNat]'hk) := List.getElem?_eq_getElem hk
    generalize rest[r.toNat]'hk = k at hg
    refine ⟨l, _, r, r.toNat, .str ⟨#[k]⟩, rfl, rfl, e4l, by omega, by omega, (ixN_seq (ixN_of r0 (by omega))).1, by unfold sgs; rw [List.getElem?_map, hg]; rfl, fun H5 b5 e5 => ?_⟩
    refine lcNext (b5 _ _ (Ne.symm lD) e4D) hl (by omega) (fun H6 b6 e6 => ⟨?_, ?_, t ++ [k], rest.eraseIdx r.toNat, by rw [List.length_append, tl]; rfl, ?_, sgs_app t k, ?_⟩)
    · exact But.chg (But.chg (b2.trans b4) (But.refl p H) n1 b5) (same_but p s1) hD b6
    · exact ((p4.chg dl b5).chg dn b6).less (by omega)
    · rw [List.append_assoc]
      exact (List.Perm.append_left t (erase_perm hg)).trans hperm
    · rw [b6 _ _ lD e5]
      unfold sgs
      rw [erase_map]
  · obtain ⟨b2, p2, t, rest, tl, hperm, rfl, el⟩ := pv
    have hsg : sgs t = (t.map one).map V.str := by
      unfold sgs
      rw [List.map_map]
      rfl
    rw [hsg] at eD
    refine ⟨_, t.map one, rfl, SqL.of eD, by rw [List.length_map]; omega, fun ys hy hs q2 H3 n3 s3 e3 => ?_⟩
    obtain ⟨u, rfl, hu⟩ := one_of hy
    have S := sgs_of hperm tl hu hs
    have eu : u.map one = (u.map fun c => [c]).map tx := by
      rw [List.map_map]
      rfl
    rw [eu] at e3
    refine ⟨_, _, _, rfl, rfl, .inl (SqL.of e3), ?_, ?_⟩
    · rw [flat_len, flat_ones, S.len]
      show _ + _ * 0 ≤ _
      omega
    · rw [join_tx, flat_ones]
      exact q _ _ (b2.trans (same_but p s3)) ((p2.same s3).less (by omega)) S
end
end Kx

namespace Kx
open PySem PySem.Spec PyProof.Rows L2 Fo
section
variable {P : Program} {w : World} {K : PySem.W.Frag} {mg : Str → Option Value} {base : Heap}
def sp_same (n : Nat) : Sp := fun vs H Q _ => ∃ (x y : V) (d : PyData), vs = [x, y] ∧ Lv H x d ∧ Lv H y d ∧ SD n d ∧ ∀ H', Same H H' → Q (.bl true) H'
theorem ok_same_s {n : Nat} (T : Top K mg) (G__law_same : FnOk P w K mg base CX0 n T.f__law_same T.fd__law_same ["found", "due"] (sp_same n)) : FnOk P w K mg base CX0 (n + 1) T.f__law_same T.fd__law_same ["found", "due"] (sp_same (n + 1)) := by
  refine T.F__law_same.ok sc__law_same (fun vs H Q E h => ?_) (fun cdv A outer s H vs Q E hr h => ?_)
  · obtain ⟨x, y, d, rfl, _⟩ := h
    rfl
  obtain ⟨x, y, d, rfl, hx, hy, hd, q⟩ := h
  refine ⟨_, (pss_cons (ps_if (PW.pt (pw_or (pt_cmpR op_isN (pv 1) pe_non (nomark _)) (pw_or1 (pt_cmpR op_isN (pv 0) pe_non (nomark _))))) (pss_one (ps_ret (pe_and (pe_cmpR op_isN (pv 1) pe_non (nomark _)) (pe_one (pe_cmpR op_isN (pv 0) pe_non (nomark _)))))) pss_nil)
    (pss_cons (ps_if (PW.pt (pw_or (pt_val (pe_callB (kIsi K rfl) (by rfl) T.m_isinstance (by decide +kernel) (pa_cons (pv 1) (pa_cons (pe_bltn (v := .ty "bool") (by rfl) T.m_bool (by decide +kernel) rfl) pa_nil)))) (pw_or1 (pt_val (pe_callB (kIsi K rfl) (by rfl) T.m_isinstance (by decide +kernel) (pa_cons (pv 0) (pa_cons (pe_bltn (v := .ty "bool") (by rfl) T.m_bool (by decide +kernel) rfl) pa_nil))))))) (pss_one (ps_ret (pe_and (pe_callB (kIsi K rfl) (by rfl) T.m_isinstance (by decide +kernel) (pa_cons (pv 1) (pa_cons (pe_bltn (v := .ty "bool") (by rfl) T.m_bool (by decide +kernel) rfl) pa_nil))) (pe_and (pe_callB (kIsi K rfl) (by rfl) T.m_isinstance (by decide +kernel) (pa_cons (pv 0) (pa_cons (pe_bltn (v := .ty "bool") (by rfl) T.m_bool (by decide +kernel) rfl) pa_nil))) (pe_one (pe_cmpR (kEq K rfl hr.units) (pv 0) (pv 1) (nomark _))))))) pss_nil)
    (pss_cons (ps_if (pt_val (pe_callB (kIsi K rfl) (by rfl) T.m_isinstance (by decide +kernel) (pa_cons (pv 1) (pa_cons (pe_tupN (pa_cons (pe_bltn (v := .ty "int") (by rfl) T.m_int (by decide +kernel) rfl) (pa_cons (pe_bltn (v := .ty "str") (by rfl) T.m_str (by decide +kernel) rfl) pa_nil))) pa_nil)))) (pss_cons (ps_if (pt_cmpR (kNe K rfl hr.units) (pe_callB (kIsi K rfl) (by rfl) T.m_isinstance (by decide +kernel) (pa_cons (pv 0) (pa_cons (pe_bltn (v := .ty "int") (by rfl) T.m_int (by decide +kernel) rfl) pa_nil))) (pe_callB (kIsi K rfl) (by rfl) T.m_isinstance (by decide +kernel) (pa_cons (pv 1) (pa_cons (pe_bltn (v := .ty "int") (by rfl) T.m_int (by decide +kernel) rfl) pa_nil))) (nomark _)) (pss_one (ps_ret pe_bl)) pss_nil)
    (pss_one (ps_ret (pe_and (pe_callB (kIsi K rfl) (by rfl) T.m_isinstance (by decide +kernel) (pa_cons (pv 0) (pa_cons (pe_tupN (pa_cons (pe_bltn (v := .ty "int") (by rfl) T.m_int (by decide +kernel) rfl) (pa_cons (pe_bltn (v := .ty "str") (by rfl) T.m_str (by decide +kernel) rfl) pa_nil))) pa_nil))) (pe_one (pe_cmpR (kEq K rfl hr.units) (pv 0) (pv 1) (nomark _))))))) pss_nil)
    (pss_cons (ps_if (PW.pt (pw_or (pt_cmpR (kNe K rfl hr.units) (pe_callB (kIsi K rfl) (by rfl) T.m_isinstance (by decide +kernel) (pa_cons (pv 1) (pa_cons (pe_bltn (v := .ty "tuple") (by rfl) T.m_tuple (by decide +kernel) rfl) pa_nil))) (pe_callB (kIsi K rfl) (by rfl) T.m_isinstance (by decide +kernel) (pa_cons (pv 0) (pa_cons (pe_bltn (v := .ty "tuple") (by rfl) T.m_tuple (by decide +kernel) rfl) pa_nil))) (nomark _)) (pw_or1 (pt_cmpR (kNe K rfl hr.units) (pe_callB (kIsi K rfl) (by rfl) T.m_isinstance (by decide +kernel) (pa_cons (pv 1) (pa_cons (pe_bltn (v := .ty "list") (by rfl) T.m_list (by decide +kernel) rfl) pa_nil))) (pe_callB (kIsi K rfl) (by rfl) T.m_isinstance (by decide +kernel) (pa_cons (pv 0) (pa_cons (pe_bltn (v := .ty "list") (by rfl) T.m_list (by decide +kernel) rfl) pa_nil))) (nomark _))))) (pss_one (ps_ret pe_bl)) pss_nil)
    (pss_cons (ps_if (pt_cmpR (kNe K rfl hr.units) (pe_callB (kLen K rfl) (by rfl) T.m_len PySem.boot_len (pa_cons (pv 0) pa_nil)) (pe_callB (kLen K rfl) (by rfl) T.m_len PySem.boot_len (pa_cons (pv 1) pa_nil)) (nomark _)) (pss_one (ps_ret pe_bl)) pss_nil)
    (pss_one (ps_ret (pe_cmpR (kNin K rfl) pe_bl (pe_lc (own := [("one", 2), ("other", 3)]) (tt := tYes) rfl sc__law_same.nd (RZ.pi_zipA (by rfl) T.m_zip (pa_cons (pv 0) (pa_cons (pv 1) pa_nil))) (blkOk_by (N := ["found", "due", "one", "other"]) (sc := defScope s__law_same) (by decide +kernel)) (fun _ _ _ _ _ => (kTg K rfl (n := 2) rfl (pgs_cons (pg_name (i := 2) sc__law_same.nd rfl (Or.inl rfl)) (pgs_cons (pg_name (i := 3) sc__law_same.nd rfl (Or.inl rfl)) pgs_nil)))) (fun _ _ _ _ _ => pts_nil) (fun _ _ _ _ _ => (pe_call G__law_same (hr.mono (by first | decide | omega)) (by rfl) T.g__law_same T.F__law_same.kp T.b__law_same .nil pass0 (pa_cons (pv 2) (pa_cons (pv 3) pa_nil))))) rfl)))))))), ?_⟩
  cases d with
  | none =>
    cases hx; cases hy
    refine ⟨_, rfl, rfl, _, rfl, ?_⟩; refine iteT ?_
    refine ⟨_, rfl, rfl, _, rfl, iteT ⟨_, rfl, rfl, ?_⟩⟩
    exact q _ (Same.refl _)
  | bool b =>
    cases hx; cases hy
    refine ⟨_, rfl, rfl, _, rfl, ?_⟩; refine iteF ?_; refine ⟨_, rfl, rfl, _, rfl, ?_⟩; refine iteF ?_
    refine ⟨_, rfl, isi1 (.base (.bl b)) (by decide +kernel) ⟨_, rfl, iteT ?_⟩⟩
    refine ⟨_, rfl, isi1 (.base (.bl b)) (by decide +kernel) ⟨_, rfl, iteT ?_⟩⟩
    refine ⟨_, rfl, isi1 (.base (.bl b)) (by decide +kernel) ⟨_, rfl, iteT ?_⟩⟩
    refine ⟨_, rfl, _, rfl, .inl ⟨rfl, ?_⟩⟩
    rw [decide_eq_true rfl]
    exact q _ (Same.refl _)
  | int i =>
    cases hx; cases hy
    refine ⟨_, rfl, rfl, _, rfl, ?_⟩; refine iteF ?_; refine ⟨_, rfl, rfl, _, rfl, ?_⟩; refine iteF ?_
    refine ⟨_, rfl, isi1 (.base (.int i)) (by decide +kernel) ⟨_, rfl, iteF ?_⟩⟩
    refine ⟨_, rfl, isi1 (.base (.int i)) (by decide +kernel) ⟨_, rfl, iteF ?_⟩⟩
    refine ⟨_, rfl, szS, fun tp H1 n1 s1 e1 => isi2 (b := true) (b' := false) e1 (.base (.int i)) (by decide +kernel) (by decide +kernel) ⟨_, rfl, iteT ?_⟩⟩
    refine ⟨_, rfl, isi1 (b := true) (.base (.int i)) (by decide +kernel) ?_⟩
    refine ⟨_, rfl, isi1 (b := true) (.base (.int i)) (by decide +kernel) ?_⟩
    refine .inl ⟨rfl, _, rfl, iteF ?_⟩
    refine ⟨_, rfl, szS, fun tp2 H2 n2 s2 e2 => isi2 (b := true) (b' := false) e2 (.base (.int i)) (by decide +kernel) (by decide +kernel) ⟨_, rfl, iteT ?_⟩⟩
    refine ⟨_, rfl, _, rfl, .inl ⟨rfl, ?_⟩⟩
    rw [decide_eq_true rfl]
    exact q _ (s1.trans s2)
  | str z =>
    cases hx; cases hy
    refine ⟨_, rfl, rfl, _, rfl, ?_⟩; refine iteF ?_; refine ⟨_, rfl, rfl, _, rfl, ?_⟩; refine iteF ?_
    refine ⟨_, rfl, isi1 (.base (.str z)) (by decide +kernel) ⟨_, rfl, iteF ?_⟩⟩
    refine ⟨_, rfl, isi1 (.base (.str z)) (by decide +kernel) ⟨_, rfl, iteF ?_⟩⟩
    refine ⟨_, rfl, szS, fun tp H1 n1 s1 e1 => isi2 (b := false) (b' := true) e1 (.base (.str z)) (by decide +kernel) (by decide +kernel) ⟨_, rfl, iteT ?_⟩⟩
    refine ⟨_, rfl, isi1 (b := false) (.base (.str z)) (by decide +kernel) ?_⟩
    refine ⟨_, rfl, isi1 (b := false) (.base (.str z)) (by decide +kernel) ?_⟩
    refine .inl ⟨rfl, _, rfl, iteF ?_⟩
    refine ⟨_, rfl, szS, fun tp2 H2 n2 s2 e2 => isi2 (b := false) (b' := true) e2 (.base (.str z)) (by decide +kernel) (by decide +kernel) ⟨_, rfl, iteT ?_⟩⟩
    refine ⟨_, rfl, _, rfl, .inl ⟨rfl, ?_⟩⟩
    rw [decide_eq_true rfl]
    exact q _ (s1.trans s2)
  | dict _ => exact hd.elim
  | tuple ds =>
    cases hx with
    | @tup a xs _ a1 a2 =>
    cases hy with
    | @tup b ys _ b1 b2 =>
    refine ⟨_, rfl, rfl, _, rfl, ?_⟩; refine iteF ?_; refine ⟨_, rfl, rfl, _, rfl, ?_⟩; refine iteF ?_
    refine ⟨_, rfl, isi1 (.base (.tup b1)) (by decide +kernel) ⟨_, rfl, iteF ?_⟩⟩
    refine ⟨_, rfl, isi1 (.base (.tup a1)) (by decide +kernel) ⟨_, rfl, iteF ?_⟩⟩
    refine ⟨_, rfl, szS, fun tp H1 n1 s1 e1 => isi2 (b := false) (b' := false) e1 (.base (.tup (s1 _ _ b1))) (by decide +kernel) (by decide +kernel) ⟨_, rfl, iteF ?_⟩⟩
    have a1' := s1 _ _ a1
    have b1' := s1 _ _ b1
    refine ⟨_, rfl, isi1 (b := true) (.base (.tup b1')) (by decide +kernel) ?_⟩
    refine ⟨_, rfl, isi1 (b := true) (.base (.tup a1')) (by decide +kernel) ?_⟩
    refine .inl ⟨rfl, _, rfl, iteF ?_⟩
    refine ⟨_, rfl, isi1 (b := false) (.base (.tup b1')) (by decide +kernel) ?_⟩
    refine ⟨_, rfl, isi1 (b := false) (.base (.tup a1')) (by decide +kernel) ?_⟩
    refine .inl ⟨rfl, _, rfl, iteF ?_⟩
    refine ⟨_, rfl, _, ds.length, rfl, .inr ⟨_, SqT.of a1', a2.len.symm⟩, ?_⟩
    refine ⟨_, rfl, _, ds.length, rfl, .inr ⟨_, SqT.of b1', b2.len.symm⟩, ?_⟩
    refine .inl ⟨rfl, _, rfl, ?_⟩
    rw [decide_eq_true rfl]
    refine iteF ?_
    refine ⟨_, rfl, _, rfl, _, _, _, _, rfl, .inr ⟨SqT.of a1', SqT.of b1', fun D hD => ?_⟩⟩
    refine lcN0 (walkPair (walk_zipT (xs := xs) (ys := ys) (n := ds.length) (by rw [a2.len, b2.len, Nat.min_self]))) hD (fun i acc H' => Same H1 H' ∧ acc = List.replicate i (.bl true))
      (fun H2 s2 e2 => ⟨s2, rfl⟩) (fun _ _ _ _ p => ⟨SqT.of (p.1 _ _ a1'), SqT.of (p.1 _ _ b1')⟩) (fun i x acc H2 H3 hi hl pv eD y => ?_) (fun acc H2 hl pv eD => ?_)
    · obtain ⟨s2, rfl⟩ := pv
      obtain ⟨U, x1, x2, rfl, s3, eU, ex1, ex2⟩ := y
      have sm := (s1.trans s2).trans s3
      obtain ⟨d, hd1, lx⟩ := (LvA.sm sm _ _ a2).at ex1
      obtain ⟨d', hd2, ly⟩ := (LvA.sm sm _ _ b2).at ex2
      cases hd1.symm.trans hd2
      refine ⟨U, _, rfl, SqT.of eU, rfl, _, _, rfl, _, _, rfl, rfl, rfl, ?_⟩
      refine ⟨_, rfl, ?_⟩; refine ⟨_, rfl, ?_⟩
      refine ⟨x1, x2, d, rfl, lx, ly, hd.2 _ (List.mem_of_getElem? hd1), fun H4 s4 => ?_⟩
      have := hd.1
      refine lcNext (s4 _ _ (s3 _ _ eD)) hl (by omega) (fun H5 b5 e5 => ⟨?_, by rw [← List.replicate_append_replicate (n := i) (m := 1)]; rfl⟩)
      exact same_chg ((s2.trans s3).trans s4) (Same.refl _) hD b5
    · obtain ⟨s2, rfl⟩ := pv
      refine .inr ⟨_, _, rfl, .inl (SqL.of eD), rfl, flat_true _, ?_⟩
      rw [notin_true]
      exact q _ (s1.trans s2)
  | list ds =>
    cases hx with
    | @lst a xs _ a1 a2 =>
    cases hy with
    | @lst b ys _ b1 b2 =>
    refine ⟨_, rfl, rfl, _, rfl, ?_⟩; refine iteF ?_; refine ⟨_, rfl, rfl, _, rfl, ?_⟩; refine iteF ?_
    refine ⟨_, rfl, isi1 (.base (.lst b1)) (by decide +kernel) ⟨_, rfl, iteF ?_⟩⟩
    refine ⟨_, rfl, isi1 (.base (.lst a1)) (by decide +kernel) ⟨_, rfl, iteF ?_⟩⟩
    refine ⟨_, rfl, szS, fun tp H1 n1 s1 e1 => isi2 (b := false) (b' := false) e1 (.base (.lst (s1 _ _ b1))) (by decide +kernel) (by decide +kernel) ⟨_, rfl, iteF ?_⟩⟩
    have a1' := s1 _ _ a1
    have b1' := s1 _ _ b1
    refine ⟨_, rfl, isi1 (b := false) (.base (.lst b1')) (by decide +kernel) ?_⟩
    refine ⟨_, rfl, isi1 (b := false) (.base (.lst a1')) (by decide +kernel) ?_⟩
    refine .inl ⟨rfl, _, rfl, iteF ?_⟩
    refine ⟨_, rfl, isi1 (b := true) (.base (.lst b1')) (by decide +kernel) ?_⟩
    refine ⟨_, rfl, isi1 (b := true) (.base (.lst a1')) (by decide +kernel) ?_⟩
    refine .inl ⟨rfl, _, rfl, iteF ?_⟩
    refine ⟨_, rfl, _, ds.length, rfl, .inl ⟨_, SqL.of a1', a2.len.symm⟩, ?_⟩
    refine ⟨_, rfl, _, ds.length, rfl, .inl ⟨_, SqL.of b1', b2.len.symm⟩, ?_⟩
    refine .inl ⟨rfl, _, rfl, ?_⟩
    rw [decide_eq_true rfl]
    refine iteF ?_
    refine ⟨_, rfl, _, rfl, _, _, _, _, rfl, .inl ⟨SqL.of a1', SqL.of b1', fun D hD => ?_⟩⟩
    refine lcN0 (walkPair (walk_zip (xs := xs) (ys := ys) (n := ds.length) (by rw [a2.len, b2.len, Nat.min_self]))) hD (fun i acc H' => Same H1 H' ∧ acc = List.replicate i (.bl true))
      (fun H2 s2 e2 => ⟨s2, rfl⟩) (fun _ _ _ _ p => ⟨SqL.of (p.1 _ _ a1'), SqL.of (p.1 _ _ b1')⟩) (fun i x acc H2 H3 hi hl pv eD y => ?_) (fun acc H2 hl pv eD => ?_)
    · obtain ⟨s2, rfl⟩ := pv
      obtain ⟨U, x1, x2, rfl, s3, eU, ex1, ex2⟩ := y
      have sm := (s1.trans s2).trans s3
      obtain ⟨d, hd1, lx⟩ := (LvA.sm sm _ _ a2).at ex1
      obtain ⟨d', hd2, ly⟩ := (LvA.sm sm _ _ b2).at ex2
      cases hd1.symm.trans hd2
      refine ⟨U, _, rfl, SqT.of eU, rfl, _, _, rfl, _, _, rfl, rfl, rfl, ?_⟩
      refine ⟨_, rfl, ?_⟩; refine ⟨_, rfl, ?_⟩
      refine ⟨x1, x2, d, rfl, lx, ly, hd.2 _ (List.mem_of_getElem? hd1), fun H4 s4 => ?_⟩
      have := hd.1
      refine lcNext (s4 _ _ (s3 _ _ eD)) hl (by omega) (fun H5 b5 e5 => ⟨?_, by rw [← List.replicate_append_replicate (n := i) (m := 1)]; rfl⟩)
      exact same_chg ((s2.trans s3).trans s4) (Same.refl _) hD b5
    · obtain ⟨s2, rfl⟩ := pv
      refine .inr ⟨_, _, rfl, .inl (SqL.of eD), rfl, flat_true _, ?_⟩
      rw [notin_true]
      exact q _ (s1.trans s2)
theorem ok_same (T : Top K mg) : ∀ n, FnOk P w K mg base CX0 n T.f__law_same T.fd__law_same ["found", "due"] (sp_same n)
  | 0 => by
    have no : ∀ vs H Q E, ¬ sp_same 0 vs H Q E := fun vs H Q E h => by
      obtain ⟨_, _, _, _, _, _, h, _⟩ := h
      exact h
    exact ⟨fun vs H Q E h => absurd h (no vs H Q E), fun A outer s H args us vs Q E _ _ _ _ h => absurd h (no vs H Q E)⟩
  | n + 1 => ok_same_s T (ok_same T n)
end
end Kx

-- @zip2
namespace Kx
open PySem PySem.Spec PyProof.Rows L2 Fo
section
variable {P : Program} {w : World} {K : PySem.W.Frag} {mg : Str → Option Value} {base : Heap}
theorem dLot_of {H : Hp} {v : V} {l : Lot} (h : Tv H v (dLot l)) : ∃ a ss xs, v = .ref a ∧ H a = some (.tup [.str (tx l.signs), .ref ss]) ∧ H ss = some (.tup xs) ∧ TvA H xs (l.states.map dLs) := by
  obtain ⟨a, xs, rfl, ha, hA⟩ := h.tupI
  obtain ⟨x1, r1, rfl, h1, hA⟩ := hA.consI
  obtain ⟨x2, r2, rfl, h2, hA⟩ := hA.consI
  cases hA.nilI
  cases h1.strI
  obtain ⟨ss, ys, rfl, hs, hB⟩ := h2.tupI
  exact ⟨a, ss, ys, rfl, ha, hs, hB⟩
theorem dLs_of {H : Hp} {v : V} {s : LSt} (h : Tv H v (dLs s)) : ∃ b ws ys, v = .ref b ∧ H b = some (.tup [.ref ws, .bl s.good]) ∧ H ws = some (.tup ys) ∧ TvA H ys (s.ways.map dN) := by
  obtain ⟨a, xs, rfl, ha, hA⟩ := h.tupI
  obtain ⟨x1, r1, rfl, h1, hA⟩ := hA.consI
  obtain ⟨x2, r2, rfl, h2, hA⟩ := hA.consI
  cases hA.nilI
  cases h2.blI
  obtain ⟨ss, ys, rfl, hs, hB⟩ := h1.tupI
  exact ⟨a, ss, ys, rfl, ha, hs, hB⟩
theorem dLs_at {H : Hp} {xs : List V} {l : Lot} {s : Nat} (h : TvA H xs (l.states.map dLs)) (hs : s < l.states.length) : ∃ x, xs[s]? = some x ∧ Tv H x (dLs (l.sta s)) :=
  h.get (by rw [List.getElem?_map, Lot.sta_at hs]; rfl)
theorem dN_at {H : Hp} {ys : List V} {l : Lot} (o : l.Ok) {s c : Nat} (h : TvA H ys ((l.sta s).ways.map dN)) (hs : s < l.states.length) (hc : c ∈ l.signs) : ∃ x, ys[l.signs.idxOf c]? = some x ∧ Tv H x (dN (l.step (some s) c)) :=
  h.get (by rw [List.getElem?_map, Lot.way_at o hs hc]; rfl)
def sp_lot_on : Sp := fun vs H Q _ => ∃ (v : V) (l : Lot) (t : Cs) (s : Nat), vs = [v, .str (tx t), .int (s : Int)] ∧ Tv H v (dLot l) ∧ l.Ok ∧ s < l.states.length ∧ Ret (dN (l.on (some s) t)) H Q
theorem ok_lot_on (T : Top K mg) : FnOk P w K mg base CX0 1 T.f_lot_on T.fd_lot_on ["lot", "text", "state"] sp_lot_on := by
  refine T.F_lot_on.ok sc_lot_on (fun vs H Q E h => ?_) (fun cdv A outer s H vs Q E hr h => ?_)
  · obtain ⟨v, l, t, s, rfl, _⟩ := h
    rfl
  obtain ⟨v, l, t, s, rfl, hv, o, hs, q⟩ := h
  obtain ⟨a, ss, xs, rfl, ha, hss, hX⟩ := dLot_of hv
  refine ⟨_, PSs.nox (pss_cons (ps_asg (pv 0) (kTg K rfl (n := 2) rfl (pgs_cons (pg_name (i := 3) sc_lot_on.nd rfl (Or.inl rfl)) (pgs_cons (pg_name (i := 4) sc_lot_on.nd rfl (Or.inl rfl)) pgs_nil))))
    (pss_cons (ps_set (i := 5) sc_lot_on.nd rfl (Or.inl rfl) (pv 2))
    (pss_cons (ps_for PassesOwn.never rfl (kG K rfl (pv 1)) (pg_name (i := 6) sc_lot_on.nd rfl (Or.inl rfl)) (pss_cons (ps_if (pt_cmpR (kNin K rfl) (pv 6) (pv 3) rfl) (pss_one (ps_ret pe_non)) pss_nil)
    (pss_cons (ps_set (i := 5) sc_lot_on.nd rfl (Or.inl rfl) (pe_ix (kIx K rfl) (pe_ix (kIx K rfl) (pe_ix (kIx K rfl) (pv 4) (pv 5) (fun _ _ => rfl)) pe_int (fun _ _ => rfl)) (pe_m1 PySem.F.slot_str_index PySem.F.type_str_index mt_sindex (pv 3) (pv 6)) (fun _ _ => rfl)))
    (pss_one (ps_if (pt_cmpR op_isN (pv 5) pe_non (nomark _)) (pss_one (ps_ret pe_non)) pss_nil)))))
    (pss_one (ps_ret (pv 5)))))), ?_⟩
  refine ⟨_, rfl, a, _, rfl, SqT.of ha, rfl, _, _, rfl, _, _, rfl, rfl, ?_⟩
  refine ⟨_, rfl, ?_⟩
  refine Or.inr (Or.inr ⟨_, rfl, _, rfl, ?_⟩)
  refine for_it (walk_str (z := tx t)) (fun i σ H' => ∃ (n : Nat) (y : Option V), σ = [some (.ref a), some (.str (tx t)), some (.int (s : Int)), some (.str (tx l.signs)), some (.ref ss), some (.int (n : Int)), y] ∧ H' = H ∧ l.on (some s) (t.take i) = some n ∧ n < l.states.length)
    ⟨s, none, rfl, rfl, rfl, hs⟩ (fun _ _ _ _ _ => trivial) (fun i x σ H2 H3 hi p y => ?_) (fun σ H2 p => ?_)
  · obtain ⟨n, z, rfl, rfl, e, hn⟩ := p
    obtain ⟨rfl, c, hc, rfl⟩ := y
    have hc := tx_at hc
    have nxt : l.on (some s) (t.take (i + 1)) = l.step (some n) c := by rw [take_snoc hc, Lot.on_snoc, e]
    refine ⟨_, rfl, ?_⟩; refine ⟨_, rfl, ?_⟩
    refine Or.inl ⟨c, tx l.signs, rfl, rfl, _, rfl, ?_⟩
    by_cases hm : c ∈ l.signs
    · rw [show (decide (c ∈ (tx l.signs).cps.toList)) = true from decide_eq_true hm]
      refine iteF ?_
      obtain ⟨x1, hx1, tx1⟩ := dLs_at hX hn
      obtain ⟨b, ws, ys, rfl, hb, hws, hY⟩ := dLs_of tx1
      obtain ⟨x2, hx2, tx2⟩ := dN_at o hY hn hm
      obtain ⟨rest, ho⟩ := occ_sign hm
      refine ⟨_, rfl, ?_⟩; refine ⟨_, rfl, ?_⟩; refine Or.inr (Or.inl ⟨_, _, _, _, rfl, rfl, SqT.of hss, (atI_nat hx1), ?_⟩); refine Or.inr (Or.inl ⟨_, _, _, _, rfl, rfl, SqT.of hb, rfl, ?_⟩)
      refine ⟨_, rfl, ?_⟩; refine ⟨⟨_, rfl⟩, _, rfl, _, _, _, _, rfl, rfl, ho, ?_⟩
      refine Or.inr (Or.inl ⟨_, _, _, _, rfl, rfl, SqT.of hws, (atI_nat hx2), ?_⟩)
      refine ⟨_, rfl, ?_⟩
      refine ⟨rfl, _, rfl, ?_⟩
      cases es : l.step (some n) c with
      | none =>
        rw [es] at tx2
        have e0 := tx2.nonI
        subst e0
        refine iteT ?_
        refine q _ _ (Same.refl _) ?_
        rw [Lot.on_stop (nxt.trans es)]
        exact .non
      | some m =>
        rw [es] at tx2
        have e0 := tx2.intI
        subst e0
        refine iteF ?_
        exact ⟨m, _, rfl, rfl, nxt.trans es, Lot.step_lt o hn es⟩
    · rw [show (decide (c ∈ (tx l.signs).cps.toList)) = false from decide_eq_false hm]
      refine iteT ?_
      refine q _ _ (Same.refl _) ?_
      rw [Lot.on_stop (nxt.trans (show l.step (some n) c = none from if_neg hm))]
      exact .non
  · obtain ⟨n, y, rfl, rfl, e, hn⟩ := p
    rw [tx_size, List.take_length] at e
    refine ⟨_, rfl, ?_⟩
    refine q _ _ (Same.refl _) ?_
    rw [e]
    exact .int _
def sp_word : Sp := fun vs H Q _ => ∃ (v : V) (l : Lot) (t : Cs), vs = [v, .str (tx t)] ∧ Tv H v (dLot l) ∧ l.Ok ∧ ∀ H', Same H H' → Q (.bl (l.word t)) H'
theorem ok_word (T : Top K mg) : FnOk P w K mg base CX0 2 T.f_is_word T.fd_is_word ["lot", "text"] sp_word := by
  have G_lot_on := ok_lot_on (P := P) (w := w) (base := base) T
  refine T.F_is_word.ok sc_is_word (fun vs H Q E h => ?_) (fun cdv A outer s H vs Q E hr h => ?_)
  · obtain ⟨v, l, t, rfl, _⟩ := h
    rfl
  obtain ⟨v, l, t, rfl, hv, o, q⟩ := h
  refine ⟨_, (pss_cons (ps_set (i := 2) sc_is_word.nd rfl (Or.inl rfl) (pe_call G_lot_on (hr.mono (by decide)) (by rfl) T.g_lot_on T.F_lot_on.kp T.b_lot_on T.v_lot_on pass0 (pa_cons (pv 0) (pa_cons (pv 1) pa_nil))))
    (pss_one (ps_ret (pe_and (pe_cmpR op_notN (pv 2) pe_non (nomark _)) (pe_one (pe_ix (kIx K rfl) (pe_ix (kIx K rfl) (pe_ix (kIx K rfl) (pv 0) pe_int (fun _ _ => rfl)) (pv 2) (fun _ _ => rfl)) pe_int (fun _ _ => rfl))))))), ?_⟩
  refine ⟨_, rfl, ?_⟩; refine ⟨_, rfl, ?_⟩
  refine ⟨v, l, t, 0, rfl, hv, o, o.ne, fun x H1 s1 t1 => ?_⟩
  have q := q H1 s1
  unfold Lot.word at q
  refine ⟨_, rfl, ?_⟩
  refine ⟨rfl, _, rfl, ?_⟩
  cases e : l.on (some 0) t with
  | none =>
    rw [e] at t1 q
    have e0 := t1.nonI
    subst e0
    exact iteF q
  | some n =>
    rw [e] at t1 q
    have e0 := t1.intI
    subst e0
    have hn := Lot.on_lt o t 0 n o.ne e
    obtain ⟨a, ss, xs, rfl, ha, hss, hX⟩ := dLot_of (hv.mv (same_ts s1))
    obtain ⟨x1, hx1, tx1⟩ := dLs_at hX hn
    obtain ⟨b, ws, ys, rfl, hb, hws, hY⟩ := dLs_of tx1
    refine iteT ?_
    refine ⟨_, rfl, ?_⟩; refine Or.inr (Or.inl ⟨_, _, _, _, rfl, rfl, SqT.of ha, rfl, ?_⟩); refine ⟨_, rfl, ?_⟩; refine Or.inr (Or.inl ⟨_, _, _, _, rfl, rfl, SqT.of hss, (atI_nat hx1), ?_⟩); refine Or.inr (Or.inl ⟨_, _, _, _, rfl, rfl, SqT.of hb, rfl, ?_⟩)
    exact q
/-- the counts, the states: one turn of how_many -/
theorem sweep_take : ∀ (cs : List Int) (ss : List LSt) (a : List Int) (i : Nat) (c : Int) (s : LSt), cs[i]? = some c → ss[i]? = some s → sweep (cs.take (i + 1)) (ss.take (i + 1)) a = bumps c s.ways (sweep (cs.take i) (ss.take i) a)
  | [], _, _, i, _, _, h, _ => by simp at h
  | _ :: _, [], _, i, _, _, _, h => by simp at h
  | x :: cs, y :: ss, a, 0, c, s, h1, h2 => by
    have e1 : x = c := by simpa using h1
    have e2 : y = s := by simpa using h2
    subst e1 e2
    show sweep (cs.take 0) (ss.take 0) (bumps x y.ways a) = bumps x y.ways a
    rfl
  | x :: cs, y :: ss, a, i + 1, c, s, h1, h2 => sweep_take cs ss (bumps x y.ways a) i c s (by simpa using h1) (by simpa using h2)
theorem bumps_snoc (v : Int) : ∀ (ws : List (Option Nat)) (a : List Int) (w : Option Nat), bumps v (ws ++ [w]) a = match w with | none => bumps v ws a | some k => bump (bumps v ws a) k v
  | [], a, none => rfl
  | [], a, some k => rfl
  | none :: ws, a, w => bumps_snoc v ws a w
  | some k :: ws, a, w => bumps_snoc v ws (bump a k v) w
theorem total_snoc : ∀ (cs : List Int) (ss : List LSt) (i : Nat) (c : Int) (s : LSt), cs[i]? = some c → ss[i]? = some s → total (cs.take (i + 1)) (ss.take (i + 1)) = total (cs.take i) (ss.take i) ++ if s.good then [c] else []
  | [], _, i, _, _, h, _ => by simp at h
  | _ :: _, [], i, _, _, _, h => by simp at h
  | x :: cs, y :: ss, 0, c, s, h1, h2 => by
    have e1 : x = c := by simpa using h1
    have e2 : y = s := by simpa using h2
    subst e1 e2
    show (if y.good then x :: total (cs.take 0) (ss.take 0) else total (cs.take 0) (ss.take 0)) = [] ++ _
    cases y.good <;> rfl
  | x :: cs, y :: ss, i + 1, c, s, h1, h2 => by
    have ih := total_snoc cs ss i c s (by simpa using h1) (by simpa using h2)
    show (if y.good then x :: total (cs.take (i + 1)) (ss.take (i + 1)) else total (cs.take (i + 1)) (ss.take (i + 1))) = (if y.good then x :: total (cs.take i) (ss.take i) else total (cs.take i) (ss.take i)) ++ _
    rw [ih]
    cases y.good <;> rfl
end
end Kx

-- @zip2
namespace Kx
open PySem PySem.Spec PyProof.Rows L2 Fo
section
variable {P : Program} {w : World} {K : PySem.W.Frag} {mg : Str → Option Value} {base : Heap}
def sp_many : Sp := fun vs H Q _ => ∃ (v : V) (l : Lot) (n : Nat), vs = [v, .int (n : Int)] ∧ Tv H v (dLot l) ∧ l.Ok ∧ l.states.length ≤ 1000 ∧ n ≤ 1000 ∧ ∀ H', Same H H' → Q (.int (l.many n)) H'
theorem ok_many (T : Top K mg) : FnOk P w K mg base CX0 1 T.f_how_many T.fd_how_many ["lot", "length"] sp_many := by
  refine T.F_how_many.ok sc_how_many (fun vs H Q E h => ?_) (fun cdv A outer s H vs Q E hr h => ?_)
  · obtain ⟨v, l, n, rfl, _⟩ := h
    rfl
  obtain ⟨v, l, n, rfl, hv, o, few, hn, q⟩ := h
  obtain ⟨a, ss, xs, rfl, ha, hss, hX⟩ := dLot_of hv
  have xl : xs.length = l.states.length := by rw [hX.len, List.length_map]
  refine ⟨_, (pss_cons (ps_set (i := 2) sc_how_many.nd rfl (Or.inl rfl) (pe_ix (kIx K rfl) (pv 0) pe_int (fun _ _ => rfl)))
    (pss_cons (ps_set (i := 3) sc_how_many.nd rfl (Or.inl rfl) (pe_op op_addG (pe_lstN (pa_cons pe_int pa_nil)) (pe_op op_mulN (pe_lstN (pa_cons pe_int pa_nil)) (pe_op op_sub (pe_callB (kLen K rfl) (by rfl) T.m_len PySem.boot_len (pa_cons (pv 2) pa_nil)) pe_int))))
    (pss_cons (ps_for PassesOwn.never rfl (pi_range1 rfl T.m_range (pa_cons (pv 1) pa_nil)) (pg_name (i := 4) sc_how_many.nd rfl (Or.inl rfl)) (pss_cons (ps_set (i := 5) sc_how_many.nd rfl (Or.inl rfl) (pe_op op_mulN (pe_lstN (pa_cons pe_int pa_nil)) (pe_callB (kLen K rfl) (by rfl) T.m_len PySem.boot_len (pa_cons (pv 2) pa_nil))))
    (pss_cons (ps_for PassesOwn.never rfl (pi_zip2 K rfl (by rfl) T.m_zip (pa_cons (pv 3) (pa_cons (pv 2) pa_nil))) (kTg K rfl (n := 2) rfl (pgs_cons (pg_name (i := 6) sc_how_many.nd rfl (Or.inl rfl)) (pgs_cons (kTg K rfl (n := 2) rfl (pgs_cons (pg_name (i := 7) sc_how_many.nd rfl (Or.inl rfl)) (pgs_cons (pg_name (i := 8) sc_how_many.nd rfl (Or.inl rfl)) pgs_nil))) pgs_nil))) (pss_one (ps_for PassesOwn.never rfl (kG K rfl (pv 7)) (pg_name (i := 9) sc_how_many.nd rfl (Or.inl rfl)) (pss_one (ps_if (pt_cmpR op_notN (pv 9) pe_non (nomark _)) (pss_one (ps_augS (pv 5) (pv 9) get_listN (pv 6) ip_add set_listN)) pss_nil)))))
    (pss_one (ps_set (i := 3) sc_how_many.nd rfl (Or.inl rfl) (pv 5))))))
    (pss_one (ps_ret (pe_callB (kSum K rfl rfl) (by rfl) T.m_sum (by decide +kernel) (pa_cons (pe_lc (own := [("many", 6), ("ways", 7), ("good", 8)]) rfl sc_how_many.nd (pi_zip2 K rfl (by rfl) T.m_zip (pa_cons (pv 3) (pa_cons (pv 2) pa_nil))) (blkOk_by (N := ["lot", "length", "states", "texts", "_", "longer", "many", "ways", "good", "way"]) (sc := defScope s_how_many) (by decide +kernel)) (fun _ _ _ _ _ => (kTg K rfl (n := 2) rfl (pgs_cons (pg_name (i := 6) sc_how_many.nd rfl (Or.inl rfl)) (pgs_cons (kTg K rfl (n := 2) rfl (pgs_cons (pg_name (i := 7) sc_how_many.nd rfl (Or.inl rfl)) (pgs_cons (pg_name (i := 8) sc_how_many.nd rfl (Or.inl rfl)) pgs_nil))) pgs_nil)))) (fun _ _ _ _ _ => pts_one (pt_val (pv 8))) (fun _ _ _ _ _ => (pv 6))) pa_nil))))))), ?_⟩
  refine ⟨_, rfl, ?_⟩; refine Or.inr (Or.inl ⟨_, _, _, _, rfl, rfl, SqT.of ha, rfl, ?_⟩)
  have ne := o.ne
  refine ⟨szS, fun p1 H1 n1 s1 e1 => ?_⟩
  refine ⟨szS, fun p2 H2 n2 s2 e2 => ?_⟩
  refine ⟨_, rfl, ?_⟩
  have s12 := s1.trans s2
  refine ⟨_, _, rfl, .inr ⟨_, SqT.of (s12 _ _ hss), rfl⟩, ?_⟩
  refine ⟨_, _, rfl, rfl, ?_⟩
  refine Or.inr ⟨p2, xs.length - 1, _, rfl, (show V.int ((xs.length : Int) - 1) = V.int ((xs.length - 1 : Nat) : Int) by congr 1; omega), e2, by omega, (by show 1 * _ ≤ _; omega), fun p3 H3 n3 s3 e3 => ?_⟩
  rw [ints_rep] at e3
  refine Or.inr (Or.inr (Or.inl ⟨p1, p3, _, _, rfl, rfl, (s2.trans s3) _ _ e1, e3, (by rw [List.length_map, List.length_replicate, sizeLine_eq]; show 1 + _ ≤ _; omega), fun tl H4 n4 s4 e4 => ?_⟩))
  have s04 := (s12.trans s3).trans s4
  have e4 : H4 tl = some (.lst ((l.cnt 0).map V.int)) := by rw [e4, xl]; rfl
  refine ⟨_, rfl, ?_⟩
  refine ⟨(n : Int), rfl, by omega, by omega, ?_⟩
  rw [show (n : Int).toNat = n by omega]
  refine for_it walk_range (fun i σ H' => ∃ (tl : Addr) (y4 y5 y6 y7 y8 y9 : Option V), σ = [some (.ref a), some (.int (n : Int)), some (.ref ss), some (.ref tl), y4, y5, y6, y7, y8, y9] ∧ Same H H' ∧ H' tl = some (.lst ((l.cnt i).map V.int)))
    ⟨tl, none, none, none, none, none, none, rfl, s04, e4⟩ (fun _ _ _ _ _ => trivial) (fun i x' σ H5 H6 hi pv y => ?_) (fun σ H5 pv => ?_)
  · obtain ⟨tl, y4, y5, y6, y7, y8, y9, rfl, s5, e5⟩ := pv
    obtain ⟨rfl, rfl⟩ := y
    have cl := Lot.cnt_len o i
    refine ⟨szS, fun p5 H7 n7 s7 e7 => ?_⟩
    refine ⟨_, rfl, ?_⟩
    have s57 := s5.trans s7
    refine ⟨_, _, rfl, .inr ⟨_, SqT.of (s57 _ _ hss), rfl⟩, ?_⟩
    refine Or.inr ⟨p5, xs.length, _, rfl, rfl, e7, by omega, (by show 1 * _ ≤ _; omega), fun g H8 n8 s8 e8 => ?_⟩
    rw [ints_rep] at e8
    have s08 := s57.trans s8
    have n8' : H g = none := s57.free n8
    have e5' := (s7.trans s8) _ _ e5
    have tg : tl ≠ g := ne_of_none (s7 _ _ e5) n8
    refine ⟨_, rfl, ?_⟩; refine ⟨_, rfl, ?_⟩
    refine ⟨.l tl, .t ss, (l.cnt i).map V.int, xs, rfl, SqL.of e5', SqT.of (s08 _ _ hss), ?_⟩
    have hnn : l.states.length = min ((l.cnt i).map V.int).length xs.length := by rw [List.length_map, cl, xl, Nat.min_self]
    refine for_it (walk_zip2 hnn) (fun j σ H' => ∃ (y4 y6 y7 y8 y9 : Option V), σ = [some (.ref a), some (.int (n : Int)), some (.ref ss), some (.ref tl), y4, some (.ref g), y6, y7, y8, y9] ∧ Same H H' ∧ H' tl = some (.lst ((l.cnt i).map V.int)) ∧
        H' g = some (.lst ((sweep ((l.cnt i).take j) (l.states.take j) (List.replicate l.states.length 0)).map V.int)))
      ⟨_, _, _, _, _, rfl, s08, e5', by rw [e8, xl]; rfl⟩ (fun j σ H' _ pv => ?_) (fun j x σ H9 H10 hj pv y => ?_) (fun σ H9 pv => ?_)
    · obtain ⟨_, _, _, _, _, _, p2, p3, _⟩ := pv
      exact ⟨SqL.of p3, SqT.of (p2 _ _ hss)⟩
    · obtain ⟨y4, y6, y7, y8, y9, rfl, s9, e9, eg⟩ := pv
      obtain ⟨U, u, v, rfl, s10, eU, hu, hv'⟩ := y
      have hc : (l.cnt i)[j]? = some ((l.cnt i)[j]'(by omega)) := List.getElem?_eq_getElem (by omega)
      generalize (l.cnt i)[j]'(by omega) = cj at hc
      have hu : ((l.cnt i).map V.int)[j]? = some u := hu
      rw [List.getElem?_map, hc] at hu
      cases hu
      obtain ⟨x1, hx1, tx1⟩ := dLs_at (hX.mv (same_ts (s9.trans s10))) hj
      have hv' : xs[j]? = some v := hv'
      rw [hv'] at hx1
      cases hx1
      obtain ⟨b, ws, ys, rfl, hb, hws, hY⟩ := dLs_of tx1
      have yl : ys.length = (l.sta j).ways.length := by rw [hY.len, List.length_map]
      have eg10 := s10 _ _ eg
      have e910 := s10 _ _ e9
      have s010 := s9.trans s10
      have swl : (sweep ((l.cnt i).take j) (l.states.take j) (List.replicate l.states.length 0)).length = l.states.length := by rw [sweep_len, List.length_replicate]
      generalize hsw : sweep ((l.cnt i).take j) (l.states.take j) (List.replicate l.states.length 0) = sw at eg10 swl
      refine ⟨U, _, rfl, SqT.of eU, rfl, _, _, rfl, _, _, rfl, b, _, rfl, SqT.of hb, rfl, _, _, rfl, _, _, rfl, rfl, rfl, ?_⟩
      refine Or.inr (Or.inl ?_)
      refine ⟨_, rfl, ?_⟩
      refine ⟨ws, rfl, ⟨ys, SqT.of hws⟩, for_it (walk_tup (xs := ys)) (fun m σ H' => ∃ (y4 y9 : Option V), σ = [some (.ref a), some (.int (n : Int)), some (.ref ss), some (.ref tl), y4, some (.ref g), some (.int cj), some (.ref ws), some (.bl (l.sta j).good), y9] ∧ Same H H' ∧ But g H10 H' ∧ H' g = some (.lst ((bumps cj ((l.sta j).ways.take m) sw).map V.int)))
        ⟨_, _, rfl, s010, But.refl _ _, eg10⟩ (fun m σ H' _ pv => ?_) (fun m x σ H11 H12 hm pv y => ?_) (fun σ H11 pv => ?_)⟩
      · obtain ⟨_, _, _, p2, p3, _⟩ := pv
        exact SqT.of (p3.ts eg10 _ _ hws)
      · obtain ⟨z4, z9, rfl, s11, b11, e11⟩ := pv
        obtain ⟨eH, hx⟩ := y
        subst eH
        have ew : (l.sta j).ways[m]? = some ((l.sta j).ways[m]'(by omega)) := List.getElem?_eq_getElem (by omega)
        generalize (l.sta j).ways[m]'(by omega) = wm at ew
        obtain ⟨x2, hx2, tx2⟩ := (hY.mv (b11.ts eg10)).get (d := dN wm) (by rw [List.getElem?_map, ew]; rfl)
        rw [hx] at hx2
        cases hx2
        refine ⟨_, rfl, ?_⟩
        refine ⟨rfl, _, rfl, ?_⟩
        cases wm with
        | none =>
          have e0 := tx2.nonI
          subst e0
          refine iteF ?_
          refine ⟨_, _, rfl, s11, b11, ?_⟩
          rw [take_snoc ew, bumps_snoc]
          exact e11
        | some k =>
          have e0 := tx2.intI
          subst e0
          have hk : k < sw.length := by rw [swl]; exact o.there _ (Lot.sta_mem hj) k (List.mem_of_getElem? ew)
          have hk2 : k < (bumps cj ((l.sta j).ways.take m) sw).length := by rw [bumps_len]; exact hk
          refine iteT ?_
          refine ⟨_, rfl, ?_⟩; refine ⟨_, rfl, ?_⟩
          refine ⟨g, _, k, .int ((bumps cj ((l.sta j).ways.take m) sw).getD k 0), rfl, rfl, e11, ?_, ?_⟩
          · rw [List.getElem?_map, List.getD_eq_getElem?_getD, List.getElem?_eq_getElem hk2]
            rfl
          refine ⟨_, rfl, ?_⟩
          refine ⟨_, _, rfl, rfl, ?_⟩
          refine ⟨g, _, (k : Int), k, rfl, rfl, e11, (by rw [List.length_map]; have z := ixN_of (n := (bumps cj ((l.sta j).ways.take m) sw).length) (i := (k : Int)) (by omega) (by omega); rw [Int.toNat_natCast] at z; exact z), fun H13 b13 e13 => ?_⟩
          refine ⟨_, _, rfl, same_chg s11 (Same.refl H) n8' b13, b11.trans b13, ?_⟩
          rw [e13, take_snoc ew, bumps_snoc]
          show some (HO.lst ((List.map V.int _).set k (V.int _))) = some (HO.lst ((Fo.bump _ k cj).map V.int))
          unfold Fo.bump
          rw [List.map_set]
      · obtain ⟨z4, z9, rfl, s11, b11, e11⟩ := pv
        rw [yl, List.take_length] at e11
        refine ⟨_, _, _, _, _, rfl, s11, b11 _ _ tg e910, ?_⟩
        rw [e11, sweep_take _ _ _ j cj (l.sta j) hc (Lot.sta_at hj), hsw]
    · obtain ⟨y4, y6, y7, y8, y9, rfl, s9, e9, eg⟩ := pv
      rw [← cl, List.take_length, cl, List.take_length] at eg
      refine ⟨_, rfl, ?_⟩
      exact ⟨g, _, _, _, _, _, _, rfl, s9, eg⟩
  · obtain ⟨tl, y4, y5, y6, y7, y8, y9, rfl, s5, e5⟩ := pv
    have cl := Lot.cnt_len o n
    refine ⟨_, rfl, ?_⟩; refine ⟨_, rfl, ?_⟩
    refine ⟨.l tl, .t ss, (l.cnt n).map V.int, xs, rfl, SqL.of e5, SqT.of (s5 _ _ hss), fun D hD => ?_⟩
    have hnn : l.states.length = min ((l.cnt n).map V.int).length xs.length := by rw [List.length_map, cl, xl, Nat.min_self]
    refine lcN (walk_zip2 hnn) hD (fun j acc H' => Same H5 H' ∧ acc = (total ((l.cnt n).take j) (l.states.take j)).map V.int)
      (fun H6 s6 e6 => ⟨s6, rfl⟩) (fun j acc H' _ pv => ⟨SqL.of (pv.1 _ _ e5), SqT.of ((s5.trans pv.1) _ _ hss)⟩) (fun j x acc H6 H7 hj hl pv eD y => ?_) (fun acc H6 hl pv eD => ?_)
    · obtain ⟨s6, rfl⟩ := pv
      obtain ⟨U, u, v, rfl, s7, eU, hu, hv'⟩ := y
      have hc : (l.cnt n)[j]? = some ((l.cnt n)[j]'(by omega)) := List.getElem?_eq_getElem (by omega)
      generalize (l.cnt n)[j]'(by omega) = cj at hc
      have hu : ((l.cnt n).map V.int)[j]? = some u := hu
      rw [List.getElem?_map, hc] at hu
      cases hu
      obtain ⟨x1, hx1, tx1⟩ := dLs_at (hX.mv (same_ts ((s5.trans s6).trans s7))) hj
      have hv' : xs[j]? = some v := hv'
      rw [hv'] at hx1
      cases hx1
      obtain ⟨b, ws, ys, rfl, hb, hws, hY⟩ := dLs_of tx1
      have ts := total_snoc (l.cnt n) l.states j cj (l.sta j) hc (Lot.sta_at hj)
      refine ⟨U, _, rfl, SqT.of eU, rfl, _, _, rfl, _, _, rfl, b, _, rfl, SqT.of hb, rfl, _, _, rfl, _, _, rfl, rfl, rfl, rfl, ?_⟩
      refine ⟨_, rfl, ?_⟩
      refine ⟨_, rfl, ?_⟩
      cases hg : (l.sta j).good with
      | true =>
        refine iteT ?_
        refine ⟨_, rfl, ?_⟩
        refine lcNext (s7 _ _ eD) hl (by omega) fun H8 b8 e8 => ⟨same_chg (s6.trans s7) (Same.refl H5) hD b8, ?_⟩
        rw [ts, hg, List.map_append]
        rfl
      | false =>
        refine iteF ?_
        refine ⟨_, by omega, ⟨s6.trans s7, ?_⟩, s7 _ _ eD⟩
        rw [ts, hg, if_neg Bool.false_ne_true, List.append_nil]
    · obtain ⟨s6, rfl⟩ := pv
      rw [← cl, List.take_length, cl, List.take_length] at eD
      exact ⟨D, _, rfl, SqL.of eD, q _ (s5.trans s6)⟩
end
end Kx

-- @zip2
namespace Kx
open PySem PySem.Spec PyProof.Rows L2 Fo
section
variable {P : Program} {w : World} {K : PySem.W.Frag} {mg : Str → Option Value} {base : Heap}
def sp_llot_on : Sp := fun vs H Q _ => ∃ (v : V) (l : Lot) (t : Cs), vs = [v, .str (tx t)] ∧ Tv H v (dLot l) ∧ l.Ok ∧ ∀ x, Tv H x (dN (l.on (some 0) t)) → Q x H
theorem ok_llot_on (T : Top K mg) : FnOk P w K mg base CX0 1 T.f__law_lot_on T.fd__law_lot_on ["lot", "text"] sp_llot_on := by
  refine T.F__law_lot_on.ok sc__law_lot_on (fun vs H Q E h => ?_) (fun cdv A outer s H vs Q E hr h => ?_)
  · obtain ⟨v, l, t, rfl, _⟩ := h
    rfl
  obtain ⟨v, l, t, rfl, hv, o, q⟩ := h
  obtain ⟨a, ss, xs, rfl, ha, hss, hX⟩ := dLot_of hv
  refine ⟨_, (pss_cons (ps_set (i := 2) sc__law_lot_on.nd rfl (Or.inl rfl) pe_int)
    (pss_cons (ps_for PassesOwn.never rfl (kG K rfl (pv 1)) (pg_name (i := 3) sc__law_lot_on.nd rfl (Or.inl rfl)) (pss_cons (ps_if (PW.pt (pw_or (pt_cmpR op_isN (pv 2) pe_non (nomark _)) (pw_or1 (pt_cmpR (kNin K rfl) (pv 3) (pe_ix (kIx K rfl) (pv 0) pe_int (fun _ _ => rfl)) rfl)))) (pss_one (ps_ret pe_non)) pss_nil)
    (pss_one (ps_set (i := 2) sc__law_lot_on.nd rfl (Or.inl rfl) (pe_ix (kIx K rfl) (pe_ix (kIx K rfl) (pe_ix (kIx K rfl) (pe_ix (kIx K rfl) (pv 0) pe_int (fun _ _ => rfl)) (pv 2) (fun _ _ => rfl)) pe_int (fun _ _ => rfl)) (pe_m1 PySem.F.slot_str_index PySem.F.type_str_index mt_sindex (pe_ix (kIx K rfl) (pv 0) pe_int (fun _ _ => rfl)) (pv 3)) (fun _ _ => rfl))))))
    (pss_one (ps_ret (pv 2))))), ?_⟩
  refine Or.inr (Or.inr ⟨_, rfl, _, rfl, ?_⟩)
  refine for_it (walk_str (z := tx t)) (fun i σ H' => ∃ (x : V) (yy : Option V), σ = [some (.ref a), some (.str (tx t)), some x, yy] ∧ H' = H ∧ Tv H x (dN (l.on (some 0) (t.take i))))
    ⟨.int 0, none, rfl, rfl, .int _⟩ (fun _ _ _ _ _ => trivial) (fun i x σ H2 H3 hi p y => ?_) (fun σ H2 p => ?_)
  · obtain ⟨x0, z, rfl, rfl, tx0⟩ := p
    obtain ⟨rfl, c, hc, rfl⟩ := y
    have hc := tx_at hc
    have nxt : l.on (some 0) (t.take (i + 1)) = l.step (l.on (some 0) (t.take i)) c := by rw [take_snoc hc, Lot.on_snoc]
    refine ⟨_, rfl, ?_⟩
    refine ⟨rfl, _, rfl, ?_⟩
    cases es : l.on (some 0) (t.take i) with
    | none =>
      rw [es] at tx0
      have e0 := tx0.nonI
      subst e0
      refine iteT ?_
      refine iteT ?_
      refine q _ ?_
      rw [Lot.on_stop es]
      exact .non
    | some n =>
      rw [es] at tx0
      have e0 := tx0.intI
      subst e0
      refine iteF ?_
      have hn := Lot.on_lt o _ 0 n o.ne es
      rw [es] at nxt
      refine ⟨_, rfl, ?_⟩; refine ⟨_, rfl, ?_⟩; refine Or.inr (Or.inl ⟨_, _, _, _, rfl, rfl, SqT.of ha, rfl, ?_⟩)
      refine Or.inl ⟨c, tx l.signs, rfl, rfl, _, rfl, ?_⟩
      by_cases hm : c ∈ l.signs
      · rw [show (decide (c ∈ (tx l.signs).cps.toList)) = true from decide_eq_true hm]
        refine iteF ?_
        obtain ⟨x1, hx1, tx1⟩ := dLs_at hX hn
        obtain ⟨b, ws, ys, rfl, hb, hws, hY⟩ := dLs_of tx1
        obtain ⟨x2, hx2, tx2⟩ := dN_at o hY hn hm
        obtain ⟨rest, ho⟩ := occ_sign hm
        refine ⟨_, rfl, ?_⟩; refine Or.inr (Or.inl ⟨_, _, _, _, rfl, rfl, SqT.of ha, rfl, ?_⟩); refine ⟨_, rfl, ?_⟩; refine Or.inr (Or.inl ⟨_, _, _, _, rfl, rfl, SqT.of hss, (atI_nat hx1), ?_⟩); refine Or.inr (Or.inl ⟨_, _, _, _, rfl, rfl, SqT.of hb, rfl, ?_⟩)
        refine ⟨_, rfl, ?_⟩; refine Or.inr (Or.inl ⟨_, _, _, _, rfl, rfl, SqT.of ha, rfl, ?_⟩)
        refine ⟨⟨_, rfl⟩, _, rfl, _, _, _, _, rfl, rfl, ho, ?_⟩
        refine Or.inr (Or.inl ⟨_, _, _, _, rfl, rfl, SqT.of hws, (atI_nat hx2), ?_⟩)
        refine ⟨_, _, rfl, rfl, ?_⟩
        rw [nxt]
        exact tx2
      · rw [show (decide (c ∈ (tx l.signs).cps.toList)) = false from decide_eq_false hm]
        refine iteT ?_
        refine q _ ?_
        rw [Lot.on_stop (nxt.trans (show l.step (some n) c = none from if_neg hm))]
        exact .non
  · obtain ⟨x0, y, rfl, rfl, tx0⟩ := p
    rw [tx_size, List.take_length] at tx0
    refine ⟨_, rfl, ?_⟩
    exact q _ tx0
end
end Kx

-- @zip2
namespace Kx
open PySem PySem.Spec PyProof.Rows L2 Fo
section
variable {P : Program} {w : World} {K : PySem.W.Frag} {mg : Str → Option Value} {base : Heap}
def sp_ldue : Sp := fun vs H Q _ => ∃ (v : V) (l : Lot) (t : Cs), vs = [v, .str (tx t)] ∧ Tv H v (dLot l) ∧ l.Ok ∧ Q (.bl (l.word t)) H
theorem ok_ldue (T : Top K mg) : FnOk P w K mg base CX0 2 T.f__law_due T.fd__law_due ["lot", "text"] sp_ldue := by
  have G__law_lot_on := ok_llot_on (P := P) (w := w) (base := base) T
  refine T.F__law_due.ok sc__law_due (fun vs H Q E h => ?_) (fun cdv A outer s H vs Q E hr h => ?_)
  · obtain ⟨v, l, t, rfl, _⟩ := h
    rfl
  obtain ⟨v, l, t, rfl, hv, o, q⟩ := h
  refine ⟨_, (pss_cons (ps_set (i := 2) sc__law_due.nd rfl (Or.inl rfl) (pe_call G__law_lot_on (hr.mono (by first | decide | omega)) (by rfl) T.g__law_lot_on T.F__law_lot_on.kp T.b__law_lot_on .nil pass0 (pa_cons (pv 0) (pa_cons (pv 1) pa_nil))))
    (pss_one (ps_ret (pe_and (pe_cmpR op_notN (pv 2) pe_non (nomark _)) (pe_one (pe_ix (kIx K rfl) (pe_ix (kIx K rfl) (pe_ix (kIx K rfl) (pv 0) pe_int (fun _ _ => rfl)) (pv 2) (fun _ _ => rfl)) pe_int (fun _ _ => rfl))))))), ?_⟩
  refine ⟨_, rfl, ?_⟩; refine ⟨_, rfl, ?_⟩
  refine ⟨v, l, t, rfl, hv, o, fun x t1 => ?_⟩
  unfold Lot.word at q
  refine ⟨_, rfl, ?_⟩
  refine ⟨rfl, _, rfl, ?_⟩
  cases e : l.on (some 0) t with
  | none =>
    rw [e] at t1 q
    have e0 := t1.nonI
    subst e0
    exact iteF q
  | some n =>
    rw [e] at t1 q
    have e0 := t1.intI
    subst e0
    have hn := Lot.on_lt o t 0 n o.ne e
    obtain ⟨a, ss, xs, rfl, ha, hss, hX⟩ := dLot_of hv
    obtain ⟨x1, hx1, tx1⟩ := dLs_at hX hn
    obtain ⟨b, ws, ys, rfl, hb, hws, hY⟩ := dLs_of tx1
    refine iteT ?_
    refine ⟨_, rfl, ?_⟩; refine Or.inr (Or.inl ⟨_, _, _, _, rfl, rfl, SqT.of ha, rfl, ?_⟩); refine ⟨_, rfl, ?_⟩; refine Or.inr (Or.inl ⟨_, _, _, _, rfl, rfl, SqT.of hss, (atI_nat hx1), ?_⟩); refine Or.inr (Or.inl ⟨_, _, _, _, rfl, rfl, SqT.of hb, rfl, ?_⟩)
    exact q
/-! longer -/
theorem longer_len (g : Cs) : ∀ ts : List Cs, (longer g ts).length = ts.length * g.length
  | [] => (Nat.zero_mul _).symm
  | t :: ts => by
    have ih := longer_len g ts
    show ((g.map fun c => t ++ [c]) ++ longer g ts).length = (ts.length + 1) * g.length
    rw [List.length_append, List.length_map, ih, Nat.succ_mul, Nat.add_comm]
theorem longer_snoc (g : Cs) (ts : List Cs) (t : Cs) : longer g (ts ++ [t]) = longer g ts ++ g.map fun c => t ++ [c] := by
  unfold longer
  rw [List.flatMap_append, List.flatMap_cons, List.flatMap_nil, List.append_nil]
def sp_longer : Sp := fun vs H Q _ => ∃ (a : Addr) (g : Cs) (ts : List Cs), vs = [.ref a, .str (tx g)] ∧ H a = some (.lst (ts.map fun t => V.str (tx t))) ∧ ts.length * g.length ≤ 50000 ∧ (∀ t ∈ ts, t.length ≤ 1000) ∧ g.length ≤ 1000 ∧ New (.lst ((longer g ts).map fun t => V.str (tx t))) H Q
theorem ok_longer (T : Top K mg) : FnOk P w K mg base CX0 1 T.f__law_longer T.fd__law_longer ["texts", "signs"] sp_longer := by
  refine T.F__law_longer.ok sc__law_longer (fun vs H Q E h => ?_) (fun cdv A outer s H vs Q E hr h => ?_)
  · obtain ⟨a, g, ts, rfl, _⟩ := h
    rfl
  obtain ⟨a, g, ts, rfl, ha, hl, tl, gl, q⟩ := h
  refine ⟨_, (pss_cons (ps_set (i := 2) sc__law_longer.nd rfl (Or.inl rfl) (pe_lstN pa_nil))
    (pss_cons (ps_for PassesOwn.never rfl (kG K rfl (pv 0)) (pg_name (i := 3) sc__law_longer.nd rfl (Or.inr rfl)) (pss_one (ps_expr (kBm K rfl (pe_bm PySem.F.plainAttrs_list PySem.F.slot_list_extend PySem.F.type_list_extend mt_extend (pv 2) (pa_cons (pe_lc (own := [("sign", 4)]) (tt := tYes) rfl sc__law_longer.nd (kG K rfl (pv 1)) (blkOk_by (N := ["texts", "signs", "found", "text", "sign"]) (sc := defScope s__law_longer) (by decide +kernel)) (fun _ _ _ _ _ => (pg_name (i := 4) sc__law_longer.nd rfl (Or.inl rfl))) (fun _ _ _ _ _ => pts_nil) (fun _ _ _ _ _ => (pe_op op_addG (pv 3) (pv 4)))) pa_nil))))))
    (pss_one (ps_ret (pv 2))))), ?_⟩
  refine ⟨szS, fun l H1 n1 s1 e1 => ?_⟩
  refine Or.inl ?_
  refine ⟨_, rfl, ?_⟩
  refine ⟨a, rfl, ⟨_, SqL.of (s1 _ _ ha)⟩, for_it (walk_list (xs := ts.map fun t => V.str (tx t))) (fun j σ H' => ∃ z3 z4, σ = [some (.ref a), some (.str (tx g)), some (.ref l), z3, z4] ∧ Same H H' ∧ H' l = some (.lst ((longer g (ts.take j)).map fun t => V.str (tx t))))
    ⟨_, _, rfl, s1, e1⟩ (fun j σ H' _ pv => ?_) (fun j x σ H2 H3 hj pv y => ?_) (fun σ H2 pv => ?_)⟩
  · obtain ⟨_, _, _, p2, _⟩ := pv
    exact SqL.of (p2 _ _ ha)
  · obtain ⟨z3, z4, rfl, s2, e2⟩ := pv
    obtain ⟨rfl, hx⟩ := y
    rw [List.length_map] at hj
    have et : ts[j]? = some (ts[j]'hj) := List.getElem?_eq_getElem hj
    generalize ts[j]'hj = t at et
    have hx : (ts.map fun t => V.str (tx t))[j]? = some x := hx
    rw [List.getElem?_map, et] at hx
    cases hx
    have t1 := tl t (List.mem_of_getElem? et)
    refine ⟨_, rfl, ?_⟩
    refine ⟨.inl ⟨rfl, _, SqL.of e2⟩, Or.inr (Or.inr ⟨_, rfl, _, rfl, fun D hD => ?_⟩)⟩
    have dl : l ≠ D := ne_of_none e2 hD
    refine lcN0 (walk_str (z := tx g)) hD (fun i acc H' => Same H3 H' ∧ acc = (g.take i).map fun c => V.str (tx (t ++ [c])))
      (fun H4 s4 e4 => ⟨s4, rfl⟩) (fun _ _ _ _ _ => trivial) (fun i x acc H4 H5 hi hl pv eD y => ?_) (fun acc H4 hl pv eD => ?_)
    · obtain ⟨s4, rfl⟩ := pv
      obtain ⟨rfl, c, hc, rfl⟩ := y
      have hc := tx_at hc
      rw [tx_size] at hi
      refine ⟨rfl, ?_⟩
      refine ⟨_, rfl, ?_⟩; refine ⟨_, rfl, ?_⟩
      refine Or.inr (Or.inl ⟨_, _, rfl, rfl, ?_, ?_⟩)
      · rw [tx_len, tx_one, tx_len, sizeLine_eq]
        show t.length + 1 ≤ _
        omega
      rw [tx_one, tx_app]
      refine lcNext eD hl (by omega) fun H6 b6 e6 => ⟨same_chg s4 (Same.refl H3) hD b6, ?_⟩
      rw [take_snoc hc, List.map_append]
      rfl
    · obtain ⟨s4, rfl⟩ := pv
      rw [tx_size, List.take_length] at eD
      have ln : (longer g (ts.take j)).length + g.length ≤ 50000 := by
        rw [longer_len, List.length_take]
        have := Nat.mul_le_mul_right g.length (show min j ts.length + 1 ≤ ts.length by omega)
        rw [Nat.succ_mul] at this
        omega
      refine ⟨l, D, _, _, rfl, rfl, s4 _ _ e2, eD, by rw [List.length_map, List.length_map, sizeLine_eq]; omega, ?_⟩
      refine ⟨_, _, rfl, same_chg (s2.trans s4) (Same.refl H) n1 But.upd, ?_⟩
      rw [take_snoc et, longer_snoc, List.map_append, List.map_map]
      exact upd_same
  · obtain ⟨z3, z4, rfl, s2, e2⟩ := pv
    rw [List.length_map, List.take_length] at e2
    refine ⟨_, rfl, ?_⟩
    exact q l _ n1 s2 e2
end
end Kx

-- @zip2
namespace Kx
open PySem PySem.Spec PyProof.Rows L2 Fo
section
variable {P : Program} {w : World} {K : PySem.W.Frag} {mg : Str → Option Value} {base : Heap}
def sp_counted : Sp := fun vs H Q _ => ∃ (v : V) (l : Lot) (n : Nat), vs = [v, .int (n : Int)] ∧ Tv H v (dLot l) ∧ l.Ok ∧ l.states.length ≤ 1000 ∧ n ≤ 1000 ∧ ∀ H', Same H H' → Q (.int (l.many n)) H'
theorem ok_counted (T : Top K mg) : FnOk P w K mg base CX0 1 T.f__law_counted T.fd__law_counted ["lot", "length"] sp_counted := by
  refine T.F__law_counted.ok sc__law_counted (fun vs H Q E h => ?_) (fun cdv A outer s H vs Q E hr h => ?_)
  · obtain ⟨v, l, n, rfl, _⟩ := h
    rfl
  obtain ⟨v, l, n, rfl, hv, o, few, hn, q⟩ := h
  obtain ⟨a, ss, xs, rfl, ha, hss, hX⟩ := dLot_of hv
  have xl : xs.length = l.states.length := by rw [hX.len, List.length_map]
  refine ⟨_, (pss_cons (ps_set (i := 2) sc__law_counted.nd rfl (Or.inr rfl) (pe_op op_addG (pe_lstN (pa_cons pe_int pa_nil)) (pe_op op_mulN (pe_lstN (pa_cons pe_int pa_nil)) (pe_op op_sub (pe_callB (kLen K rfl) (by rfl) T.m_len PySem.boot_len (pa_cons (pe_ix (kIx K rfl) (pv 0) pe_int (fun _ _ => rfl)) pa_nil)) pe_int))))
    (pss_cons (ps_for PassesOwn.never rfl (pi_range1 rfl T.m_range (pa_cons (pv 1) pa_nil)) (pg_name (i := 3) sc__law_counted.nd rfl (Or.inl rfl)) (pss_cons (ps_set (i := 4) sc__law_counted.nd rfl (Or.inl rfl) (pe_op op_mulN (pe_lstN (pa_cons pe_int pa_nil)) (pe_callB (kLen K rfl) (by rfl) T.m_len PySem.boot_len (pa_cons (pv 2) pa_nil))))
    (pss_cons (ps_for PassesOwn.never rfl (pi_enumA K rfl (by rfl) T.m_enumerate (pa_cons (pe_ix (kIx K rfl) (pv 0) pe_int (fun _ _ => rfl)) pa_nil)) (kTg K rfl (n := 2) rfl (pgs_cons (pg_name (i := 5) sc__law_counted.nd rfl (Or.inl rfl)) (pgs_cons (pg_name (i := 6) sc__law_counted.nd rfl (Or.inl rfl)) pgs_nil))) (pss_one (ps_for PassesOwn.never rfl (kG K rfl (pe_ix (kIx K rfl) (pv 6) pe_int (fun _ _ => rfl))) (pg_name (i := 7) sc__law_counted.nd rfl (Or.inl rfl)) (pss_one (ps_if (pt_cmpR op_notN (pv 7) pe_non (nomark _)) (pss_one (ps_asg (pe_op op_addG (pe_ix (kIx K rfl) (pv 4) (pv 7) (fun _ _ => rfl)) (pe_ix (kIx K rfl) (pv 2) (pv 5) (fun _ _ => rfl))) (pg_sub (pv 4) (pv 7) set_listN))) pss_nil)))))
    (pss_one (ps_set (i := 2) sc__law_counted.nd rfl (Or.inr rfl) (pv 4))))))
    (pss_one (ps_ret (pe_callB (kSum K rfl rfl) (by rfl) T.m_sum (by decide +kernel) (pa_cons (pe_lc (own := [("k", 5), ("state", 6)]) rfl sc__law_counted.nd (pi_enumA K rfl (by rfl) T.m_enumerate (pa_cons (pe_ix (kIx K rfl) (pv 0) pe_int (fun _ _ => rfl)) pa_nil)) (blkOk_by (N := ["lot", "length", "counts", "turn", "after", "k", "state", "way"]) (sc := defScope s__law_counted) (by decide +kernel)) (fun _ _ _ _ _ => (kTg K rfl (n := 2) rfl (pgs_cons (pg_name (i := 5) sc__law_counted.nd rfl (Or.inl rfl)) (pgs_cons (pg_name (i := 6) sc__law_counted.nd rfl (Or.inl rfl)) pgs_nil)))) (fun _ _ _ _ _ => pts_one (pt_val (pe_ix (kIx K rfl) (pv 6) pe_int (fun _ _ => rfl)))) (fun _ _ _ _ _ => (pe_ix (kIx K rfl) (pv 2) (pv 5) (fun _ _ => rfl)))) pa_nil)))))), ?_⟩
  have ne := o.ne
  refine ⟨szS, fun p1 H1 n1 s1 e1 => ?_⟩
  refine ⟨szS, fun p2 H2 n2 s2 e2 => ?_⟩
  have s12 := s1.trans s2
  refine ⟨_, rfl, ?_⟩; refine Or.inr (Or.inl ⟨_, _, _, _, rfl, rfl, SqT.of (s12 _ _ ha), rfl, ?_⟩)
  refine ⟨_, _, rfl, .inr ⟨_, SqT.of (s12 _ _ hss), rfl⟩, ?_⟩
  refine ⟨_, _, rfl, rfl, ?_⟩
  refine Or.inr ⟨p2, xs.length - 1, _, rfl, (show V.int ((xs.length : Int) - 1) = V.int ((xs.length - 1 : Nat) : Int) by congr 1; omega), e2, by omega, (by show 1 * _ ≤ _; omega), fun p3 H3 n3 s3 e3 => ?_⟩
  rw [ints_rep] at e3
  refine Or.inr (Or.inr (Or.inl ⟨p1, p3, _, _, rfl, rfl, (s2.trans s3) _ _ e1, e3, (by rw [List.length_map, List.length_replicate, sizeLine_eq]; show 1 + _ ≤ _; omega), fun tl H4 n4 s4 e4 => ?_⟩))
  have s04 := (s12.trans s3).trans s4
  have e4 : H4 tl = some (.lst ((l.cnt 0).map V.int)) := by rw [e4, xl]; rfl
  refine ⟨_, rfl, ?_⟩
  refine ⟨(n : Int), rfl, by omega, by omega, ?_⟩
  rw [show (n : Int).toNat = n by omega]
  refine for_it walk_range (fun i σ H' => ∃ (tl : Addr) (y3 y5 y6 y7 y8 : Option V), σ = [some (.ref a), some (.int (n : Int)), some (.ref tl), y3, y5, y6, y7, y8] ∧ Same H H' ∧ H' tl = some (.lst ((l.cnt i).map V.int)))
    ⟨tl, none, none, none, none, none, rfl, s04, e4⟩ (fun _ _ _ _ _ => trivial) (fun i x' σ H5 H6 hi pv y => ?_) (fun σ H5 pv => ?_)
  · obtain ⟨tl, y3, y5, y6, y7, y8, rfl, s5, e5⟩ := pv
    obtain ⟨rfl, rfl⟩ := y
    have cl := Lot.cnt_len o i
    have cl2 : ((l.cnt i).map V.int).length = l.states.length := by rw [List.length_map, cl]
    refine ⟨szS, fun p5 H7 n7 s7 e7 => ?_⟩
    have s57 := s5.trans s7
    have e57 := s7 _ _ e5
    refine ⟨_, rfl, ?_⟩
    refine ⟨_, _, rfl, .inl ⟨_, SqL.of e57, rfl⟩, ?_⟩
    rw [cl2]
    refine Or.inr ⟨p5, l.states.length, _, rfl, rfl, e7, by omega, (by show 1 * _ ≤ _; omega), fun g H8 n8 s8 e8 => ?_⟩
    rw [ints_rep] at e8
    have s08 := s57.trans s8
    have n8' : H g = none := s57.free n8
    have e5' := s8 _ _ e57
    have tg : tl ≠ g := ne_of_none e57 n8
    refine ⟨_, rfl, ?_⟩; refine Or.inr (Or.inl ⟨_, _, _, _, rfl, rfl, SqT.of (s08 _ _ ha), rfl, ?_⟩)
    refine ⟨.t ss, xs, rfl, SqT.of (s08 _ _ hss), ?_⟩
    refine for_it (walk_each (k := .t ss) (xs := xs)) (fun j σ H' => ∃ (y3 y5 y6 y7 : Option V), σ = [some (.ref a), some (.int (n : Int)), some (.ref tl), y3, some (.ref g), y5, y6, y7] ∧ Same H H' ∧ H' tl = some (.lst ((l.cnt i).map V.int)) ∧
        H' g = some (.lst ((sweep ((l.cnt i).take j) (l.states.take j) (List.replicate l.states.length 0)).map V.int)))
      ⟨_, _, _, _, rfl, s08, e5', by rw [e8]; rfl⟩ (fun j σ H' _ pv => ?_) (fun j x σ H9 H10 hj pv y => ?_) (fun σ H9 pv => ?_)
    · obtain ⟨_, _, _, _, _, p2, p3, _⟩ := pv
      exact SqT.of (p2 _ _ hss)
    · obtain ⟨y3, y5, y6, y7, rfl, s9, e9, eg⟩ := pv
      obtain ⟨U, u, v, rfl, s10, eU, hu, hv'⟩ := y
      rw [xl] at hj
      have hu : some (V.int (j : Nat)) = some u := hu
      cases hu
      have hc : (l.cnt i)[j]? = some ((l.cnt i)[j]'(by omega)) := List.getElem?_eq_getElem (by omega)
      generalize (l.cnt i)[j]'(by omega) = cj at hc
      have hcv : ((l.cnt i).map V.int)[j]? = some (.int cj) := by rw [List.getElem?_map, hc]; rfl
      obtain ⟨x1, hx1, tx1⟩ := dLs_at (hX.mv (same_ts (s9.trans s10))) hj
      have hv' : xs[j]? = some v := hv'
      rw [hv'] at hx1
      cases hx1
      obtain ⟨b, ws, ys, rfl, hb, hws, hY⟩ := dLs_of tx1
      have yl : ys.length = (l.sta j).ways.length := by rw [hY.len, List.length_map]
      have eg10 := s10 _ _ eg
      have e910 := s10 _ _ e9
      have s010 := s9.trans s10
      have swl : (sweep ((l.cnt i).take j) (l.states.take j) (List.replicate l.states.length 0)).length = l.states.length := by rw [sweep_len, List.length_replicate]
      generalize hsw : sweep ((l.cnt i).take j) (l.states.take j) (List.replicate l.states.length 0) = sw at eg10 swl
      refine ⟨U, _, rfl, SqT.of eU, rfl, _, _, rfl, _, _, rfl, rfl, ?_⟩
      refine Or.inr (Or.inl ?_)
      refine ⟨_, rfl, ?_⟩; refine Or.inr (Or.inl ⟨_, _, _, _, rfl, rfl, SqT.of hb, rfl, ?_⟩)
      refine ⟨ws, rfl, ⟨ys, SqT.of hws⟩, for_it (walk_tup (xs := ys)) (fun m σ H' => ∃ (y3 y7 : Option V), σ = [some (.ref a), some (.int (n : Int)), some (.ref tl), y3, some (.ref g), some (.int (j : Nat)), some (.ref b), y7] ∧ Same H H' ∧ But g H10 H' ∧ H' g = some (.lst ((bumps cj ((l.sta j).ways.take m) sw).map V.int)))
        ⟨_, _, rfl, s010, But.refl _ _, eg10⟩ (fun m σ H' _ pv => ?_) (fun m x σ H11 H12 hm pv y => ?_) (fun σ H11 pv => ?_)⟩
      · obtain ⟨_, _, _, p2, p3, _⟩ := pv
        exact SqT.of (p3.ts eg10 _ _ hws)
      · obtain ⟨z3, z7, rfl, s11, b11, e11⟩ := pv
        obtain ⟨eH, hx⟩ := y
        subst eH
        have ew : (l.sta j).ways[m]? = some ((l.sta j).ways[m]'(by omega)) := List.getElem?_eq_getElem (by omega)
        generalize (l.sta j).ways[m]'(by omega) = wm at ew
        obtain ⟨x2, hx2, tx2⟩ := (hY.mv (b11.ts eg10)).get (d := dN wm) (by rw [List.getElem?_map, ew]; rfl)
        rw [hx] at hx2
        cases hx2
        refine ⟨_, rfl, ?_⟩
        refine ⟨rfl, _, rfl, ?_⟩
        cases wm with
        | none =>
          have e0 := tx2.nonI
          subst e0
          refine iteF ?_
          refine ⟨_, _, rfl, s11, b11, ?_⟩
          rw [take_snoc ew, bumps_snoc]
          exact e11
        | some k =>
          have e0 := tx2.intI
          subst e0
          have hk : k < sw.length := by rw [swl]; exact o.there _ (Lot.sta_mem hj) k (List.mem_of_getElem? ew)
          have hk2 : k < (bumps cj ((l.sta j).ways.take m) sw).length := by rw [bumps_len]; exact hk
          have hkv : ((bumps cj ((l.sta j).ways.take m) sw).map V.int)[k]? = some (.int ((bumps cj ((l.sta j).ways.take m) sw).getD k 0)) := by
            rw [List.getElem?_map, List.getD_eq_getElem?_getD, List.getElem?_eq_getElem hk2]
            rfl
          refine iteT ?_
          refine ⟨_, rfl, ?_⟩; refine ⟨_, rfl, ?_⟩; refine Or.inl ⟨_, _, _, _, rfl, rfl, SqL.of e11, (atI_nat hkv), ?_⟩
          refine ⟨_, rfl, ?_⟩; refine ⟨_, rfl, ?_⟩; refine Or.inl ⟨_, _, _, _, rfl, rfl, SqL.of (b11 _ _ tg e910), (atI_nat hcv), ?_⟩
          (first | refine Or.inl ⟨_, _, rfl, rfl, ?_⟩ | refine ⟨_, _, rfl, rfl, ?_⟩)
          refine ⟨_, rfl, ?_⟩; refine ⟨_, rfl, ?_⟩
          refine ⟨g, _, (k : Int), k, rfl, rfl, e11, (by rw [List.length_map]; have z := ixN_of (n := (bumps cj ((l.sta j).ways.take m) sw).length) (i := (k : Int)) (by omega) (by omega); rw [Int.toNat_natCast] at z; exact z), fun H13 b13 e13 => ?_⟩
          refine ⟨_, _, rfl, same_chg s11 (Same.refl H) n8' b13, b11.trans b13, ?_⟩
          rw [e13, take_snoc ew, bumps_snoc]
          show some (HO.lst ((List.map V.int _).set k (V.int _))) = some (HO.lst ((Fo.bump _ k cj).map V.int))
          unfold Fo.bump
          rw [List.map_set]
      · obtain ⟨z3, z7, rfl, s11, b11, e11⟩ := pv
        rw [yl, List.take_length] at e11
        refine ⟨_, _, _, _, rfl, s11, b11 _ _ tg e910, ?_⟩
        rw [e11, sweep_take _ _ _ j cj (l.sta j) hc (Lot.sta_at hj), hsw]
    · obtain ⟨y3, y5, y6, y7, rfl, s9, e9, eg⟩ := pv
      rw [xl, ← cl, List.take_length, cl, List.take_length] at eg
      refine ⟨_, rfl, ?_⟩
      exact ⟨g, _, _, _, _, _, rfl, s9, eg⟩
  · obtain ⟨tl, y3, y5, y6, y7, y8, rfl, s5, e5⟩ := pv
    have cl := Lot.cnt_len o n
    refine ⟨_, rfl, ?_⟩; refine Or.inr (Or.inl ⟨_, _, _, _, rfl, rfl, SqT.of (s5 _ _ ha), rfl, ?_⟩)
    refine ⟨.t ss, xs, rfl, SqT.of (s5 _ _ hss), fun D hD => ?_⟩
    refine lcN (walk_each (k := .t ss) (xs := xs)) hD (fun j acc H' => Same H5 H' ∧ acc = (total ((l.cnt n).take j) (l.states.take j)).map V.int)
      (fun H6 s6 e6 => ⟨s6, rfl⟩) (fun j acc H' _ pv => SqT.of ((s5.trans pv.1) _ _ hss)) (fun j x acc H6 H7 hj hl pv eD y => ?_) (fun acc H6 hl pv eD => ?_)
    · obtain ⟨s6, rfl⟩ := pv
      obtain ⟨U, u, v, rfl, s7, eU, hu, hv'⟩ := y
      rw [xl] at hj
      have hu : some (V.int (j : Nat)) = some u := hu
      cases hu
      have hc : (l.cnt n)[j]? = some ((l.cnt n)[j]'(by omega)) := List.getElem?_eq_getElem (by omega)
      generalize (l.cnt n)[j]'(by omega) = cj at hc
      have hcv : ((l.cnt n).map V.int)[j]? = some (.int cj) := by rw [List.getElem?_map, hc]; rfl
      have s57 := s6.trans s7
      obtain ⟨x1, hx1, tx1⟩ := dLs_at (hX.mv (same_ts (s5.trans s57))) hj
      have hv' : xs[j]? = some v := hv'
      rw [hv'] at hx1
      cases hx1
      obtain ⟨b, ws, ys, rfl, hb, hws, hY⟩ := dLs_of tx1
      have ts := total_snoc (l.cnt n) l.states j cj (l.sta j) hc (Lot.sta_at hj)
      refine ⟨U, _, rfl, SqT.of eU, rfl, _, _, rfl, _, _, rfl, rfl, rfl, ?_⟩
      refine ⟨_, rfl, ?_⟩; refine Or.inr (Or.inl ⟨_, _, _, _, rfl, rfl, SqT.of hb, rfl, ?_⟩)
      refine ⟨_, rfl, ?_⟩
      cases hg : (l.sta j).good with
      | true =>
        refine iteT ?_
        refine ⟨_, rfl, ?_⟩; refine ⟨_, rfl, ?_⟩; refine Or.inl ⟨_, _, _, _, rfl, rfl, SqL.of (s57 _ _ e5), (atI_nat hcv), ?_⟩
        refine lcNext (s7 _ _ eD) hl (by omega) fun H8 b8 e8 => ⟨same_chg s57 (Same.refl H5) hD b8, ?_⟩
        rw [ts, hg, List.map_append]
        rfl
      | false =>
        refine iteF ?_
        refine ⟨_, by omega, ⟨s57, ?_⟩, s7 _ _ eD⟩
        rw [ts, hg, if_neg Bool.false_ne_true, List.append_nil]
    · obtain ⟨s6, rfl⟩ := pv
      rw [xl, ← cl, List.take_length, cl, List.take_length] at eD
      exact ⟨D, _, rfl, SqL.of eD, q _ (s5.trans s6)⟩
end
end Kx

namespace Kx
open PySem PySem.Spec PyProof.Rows L2 Fo
section
variable {P : Program} {w : World} {K : PySem.W.Frag} {mg : Str → Option Value} {base : Heap}
def costL (R size : Nat) : Nat := 2 + size * (R * 3 + 1)
structure StOk (R N : Nat) (s : LSt) : Prop where
  len : s.ways.length = R
  way : ∀ n, some n ∈ s.ways → n < N
def sp_wide (K : PySem.W.Frag) : Sp := fun vs H Q _ => ∃ (p c : Addr) (n : Nat) (g : Cs) (size : Nat), vs = [.ref p, .str (tx g), .int size] ∧ Pen H p c (n + costL g.length size) ∧ g.length ≤ 1000 ∧ g.Nodup ∧ 1 ≤ size ∧ size ≤ 1000 ∧
  ∀ x H' (l : Lot), But p H H' → Pen H' p c n → Tv H' x (dLot l) → l.Ok → l.signs = g → l.states.length ≤ size → Q x H'
theorem ok_wide (T : Top K mg) : FnOk P w K mg base CX0 3 T.f__law_wide_lot T.fd__law_wide_lot ["pen", "signs", "size"] (sp_wide K) := by
  have G__law_take := ok_take (P := P) (w := w) (base := base) T
  refine T.F__law_wide_lot.ok sc__law_wide_lot (fun vs H Q E h => ?_) (fun cdv A outer s H vs Q E hr h => ?_)
  · obtain ⟨p, c, n, g, size, rfl, _⟩ := h
    rfl
  obtain ⟨p, c, n, g, size, rfl, hp, gl, gn, sz0, sz, q⟩ := h
  unfold costL at hp
  generalize hC : g.length * 3 + 1 = C at hp
  refine ⟨_, (pss_cons (ps_par (i := 3) (j := 4) rfl sc__law_wide_lot.nd rfl rfl (by decide) rfl rfl (pa_cons (pe_op op_addG pe_int (pe_call G__law_take (hr.mono (by first | decide | omega)) (by rfl) T.g__law_take T.F__law_take.kp T.b__law_take .nil pass0 (pa_cons (pv 0) (pa_cons (pv 2) pa_nil)))) (pa_cons (pe_call G__law_take (hr.mono (by first | decide | omega)) (by rfl) T.g__law_take T.F__law_take.kp T.b__law_take .nil pass0 (pa_cons (pv 0) (pa_cons pe_int pa_nil))) pa_nil)) rfl)
    (pss_cons (ps_set (i := 5) sc__law_wide_lot.nd rfl (Or.inl rfl) (pe_lstN pa_nil))
    (pss_cons (ps_for PassesOwn.never rfl (pi_range1 rfl T.m_range (pa_cons (pv 3) pa_nil)) (pg_name (i := 6) sc__law_wide_lot.nd rfl (Or.inl rfl)) (pss_cons (ps_set (i := 7) sc__law_wide_lot.nd rfl (Or.inl rfl) (pe_lstN pa_nil))
    (pss_cons (ps_for PassesOwn.never rfl (kG K rfl (pv 1)) (pg_name (i := 8) sc__law_wide_lot.nd rfl (Or.inl rfl)) (pss_cons (ps_set (i := 9) sc__law_wide_lot.nd rfl (Or.inl rfl) (pe_ix (kIx K rfl) (pe_lstN (pa_cons (pe_call G__law_take (hr.mono (by first | decide | omega)) (by rfl) T.g__law_take T.F__law_take.kp T.b__law_take .nil pass0 (pa_cons (pv 0) (pa_cons (pv 3) pa_nil))) (pa_cons (pe_callB (call_min2 rfl) (by rfl) T.m_min (by decide +kernel) (pa_cons (pe_op op_sub (pv 3) pe_int) (pa_cons (pe_op op_addG (pv 6) pe_int) pa_nil))) (pa_cons (pe_op op_addG (pe_op op_addG (pv 6) pe_int) (pe_call G__law_take (hr.mono (by first | decide | omega)) (by rfl) T.g__law_take T.F__law_take.kp T.b__law_take .nil pass0 (pa_cons (pv 0) (pa_cons (pe_op op_sub (pv 3) (pv 6)) pa_nil)))) pa_nil)))) (pv 4) (fun _ _ => rfl)))
    (pss_one (ps_expr (kBm K rfl (pe_bm PySem.F.plainAttrs_list PySem.F.slot_list_append PySem.F.type_list_append mt_appN (pv 7) (pa_cons (pe_ifExp (PW.pt (pw_or (pt_cmpR op_geG (pv 9) (pv 3) (nomark _)) (pw_or1 (pt_cmpR (kEq K rfl hr.units) (pe_call G__law_take (hr.mono (by first | decide | omega)) (by rfl) T.g__law_take T.F__law_take.kp T.b__law_take .nil pass0 (pa_cons (pv 0) (pa_cons pe_int pa_nil))) pe_int (nomark _))))) pe_non (pv 9)) pa_nil)))))))
    (pss_one (ps_expr (kBm K rfl (pe_bm PySem.F.plainAttrs_list PySem.F.slot_list_append PySem.F.type_list_append mt_appN (pv 5) (pa_cons (pe_tupN (pa_cons (pe_callTy (kTuple K rfl) (by rfl) T.m_tuple (by decide +kernel) (pa_cons (pv 7) pa_nil)) (pa_cons (pe_cmpR (kEq K rfl hr.units) (pe_call G__law_take (hr.mono (by first | decide | omega)) (by rfl) T.g__law_take T.F__law_take.kp T.b__law_take .nil pass0 (pa_cons (pv 0) (pa_cons pe_int pa_nil))) pe_int (nomark _)) pa_nil))) pa_nil))))))))
    (pss_one (ps_ret (pe_tupN (pa_cons (pv 1) (pa_cons (pe_callTy (kTuple K rfl) (by rfl) T.m_tuple (by decide +kernel) (pa_cons (pv 5) pa_nil)) pa_nil)))))))), ?_⟩
  refine ⟨_, rfl, ?_⟩; refine ⟨_, rfl, ?_⟩
  refine ⟨p, c, n + 1 + size * C, size, rfl, by rw [show n + 1 + size * C + 1 = n + (2 + size * C) by omega]; exact hp, by omega, by omega, fun H1 m b1 p1 m0 m1 => ?_⟩
  (first | refine Or.inl ⟨_, _, rfl, rfl, ?_⟩ | refine ⟨_, _, rfl, rfl, ?_⟩)
  refine ⟨_, rfl, ?_⟩
  refine ⟨p, c, n + size * C, 3, rfl, by rw [show n + size * C + 1 = n + 1 + size * C by omega]; exact p1, by omega, by omega, fun H2 so b2 p2 so0 so1 => ?_⟩
  have b02 := b1.trans b2
  obtain ⟨N, rfl⟩ : ∃ N : Nat, m = (N : Int) := ⟨m.toNat, by omega⟩
  have hNs : N + 1 ≤ size := by omega
  have p2' : Pen H2 p c (n + (N + 1) * C) := p2.less (Nat.add_le_add_left (Nat.mul_le_mul_right _ hNs) _)
  refine ⟨_, _, rfl, ?_⟩
  refine ⟨szS, fun l H3 n3 s3 e3 => ?_⟩
  have b03 := b02.trans (same_but p s3)
  have dl := p2.ne n3
  refine ⟨_, rfl, ?_⟩
  refine ⟨1 + (N : Int), rfl, by omega, by omega, ?_⟩
  rw [show (1 + (N : Int)).toNat = N + 1 by omega]
  refine for_it walk_range (fun k σ H' => ∃ (S : List LSt) (vs : List V) (y6 y7 y8 y9 : Option V), σ = [some (.ref p), some (.str (tx g)), some (.int size), some (.int (1 + (N : Int))), some (.int so), some (.ref l), y6, y7, y8, y9] ∧
    But p H H' ∧ Pen H' p c (n + (N + 1 - k) * C) ∧ H' l = some (.lst vs) ∧ TvA H' vs (S.map dLs) ∧ S.length = k ∧ ∀ s ∈ S, StOk g.length (N + 1) s)
    ⟨[], [], none, none, none, none, rfl, b03, p2'.same s3, e3, .nil, rfl, (fun _ h => nomatch h)⟩ (fun _ _ _ _ _ => trivial) (fun k x σ H4 H5 hk pv y => ?_) (fun σ H4 pv => ?_)
  · obtain ⟨S, vs, y6, y7, y8, y9, rfl, b4, p4, e4, t4, hS, vS⟩ := pv
    obtain ⟨rfl, rfl⟩ := y
    rw [succ_cost hk] at p4
    generalize hrest : n + (N + 1 - (k + 1)) * C = rest at p4
    rw [show n + ((N + 1 - (k + 1)) * C + C) = rest + C by omega] at p4
    refine ⟨szS, fun l2 H6 n6 s6 e6 => ?_⟩
    have dl2 := p4.ne n6
    have l12 : l ≠ l2 := ne_of_none e4 n6
    refine Or.inr (Or.inr ⟨_, rfl, _, rfl, ?_⟩)
    refine for_it (walk_str (z := tx g)) (fun j σ H' => ∃ (W : List (Option Nat)) (ws : List V) (y8 y9 : Option V), σ = [some (.ref p), some (.str (tx g)), some (.int size), some (.int (1 + (N : Int))), some (.int so), some (.ref l), some (.int (0 + (k : Int))), some (.ref l2), y8, y9] ∧
      But p H H' ∧ Pen H' p c (rest + 1 + (g.length - j) * 3) ∧ H' l = some (.lst vs) ∧ TvA H' vs (S.map dLs) ∧ H' l2 = some (.lst ws) ∧ TvA H' ws (W.map dN) ∧ W.length = j ∧ ∀ m, some m ∈ W → m < N + 1)
      ⟨[], [], y8, y9, rfl, b4.trans (same_but p s6), by rw [show rest + 1 + (g.length - 0) * 3 = rest + C by rw [Nat.sub_zero]; omega]; exact p4.same s6, s6 _ _ e4, t4.mv (same_ts s6), e6, .nil, rfl, (fun _ h => nomatch h)⟩ (fun _ _ _ _ _ => trivial) (fun j x σ H7 H8 hj pv y => ?_) (fun σ H7 pv => ?_)
    · obtain ⟨W, ws, y8, y9, rfl, b7, p7, e7, t7, f7, u7, hW, vW⟩ := pv
      obtain ⟨rfl, ch, hch, rfl⟩ := y
      rw [tx_size] at hj
      rw [succ_cost hj] at p7
      generalize hr2 : rest + 1 + (g.length - (j + 1)) * 3 = rest2 at p7
      rw [show rest + 1 + ((g.length - (j + 1)) * 3 + 3) = rest2 + 2 + 1 by omega] at p7
      refine ⟨_, rfl, ?_⟩; refine ⟨_, rfl, ?_⟩
      refine ⟨p, c, rest2 + 2, 1 + (N : Int), rfl, p7, by omega, by omega, fun H9 r b9 p9 r0 r1 => ?_⟩
      refine ⟨_, rfl, ?_⟩; (first | refine Or.inl ⟨_, _, rfl, rfl, ?_⟩ | refine ⟨_, _, rfl, rfl, ?_⟩); refine ⟨_, rfl, ?_⟩; (first | refine Or.inl ⟨_, _, rfl, rfl, ?_⟩ | refine ⟨_, _, rfl, rfl, ?_⟩)
      refine ⟨_, _, rfl, ?_⟩
      generalize hmn : (if (0 + (k : Int)) + 1 < 1 + (N : Int) - 1 then (0 + (k : Int)) + 1 else 1 + (N : Int) - 1) = mn
      have mn0 : 0 ≤ mn ∧ mn ≤ (N : Int) := by
        split at hmn <;> omega
      refine ⟨_, rfl, ?_⟩; (first | refine Or.inl ⟨_, _, rfl, rfl, ?_⟩ | refine ⟨_, _, rfl, rfl, ?_⟩); refine ⟨_, rfl, ?_⟩; refine ⟨_, rfl, ?_⟩; refine ⟨_, rfl, ?_⟩; (first | refine Or.inl ⟨_, _, rfl, rfl, ?_⟩ | refine ⟨_, _, rfl, rfl, ?_⟩)
      refine ⟨p, c, rest2 + 1, 1 + (N : Int) - (0 + (k : Int)), rfl, p9, by omega, by omega, fun Ha r3 ba pa r30 r31 => ?_⟩
      (first | refine Or.inl ⟨_, _, rfl, rfl, ?_⟩ | refine ⟨_, _, rfl, rfl, ?_⟩)
      have b0a := (b7.trans b9).trans ba
      have ta := (p7.ts b9).trans (p9.ts ba)
      refine ⟨szS, fun l3 Hb nb sb eb => ?_⟩
      have b0b := b0a.trans (same_but p sb)
      have tb := ta.trans (same_ts sb)
      have pb := pa.same sb
      have el := sb _ _ (ba _ _ (Ne.symm dl.1) (b9 _ _ (Ne.symm dl.1) e7))
      have fl := sb _ _ (ba _ _ (Ne.symm dl2.1) (b9 _ _ (Ne.symm dl2.1) f7))
      have tvs := t7.mv tb
      have uws := u7.mv tb
      refine ⟨_, rfl, ?_⟩
      obtain ⟨v, hv, mv⟩ := at_of (xs := [V.int r, V.int mn, V.int (0 + (k : Int) + 1 + r3)]) so0 so1
      refine Or.inl ⟨_, _, _, _, rfl, rfl, SqL.of eb, hv, ?_⟩
      have hth : ∃ th : Nat, v = .int (th : Int) := by
        simp at mv
        rcases mv with rfl | rfl | rfl
        · exact ⟨r.toNat, by congr 1; omega⟩
        · exact ⟨mn.toNat, by congr 1; omega⟩
        · exact ⟨(0 + (k : Int) + 1 + r3).toNat, by congr 1; omega⟩
      obtain ⟨th, rfl⟩ := hth
      clear mv hv
      refine ⟨_, rfl, .inl ⟨rfl, _, SqL.of fl⟩, ?_⟩
      have hwl := u7.len
      rw [List.length_map, hW] at hwl
      have fin : ∀ (Hx : Hp) (x : V) (d : Option Nat) (Qx : Hp → Prop), But p H Hx → Pen Hx p c rest2 → Hx l = some (.lst vs) → TvA Hx vs (S.map dLs) → Hx l2 = some (.lst ws) → TvA Hx ws (W.map dN) → Tv Hx x (dN d) → (∀ m, d = some m → m < N + 1) →
          (∀ H'' : Hp, (∃ (W : List (Option Nat)) (ws : List V), But p H H'' ∧ Pen H'' p c rest2 ∧ H'' l = some (.lst vs) ∧ TvA H'' vs (S.map dLs) ∧ H'' l2 = some (.lst ws) ∧ TvA H'' ws (W.map dN) ∧ W.length = j + 1 ∧ ∀ m, some m ∈ W → m < N + 1) → Qx H'') →
          rAppN (.ref l2) [x] Hx (fun _ H1 => Qx H1) := by
        intro Hx x d Qx bx px ex tx' fx ux tx0 hd hQ
        refine ⟨l2, _, _, rfl, rfl, fx, by rw [sizeLine_eq]; omega, fun Hd bd ed => hQ _ ⟨W ++ [d], _, bx.chg b4 n6 bd, px.chg dl2 bd, bd _ _ l12 ex, tx'.mv (bd.ts fx), ed, ?_, by rw [List.length_append, hW]; rfl, fun m hm => ?_⟩⟩
        · rw [List.map_append]
          exact (ux.mv (bd.ts fx)).snoc (tx0.mv (bd.ts fx))
        · rcases List.mem_append.mp hm with h | h
          · exact vW m h
          · exact hd m (List.mem_singleton.mp h).symm
      refine ⟨_, rfl, ?_⟩; refine ⟨_, rfl, ?_⟩; (first | refine Or.inl ⟨_, _, rfl, rfl, ?_⟩ | refine ⟨_, _, rfl, rfl, ?_⟩); refine ⟨_, rfl, ?_⟩
      refine ite2 (fun h1 => ?_) (fun h1 => ?_)
      · refine iteT ?_
        exact fin Hb .non none _ b0b (pb.less (by omega)) el tvs fl uws .non (fun _ h => nomatch h) (fun H'' z => let ⟨W, ws, r⟩ := z; ⟨W, ws, _, _, rfl, r⟩)
      · have h1 : ¬ (1 + (N : Int) ≤ (th : Int)) := fun z => h1 (decide_eq_true z)
        refine ⟨_, rfl, ?_⟩
        refine ⟨p, c, rest2, 4, rfl, pb, by omega, by omega, fun Hc r4 bc pc _ _ => ?_⟩
        have tc := pb.ts bc
        have fins := fun x d Qx => fin Hc x d Qx (b0b.trans bc) pc (bc _ _ (Ne.symm dl.1) el) (tvs.mv tc) (bc _ _ (Ne.symm dl2.1) fl) (uws.mv tc)
        refine Or.inl ⟨rfl, _, rfl, ?_⟩
        refine ite2 (fun _ => ?_) (fun _ => ?_)
        · exact fins .non none _ .non (fun _ h => nomatch h) (fun H'' z => let ⟨W, ws, r⟩ := z; ⟨W, ws, _, _, rfl, r⟩)
        · refine ⟨_, rfl, ?_⟩
          exact fins (.int th) (some th) _ (.int _) (fun m h => by cases h; omega) (fun H'' z => let ⟨W, ws, r⟩ := z; ⟨W, ws, _, _, rfl, r⟩)
    · obtain ⟨W, ws, y8, y9, rfl, b7, p7, e7, t7, f7, u7, hW, vW⟩ := pv
      rw [tx_size] at p7 hW
      rw [Nat.sub_self, Nat.zero_mul, Nat.add_zero] at p7
      refine ⟨_, rfl, .inl ⟨rfl, _, SqL.of e7⟩, ?_⟩
      refine ⟨_, rfl, ?_⟩
      refine ⟨_, _, rfl, .inl ⟨SqL.of f7, fun a Hc nc sc ec => ?_⟩⟩
      refine ⟨_, rfl, ?_⟩
      refine ⟨p, c, rest, 3, rfl, p7.same sc, by omega, by omega, fun Hb r bb pb r0 r1 => ?_⟩
      refine Or.inl ⟨rfl, szS, fun b Hd nd sd ed => ?_⟩
      have hvl := t7.len
      rw [List.length_map, hS] at hvl
      have t0c := same_ts sc
      have tcb := (p7.same sc).ts bb
      have tbd := same_ts sd
      have eld := sd _ _ (bb _ _ (Ne.symm dl.1) (sc _ _ e7))
      have b0d := ((b7.trans (same_but p sc)).trans bb).trans (same_but p sd)
      refine ⟨l, _, _, rfl, rfl, eld, by rw [sizeLine_eq]; omega, fun He be ee => ?_⟩
      have te : TS Hd He := be.ts eld
      have tall := ((t0c.trans tcb).trans tbd).trans te
      refine ⟨S ++ [⟨W, decide (V.int r = V.int 0)⟩], _, _, _, _, _, rfl, b0d.chg (b02.trans (But.refl p _)) n3 be, (pb.same sd).chg dl be, ee, ?_, by rw [List.length_append, hS]; rfl, fun s hs => ?_⟩
      · rw [List.map_append]
        exact (t7.mv tall).snoc (.tup (te _ _ ed) (.cons (.tup (te _ _ (tbd _ _ (tcb _ _ ec))) (u7.mv tall)) (.cons (.bl _) .nil)))
      · rcases List.mem_append.mp hs with h | h
        · exact vS s h
        · rw [List.mem_singleton.mp h]
          exact ⟨hW, vW⟩
  · obtain ⟨S, vs, y6, y7, y8, y9, rfl, b4, p4, e4, t4, hS, vS⟩ := pv
    refine ⟨_, rfl, ?_⟩; refine ⟨_, rfl, ?_⟩
    refine ⟨_, _, rfl, .inl ⟨SqL.of e4, fun a H5 n5 s5 e5 => ?_⟩⟩
    refine ⟨szS, fun b H6 n6 s6 e6 => ?_⟩
    have s56 := s5.trans s6
    have p4' : Pen H4 p c n := p4.less (by omega)
    refine q _ _ ⟨g, S⟩ (b4.trans (same_but p s56)) (p4'.same s56) ?_ ⟨by show 0 < S.length; omega, fun s hs => (vS s hs).len, fun s hs n hn => by show n < S.length; rw [hS]; exact (vS s hs).way n hn, gn⟩ rfl (by show S.length ≤ size; omega)
    exact .tup e6 (.cons (.str _) (.cons (.tup (s6 _ _ e5) (t4.mv (same_ts s56))) .nil))
end
end Kx

-- @zip2
namespace Kx
open PySem PySem.Spec PyProof.Rows L2 Fo
section
variable {P : Program} {w : World} {K : PySem.W.Frag} {mg : Str → Option Value} {base : Heap}
theorem nats_dp {H : Hp} : ∀ f : List Nat, DpAll K H (f.map fun s : Nat => V.int (s : Int)) (f.map fun s : Nat => PyData.int (s : Int))
  | [] => .nil
  | s :: f => .cons (.int _) (nats_dp f)
theorem nats_shape : ∀ f : List Nat, PyData.canLayAll0 (f.map fun s : Nat => PyData.int (s : Int)) = true ∧ PyData.depthAll (f.map fun s : Nat => PyData.int (s : Int)) = 0
  | [] => ⟨by simp [PyData.canLayAll0], by simp [PyData.depthAll]⟩
  | s :: f => by
    obtain ⟨a, b⟩ := nats_shape f
    refine ⟨?_, ?_⟩
    · rw [List.map_cons]
      simp only [PyData.canLayAll0, a, PyData.canLay0, Bool.and_self]
    · rw [List.map_cons]
      simp only [PyData.depthAll, b, PyData.depth, Nat.max_self]
theorem natl_shape (f : List Nat) : SeqAt.shaped (.list (f.map fun s : Nat => PyData.int (s : Int))) = true := by
  obtain ⟨a, b⟩ := nats_shape f
  unfold SeqAt.shaped
  simp only [PyData.canLay0, PyData.depth, a, b, Bool.true_and]
  decide
theorem nats_none (f : List Nat) : PyData.eqv (.list (f.map fun s : Nat => PyData.int (s : Int))) (.list []) = f.isEmpty := by
  cases f <;> simp [PyData.eqv, PyData.eqvAll]
def sp_walked (K : PySem.W.Frag) : Sp := fun vs H Q _ => ∃ (p c : Addr) (n : Nat) (v : V) (l : Lot), vs = [.ref p, v] ∧ Pen H p c (n + 13) ∧ Tv H v (dLot l) ∧ l.Ok ∧ l.signs.length ≤ 1000 ∧
  ∀ H' t, But p H H' → Pen H' p c n → t.length ≤ 12 → (∀ c ∈ t, c ∈ l.signs) → Q (.str (tx t)) H'
theorem ok_walked (T : Top K mg) : FnOk P w K mg base CX0 3 T.f__law_walked T.fd__law_walked ["pen", "lot"] (sp_walked K) := by
  have G__law_take := ok_take (P := P) (w := w) (base := base) T
  refine T.F__law_walked.ok sc__law_walked (fun vs H Q E h => ?_) (fun cdv A outer s H vs Q E hr h => ?_)
  · obtain ⟨p, c, n, v, l, rfl, _⟩ := h
    rfl
  obtain ⟨p, c, n, v, l, rfl, hp, hv, o, sl, q⟩ := h
  obtain ⟨a, ss, xs, rfl, ha, hss, hX⟩ := dLot_of hv
  have xl : xs.length = l.states.length := by rw [hX.len, List.length_map]
  refine ⟨_, (pss_cons (ps_asg (pe_tupN (pa_cons pe_int (pa_cons pe_str pa_nil))) (kTg K rfl (n := 2) rfl (pgs_cons (pg_name (i := 2) sc__law_walked.nd rfl (Or.inr rfl)) (pgs_cons (pg_name (i := 3) sc__law_walked.nd rfl (Or.inl rfl)) pgs_nil))))
    (pss_cons (ps_for PassesOwn.never rfl (pi_range1 rfl T.m_range (pa_cons (pe_call G__law_take (hr.mono (by first | decide | omega)) (by rfl) T.g__law_take T.F__law_take.kp T.b__law_take .nil pass0 (pa_cons (pv 0) (pa_cons pe_int pa_nil))) pa_nil)) (pg_name (i := 4) sc__law_walked.nd rfl (Or.inl rfl)) (pss_cons (ps_setLc (i := 6) (own := [("k", 5)]) rfl sc__law_walked.nd rfl rfl (sw_true rfl rfl rfl (by decide +kernel)) (pi_range1 rfl T.m_range (pa_cons (pe_callB (kLen K rfl) (by rfl) T.m_len PySem.boot_len (pa_cons (pe_ix (kIx K rfl) (pv 1) pe_int (fun _ _ => rfl)) pa_nil)) pa_nil)) (blkOk_by (N := ["pen", "lot", "state", "text", "turn", "k", "some"]) (sc := defScope s__law_walked) (by decide +kernel)) (fun _ _ _ _ _ => (pg_name (i := 5) sc__law_walked.nd rfl (Or.inl rfl))) (fun _ _ _ _ _ => pts_one (pt_cmpR op_notN (pe_ix (kIx K rfl) (pe_ix (kIx K rfl) (pe_ix (kIx K rfl) (pe_ix (kIx K rfl) (pv 1) pe_int (fun _ _ => rfl)) (pv 2) (fun _ _ => rfl)) pe_int (fun _ _ => rfl)) (pv 5) (fun _ _ => rfl)) pe_non (nomark _))) (fun _ _ _ _ _ => (pv 5)))
    (pss_one (ps_if (pt_cmpR (kNe K rfl hr.units) (pv 6) (pe_lstN pa_nil) (nomark _)) (pss_cons (ps_set (i := 5) sc__law_walked.nd rfl (Or.inl rfl) (pe_ix (kIx K rfl) (pv 6) (pe_call G__law_take (hr.mono (by first | decide | omega)) (by rfl) T.g__law_take T.F__law_take.kp T.b__law_take .nil pass0 (pa_cons (pv 0) (pa_cons (pe_callB (kLen K rfl) (by rfl) T.m_len PySem.boot_len (pa_cons (pv 6) pa_nil)) pa_nil))) (fun _ _ => rfl)))
    (pss_one (ps_asg (pe_tupN (pa_cons (pe_ix (kIx K rfl) (pe_ix (kIx K rfl) (pe_ix (kIx K rfl) (pe_ix (kIx K rfl) (pv 1) pe_int (fun _ _ => rfl)) (pv 2) (fun _ _ => rfl)) pe_int (fun _ _ => rfl)) (pv 5) (fun _ _ => rfl)) (pa_cons (pe_op op_addG (pv 3) (pe_ix (kIx K rfl) (pe_ix (kIx K rfl) (pv 1) pe_int (fun _ _ => rfl)) (pv 5) (fun _ _ => rfl))) pa_nil))) (kTg K rfl (n := 2) rfl (pgs_cons (pg_name (i := 2) sc__law_walked.nd rfl (Or.inr rfl)) (pgs_cons (pg_name (i := 3) sc__law_walked.nd rfl (Or.inl rfl)) pgs_nil)))))) pss_nil))))
    (pss_one (ps_ret (pv 3))))), ?_⟩
  have ne := o.ne
  refine ⟨szS, fun U1 H1 n1 s1 e1 => ?_⟩
  refine ⟨U1, _, rfl, SqT.of e1, rfl, _, _, rfl, _, _, rfl, rfl, ?_⟩
  refine ⟨_, rfl, ?_⟩
  refine ⟨p, c, n + 12, 13, rfl, hp.same s1, by omega, by omega, fun H2 m b2 p2 m0 m1 => ?_⟩
  have b02 := (same_but p s1).trans b2
  refine ⟨m, rfl, by omega, by omega, ?_⟩
  have t02 : TS H H2 := hp.ts b02
  refine for_it walk_range (fun i σ H' => ∃ (s : Nat) (t : Cs) (y4 y5 y6 : Option V), σ = [some (.ref p), some (.ref a), some (.int (s : Int)), some (.str (tx t)), y4, y5, y6] ∧ But p H H' ∧ Pen H' p c (n + (12 - i)) ∧ s < l.states.length ∧ t.length ≤ i ∧ ∀ c ∈ t, c ∈ l.signs)
    ⟨0, [], none, none, none, rfl, b02, p2.less (by omega), ne, Nat.le_refl _, (fun _ h => nomatch h)⟩ (fun _ _ _ _ _ => trivial) (fun i x' σ H5 H6 hi pv y => ?_) (fun σ H5 pv => ?_)
  · obtain ⟨s, t, y4, y5, y6, rfl, b5, p5, hs, tl, ts⟩ := pv
    obtain ⟨rfl, rfl⟩ := y
    have t5 := hp.ts b5
    have ha5 := t5 _ _ ha
    obtain ⟨x1, hx1, tx1⟩ := dLs_at (hX.mv t5) hs
    obtain ⟨b, ws, ys, rfl, hb, hws, hY⟩ := dLs_of tx1
    have yl : ys.length = l.signs.length := by rw [hY.len, List.length_map, o.ways _ (Lot.sta_mem hs)]
    have wl := o.ways _ (Lot.sta_mem hs)
    refine ⟨_, rfl, ?_⟩; refine Or.inr (Or.inl ⟨_, _, _, _, rfl, rfl, SqT.of ha5, rfl, ?_⟩)
    refine ⟨_, _, rfl, ⟨by rw [tx_len, sizeLine_eq]; omega, rfl⟩, ?_⟩
    rw [tx_len]
    refine ⟨(l.signs.length : Int), rfl, by omega, by omega, fun D hD => ?_⟩
    rw [show (l.signs.length : Int).toNat = l.signs.length by omega]
    have dD := p5.ne hD
    refine lcN walk_range hD (fun j acc H' => Same H6 H' ∧ ∃ ks : List Nat, acc = ks.map (fun k : Nat => V.int (k : Int)) ∧ ∀ k ∈ ks, k < l.signs.length ∧ ∃ z, (l.sta s).ways[k]? = some (some z))
      (fun H7 s7 e7 => ⟨s7, [], rfl, (fun _ h => nomatch h)⟩) (fun _ _ _ _ _ => trivial) (fun j x acc H7 H8 hj hl pv eD y => ?_) (fun acc H7 hl pv eD => ?_)
    · obtain ⟨s7, ks, rfl, hk⟩ := pv
      obtain ⟨rfl, rfl⟩ := y
      have ew : (l.sta s).ways[j]? = some ((l.sta s).ways[j]'(by omega)) := List.getElem?_eq_getElem (by omega)
      generalize (l.sta s).ways[j]'(by omega) = wj at ew
      obtain ⟨x2, hx2, tx2⟩ := (hY.mv (same_ts s7)).get (d := dN wj) (by rw [List.getElem?_map, ew]; rfl)
      refine ⟨rfl, ?_⟩
      refine ⟨_, rfl, ?_⟩; refine Or.inr (Or.inl ⟨_, _, _, _, rfl, rfl, SqT.of (s7 _ _ ha5), rfl, ?_⟩); refine ⟨_, rfl, ?_⟩; refine Or.inr (Or.inl ⟨_, _, _, _, rfl, rfl, SqT.of (s7 _ _ (t5 _ _ hss)), (atI_nat hx1), ?_⟩); refine Or.inr (Or.inl ⟨_, _, _, _, rfl, rfl, SqT.of (s7 _ _ hb), rfl, ?_⟩); refine ⟨_, rfl, ?_⟩; refine Or.inr (Or.inl ⟨_, _, _, _, rfl, rfl, SqT.of (s7 _ _ hws), (by rw [show (0 : Int) + (j : Int) = (j : Int) by omega]; exact atI_nat hx2), ?_⟩)
      refine ⟨rfl, _, rfl, ?_⟩
      cases wj with
      | none =>
        have e0 := tx2.nonI
        subst e0
        refine iteF ?_
        exact ⟨_, by omega, ⟨s7, ks, rfl, hk⟩, eD⟩
      | some z =>
        have e0 := tx2.intI
        subst e0
        refine iteT ?_
        refine ⟨_, rfl, ?_⟩
        refine lcNext eD hl (by omega) fun H9 b9 e9 => ⟨same_chg s7 (Same.refl H6) hD b9, ks ++ [j], ?_, fun k hk' => ?_⟩
        · rw [List.map_append]
          show _ ++ [V.int (0 + (j : Int))] = _ ++ [V.int (j : Int)]
          rw [Int.zero_add]
        · rcases List.mem_append.mp hk' with h | h
          · exact hk k h
          · rw [List.mem_singleton.mp h]
            exact ⟨hj, z, ew⟩
    · obtain ⟨s7, ks, rfl, hk⟩ := pv
      rw [List.length_map] at hl
      refine ⟨_, rfl, ?_⟩
      refine ⟨szS, fun E9 H8 n8 s8 e8 => ?_⟩
      have b8 := (b5.trans (same_but p s7)).trans (same_but p s8)
      have p8 := (p5.same s7).same s8
      have eD8 := s8 _ _ eD
      refine Or.inr ⟨_, _, .lst (SqL.of eD8) (nats_dp ks), .lst (SqL.of e8) .nil, natl_shape ks, by decide, ?_⟩
      rw [nats_none]
      refine ⟨_, rfl, ?_⟩
      cases ks with
      | nil =>
        refine iteF ?_
        exact ⟨s, t, _, _, _, rfl, b8, p8.less (by omega), hs, by omega, ts⟩
      | cons k0 ks =>
        refine iteT ?_
        generalize hks : k0 :: ks = kk at hk eD8
        have kl : 0 < kk.length := by rw [← hks]; exact Nat.succ_pos _
        have kl2 : kk.length ≤ l.signs.length := by rw [← hks]; exact hl
        have t8 := hp.ts b8
        refine ⟨_, rfl, ?_⟩; refine ⟨_, rfl, ?_⟩; refine ⟨_, rfl, ?_⟩
        refine ⟨_, _, rfl, .inl ⟨_, SqL.of eD8, rfl⟩, ?_⟩
        rw [List.length_map]
        refine ⟨p, c, n + (12 - (i + 1)), (kk.length : Int), rfl, by rw [show n + (12 - (i + 1)) + 1 = n + (12 - i) by omega]; exact p8, by omega, by omega, fun H9 r b9 p9 r0 r1 => ?_⟩
        have b09 := b8.trans b9
        have t9 := hp.ts b09
        obtain ⟨v, hkv, mv⟩ := at_of (xs := kk.map fun k : Nat => V.int (k : Int)) r0 (by rw [List.length_map]; exact r1)
        obtain ⟨k, mk, rfl⟩ := List.mem_map.mp mv
        refine Or.inl ⟨_, _, _, _, rfl, rfl, SqL.of (b9 _ _ (Ne.symm dD.1) eD8), hkv, ?_⟩
        obtain ⟨k1, z, ew⟩ := hk k mk
        obtain ⟨x1', hx1', tx1'⟩ := dLs_at (hX.mv t9) hs
        obtain ⟨b', ws', ys', rfl, hb', hws', hY'⟩ := dLs_of tx1'
        obtain ⟨x2, hx2, tx2⟩ := hY'.get (d := dN (some z)) (by rw [List.getElem?_map, ew]; rfl)
        have e0 := tx2.intI
        subst e0
        have ec : l.signs[k]? = some (l.signs[k]'k1) := List.getElem?_eq_getElem k1
        generalize l.signs[k]'k1 = ch at ec
        refine ⟨_, rfl, ?_⟩; refine Or.inr (Or.inl ⟨_, _, _, _, rfl, rfl, SqT.of (t9 _ _ ha), rfl, ?_⟩); refine ⟨_, rfl, ?_⟩; refine Or.inr (Or.inl ⟨_, _, _, _, rfl, rfl, SqT.of (t9 _ _ hss), (atI_nat hx1'), ?_⟩); refine Or.inr (Or.inl ⟨_, _, _, _, rfl, rfl, SqT.of hb', rfl, ?_⟩); refine ⟨_, rfl, ?_⟩; refine Or.inr (Or.inl ⟨_, _, _, _, rfl, rfl, SqT.of hws', (atI_nat hx2), ?_⟩)
        refine ⟨_, rfl, ?_⟩; refine ⟨_, rfl, ?_⟩; refine Or.inr (Or.inl ⟨_, _, _, _, rfl, rfl, SqT.of (t9 _ _ ha), rfl, ?_⟩); refine ⟨_, rfl, ?_⟩
        refine Or.inr (Or.inr ⟨_, _, _, rfl, rfl, (by rw [tx_len, sizeLine_eq]; omega), (atI_nat (by show (TL.tl (tx l.signs))[k]? = some ch; exact (congrArg (·[k]?) (tl_tx l.signs)).trans ec)), ?_⟩)
        refine Or.inr (Or.inl ⟨_, _, rfl, rfl, ?_, ?_⟩)
        · rw [tx_len, tx_one, tx_len, sizeLine_eq]
          show t.length + 1 ≤ _
          omega
        rw [tx_one, tx_app]
        refine ⟨szS, fun U Ha na sa ea => ?_⟩
        refine ⟨U, _, rfl, SqT.of ea, rfl, _, _, rfl, _, _, rfl, rfl, ?_⟩
        refine ⟨z, t ++ [ch], _, _, _, rfl, b09.trans (same_but p sa), p9.same sa, o.there _ (Lot.sta_mem hs) z (List.mem_of_getElem? ew), by rw [List.length_append]; show t.length + 1 ≤ i + 1; omega, fun x hx => ?_⟩
        rcases List.mem_append.mp hx with h | h
        · exact ts x h
        · rw [List.mem_singleton.mp h]
          exact List.mem_of_getElem? ec
  · obtain ⟨s, t, y4, y5, y6, rfl, b5, p5, hs, tl, ts⟩ := pv
    refine ⟨_, rfl, ?_⟩
    exact q _ t b5 (p5.less (by omega)) (by omega) ts
end
end Kx

-- @zip2
namespace Kx
open PySem PySem.Spec PyProof.Rows L2 Fo
section
variable {P : Program} {w : World} {K : PySem.W.Frag} {mg : Str → Option Value} {base : Heap}
theorem cutS_hi (l : Cs) (k : Nat) : cutS (tx l) none (some (k : Int)) = tx (l.take k) := by
  unfold cutS
  have el : (tx l).length = l.length := tx_len l
  rw [HT.sIx_none, HT.sIx_nat, List.drop_zero, Nat.sub_zero, el]
  show tx (l.take (min k l.length)) = tx (l.take k)
  by_cases h : k ≤ l.length
  · rw [Nat.min_eq_left h]
  · rw [Nat.min_eq_right (by omega)]
    rw [List.take_of_length_le (Nat.le_refl _), List.take_of_length_le (by omega)]
theorem cutS_lo (l : Cs) (k : Nat) : cutS (tx l) (some (k : Int)) none = tx (l.drop k) := by
  unfold cutS
  have el : (tx l).length = l.length := tx_len l
  rw [HT.sIx_none, HT.sIx_nat, el]
  show tx ((l.drop (min k l.length)).take (l.length - min k l.length)) = tx (l.drop k)
  rw [List.take_of_length_le (by rw [List.length_drop]; omega)]
  by_cases h : k ≤ l.length
  · rw [Nat.min_eq_left h]
  · rw [Nat.min_eq_right (by omega), List.drop_of_length_le (Nat.le_refl _), List.drop_of_length_le (by omega)]
def sp_right (K : PySem.W.Frag) : Sp := fun vs H Q _ => ∃ (p c : Addr) (n : Nat) (v : V) (l : Lot), vs = [.ref p, v] ∧ Pen H p c (n + 200) ∧ Tv H v (dLot l) ∧ l.Ok ∧ l.signs ≠ [] ∧ l.signs.length ≤ 1000 ∧
  ∀ H', But p H H' → Pen H' p c n → Q (.bl true) H'
theorem ok_right (T : Top K mg) : FnOk P w K mg base CX0 4 T.f__law_texts_right T.fd__law_texts_right ["pen", "lot"] (sp_right K) := by
  have G__law_take := ok_take (P := P) (w := w) (base := base) T
  have G__law_some_text := ok_text (P := P) (w := w) (base := base) T
  have G__law_some_signs := ok_signs (P := P) (w := w) (base := base) T
  have G__law_walked := ok_walked (P := P) (w := w) (base := base) T
  have G_is_word := ok_word (P := P) (w := w) (base := base) T
  have G__law_due := ok_ldue (P := P) (w := w) (base := base) T
  have G__law_same := ok_same (P := P) (w := w) (base := base) T 1
  refine T.F__law_texts_right.ok sc__law_texts_right (fun vs H Q E h => ?_) (fun cdv A outer s H vs Q E hr h => ?_)
  · obtain ⟨p, c, n, v, l, rfl, _⟩ := h
    rfl
  obtain ⟨p, c, n, v, l, rfl, hp, hv, o, sn, sl, q⟩ := h
  refine ⟨_, (pss_cons (ps_for PassesOwn.never rfl (pi_range1 rfl T.m_range (pa_cons pe_int pa_nil)) (pg_name (i := 2) sc__law_texts_right.nd rfl (Or.inl rfl)) (pss_cons (ps_set (i := 3) sc__law_texts_right.nd rfl (Or.inl rfl) (pe_ix (kIx K rfl) (pe_lstN (pa_cons (pe_call G__law_some_text (hr.mono (by first | decide | omega)) (by rfl) T.g__law_some_text T.F__law_some_text.kp T.b__law_some_text .nil pass0 (pa_cons (pv 0) (pa_cons (pe_ix (kIx K rfl) (pv 1) pe_int (fun _ _ => rfl)) (pa_cons pe_int pa_nil)))) (pa_cons (pe_call G__law_walked (hr.mono (by first | decide | omega)) (by rfl) T.g__law_walked T.F__law_walked.kp T.b__law_walked .nil pass0 (pa_cons (pv 0) (pa_cons (pv 1) pa_nil))) pa_nil))) (pe_call G__law_take (hr.mono (by first | decide | omega)) (by rfl) T.g__law_take T.F__law_take.kp T.b__law_take .nil pass0 (pa_cons (pv 0) (pa_cons pe_int pa_nil))) (fun _ _ => rfl)))
    (pss_cons (ps_if (pt_cmpR (kEq K rfl hr.units) (pe_call G__law_take (hr.mono (by first | decide | omega)) (by rfl) T.g__law_take T.F__law_take.kp T.b__law_take .nil pass0 (pa_cons (pv 0) (pa_cons pe_int pa_nil))) pe_int (nomark _)) (pss_cons (ps_set (i := 4) sc__law_texts_right.nd rfl (Or.inl rfl) (pe_call G__law_take (hr.mono (by first | decide | omega)) (by rfl) T.g__law_take T.F__law_take.kp T.b__law_take .nil pass0 (pa_cons (pv 0) (pa_cons (pe_op op_addG (pe_callB (kLen K rfl) (by rfl) T.m_len PySem.boot_len (pa_cons (pv 3) pa_nil)) pe_int) pa_nil))))
    (pss_one (ps_set (i := 3) sc__law_texts_right.nd rfl (Or.inl rfl) (pe_op op_addG (pe_op op_addG (pe_slice (kSl K rfl) (pv 3) po_none (po_some (pv 4))) (pe_call G__law_some_signs (hr.mono (by first | decide | omega)) (by rfl) T.g__law_some_signs T.F__law_some_signs.kp T.b__law_some_signs .nil pass0 (pa_cons (pv 0) (pa_cons pe_int pa_nil)))) (pe_slice (kSl K rfl) (pv 3) (po_some (pv 4)) po_none))))) pss_nil)
    (pss_one (ps_for PassesOwn.never rfl (pi_range1 rfl T.m_range (pa_cons pe_int pa_nil)) (pg_name (i := 5) sc__law_texts_right.nd rfl (Or.inl rfl)) (pss_one (ps_if (pt_not (pt_val (pe_call G__law_same (hr.mono (by first | decide | omega)) (by rfl) T.g__law_same T.F__law_same.kp T.b__law_same .nil pass0 (pa_cons (pe_call G_is_word (hr.mono (by first | decide | omega)) (by rfl) T.g_is_word T.F_is_word.kp T.b_is_word .nil pass0 (pa_cons (pv 1) (pa_cons (pv 3) pa_nil))) (pa_cons (pe_call G__law_due (hr.mono (by first | decide | omega)) (by rfl) T.g__law_due T.F__law_due.kp T.b__law_due .nil pass0 (pa_cons (pv 1) (pa_cons (pv 3) pa_nil))) pa_nil))))) (pss_one (ps_ret pe_bl)) pss_nil)))))))
    (pss_one (ps_ret pe_bl))), ?_⟩
  refine ⟨8, rfl, by decide, by decide, for_range (lo := 0) (n := 8) (fun i σ H' => ∃ y2 y3 y4 y5, σ = [some (.ref p), some v, y2, y3, y4, y5] ∧ But p H H' ∧ Pen H' p c (n + (8 - i) * 25))
    ⟨_, _, _, _, rfl, But.refl _ _, hp⟩ (fun i σ H2 hi pv => ?_) (fun σ H2 pv => ?_)⟩
  · obtain ⟨y2, y3, y4, y5, rfl, b2, p2⟩ := pv
    rw [succ_cost hi] at p2
    generalize hN : n + (8 - (i + 1)) * 25 = N at p2 ⊢
    rw [show n + ((8 - (i + 1)) * 25 + 25) = N + 25 by omega] at p2
    have t2 := hp.ts b2
    obtain ⟨a, ss, xs, rfl, ha, hss, hX⟩ := dLot_of (hv.mv t2)
    refine ⟨_, rfl, ?_⟩; refine ⟨_, rfl, ?_⟩; refine Or.inr (Or.inl ⟨_, _, _, _, rfl, rfl, SqT.of ha, rfl, ?_⟩)
    refine ⟨p, c, N + 18, l.signs, 6, rfl, p2, sn, sl, by decide, fun H3 t b3 p3 tl ts => ?_⟩
    have t3 := t2.trans (p2.ts b3)
    refine ⟨_, rfl, ?_⟩; refine ⟨_, rfl, ?_⟩
    refine ⟨p, c, N + 5, _, l, rfl, p3, hv.mv t3, o, sl, fun H4 t' b4 p4 tl' ts' => ?_⟩
    refine ⟨szS, fun l1 H5 n5 s5 e5 => ?_⟩
    have dl1 := p4.ne n5
    refine ⟨_, rfl, ?_⟩
    refine ⟨p, c, N + 4, 2, rfl, p4.same s5, by omega, by omega, fun H6 r b6 p6 r0 r1 => ?_⟩
    have b06 := ((((b2.trans b3).trans b4).trans (same_but p s5)).trans b6)
    obtain ⟨v', hv', mv⟩ := at_of (xs := [V.str (tx t), V.str (tx t')]) r0 r1
    obtain ⟨u, hu, rfl⟩ : ∃ u : Cs, u.length ≤ 12 ∧ v' = V.str (tx u) := by
      rcases List.mem_cons.mp mv with rfl | h
      · exact ⟨t, by omega, rfl⟩
      · rw [List.mem_singleton.mp h]
        exact ⟨t', tl', rfl⟩
    refine Or.inl ⟨_, _, _, _, rfl, rfl, SqL.of (b6 _ _ (Ne.symm dl1.1) e5), hv', ?_⟩
    refine ⟨_, rfl, ?_⟩
    refine ⟨p, c, N + 3, 4, rfl, p6, by omega, by omega, fun H7 r7 b7 p7 _ _ => ?_⟩
    have b07 := b06.trans b7
    refine Or.inl ⟨rfl, _, rfl, ?_⟩
    refine ite2 (fun _ => ?_) (fun _ => ?_)
    · refine ⟨_, rfl, ?_⟩; refine ⟨_, rfl, ?_⟩
      refine ⟨_, _, rfl, ⟨by rw [tx_len, sizeLine_eq]; omega, rfl⟩, ?_⟩
      (first | refine Or.inl ⟨_, _, rfl, rfl, ?_⟩ | refine ⟨_, _, rfl, rfl, ?_⟩)
      rw [tx_len]
      refine ⟨p, c, N + 2, (u.length : Int) + 1, rfl, p7, by omega, by omega, fun H8 at_ b8 p8 a0 a1 => ?_⟩
      obtain ⟨at_, rfl⟩ : ∃ k : Nat, at_ = (k : Int) := ⟨at_.toNat, by omega⟩
      have b08 := b07.trans b8
      refine ⟨_, rfl, ?_⟩; refine ⟨_, rfl, ?_⟩; refine ⟨_, rfl, ?_⟩
      refine Or.inr (Or.inr ⟨_, rfl, by rw [tx_len, sizeLine_eq]; omega, ?_⟩)
      rw [cutS_hi]
      refine ⟨_, rfl, ?_⟩
      refine ⟨p, c, N + 1, 1, rfl, p8, by decide, fun H9 sg b9 p9 Sg => ?_⟩
      have b09 := b08.trans b9
      have sgl := Sg.len
      refine Or.inr (Or.inl ⟨_, _, rfl, rfl, ?_, ?_⟩)
      · rw [tx_len, tx_len, List.length_take, sizeLine_eq]
        omega
      rw [tx_app]
      refine ⟨_, rfl, ?_⟩; refine ⟨_, rfl, ?_⟩; refine ⟨_, rfl, ?_⟩
      refine Or.inr (Or.inr ⟨_, rfl, by rw [tx_len, sizeLine_eq]; omega, ?_⟩)
      rw [cutS_lo]
      refine Or.inr (Or.inl ⟨_, _, rfl, rfl, ?_, ?_⟩)
      · rw [tx_len, tx_len, List.length_append, List.length_take, List.length_drop, sizeLine_eq]
        omega
      rw [tx_app]
      refine ⟨2, rfl, by decide, by decide, for_range (lo := 0) (n := 2) (fun j σ H' => ∃ y5, σ = [some (.ref p), some (.ref a), some (.int (0 + (i : Int))), some (.str (tx (u.take at_ ++ sg ++ u.drop at_))), some (.int (at_ : Int)), y5] ∧ Same H9 H')
        ⟨_, rfl, Same.refl _⟩ (fun j σ H' hj pv => ?_) (fun σ H' pv => ?_)⟩
      · obtain ⟨y5, rfl, s9⟩ := pv
        have tv9 := (hv.mv (hp.ts b09)).mv (same_ts s9)
        refine ⟨_, rfl, ?_⟩; refine ⟨_, rfl, ?_⟩
        refine ⟨_, l, u.take at_ ++ sg ++ u.drop at_, rfl, tv9, o, fun Hy sy => ?_⟩
        refine ⟨_, rfl, ?_⟩; refine ⟨_, rfl, ?_⟩
        refine ⟨_, l, u.take at_ ++ sg ++ u.drop at_, rfl, tv9.mv (same_ts sy), o, ?_⟩
        refine ⟨_, _, .bool (l.word (u.take at_ ++ sg ++ u.drop at_)), rfl, .bl _, .bl _, trivial, fun Hz sz => ?_⟩
        refine ⟨_, rfl, iteF ?_⟩
        exact ⟨_, rfl, (s9.trans sy).trans sz⟩
      · obtain ⟨y5, rfl, s9⟩ := pv
        exact ⟨_, _, _, _, rfl, b09.trans (same_but p s9), (p9.same s9).less (by omega)⟩
    · refine ⟨2, rfl, by decide, by decide, for_range (lo := 0) (n := 2) (fun j σ H' => ∃ y5, σ = [some (.ref p), some (.ref a), some (.int (0 + (i : Int))), some (.str (tx (u))), y4, y5] ∧ Same H7 H')
        ⟨_, rfl, Same.refl _⟩ (fun j σ H' hj pv => ?_) (fun σ H' pv => ?_)⟩
      · obtain ⟨y5, rfl, s9⟩ := pv
        have tv9 := (hv.mv (hp.ts b07)).mv (same_ts s9)
        refine ⟨_, rfl, ?_⟩; refine ⟨_, rfl, ?_⟩
        refine ⟨_, l, u, rfl, tv9, o, fun Hy sy => ?_⟩
        refine ⟨_, rfl, ?_⟩; refine ⟨_, rfl, ?_⟩
        refine ⟨_, l, u, rfl, tv9.mv (same_ts sy), o, ?_⟩
        refine ⟨_, _, .bool (l.word (u)), rfl, .bl _, .bl _, trivial, fun Hz sz => ?_⟩
        refine ⟨_, rfl, iteF ?_⟩
        exact ⟨_, rfl, (s9.trans sy).trans sz⟩
      · obtain ⟨y5, rfl, s9⟩ := pv
        exact ⟨_, _, _, _, rfl, b07.trans (same_but p s9), (p7.same s9).less (by omega)⟩
  · obtain ⟨y2, y3, y4, y5, rfl, b2, p2⟩ := pv
    exact q _ b2 (p2.less (by omega))
end
end Kx

namespace Fo
open PySem PySem.Spec PyProof.Rows L2 TL
/-! ### rows of readers -/
theorem StaVal.mono {R N B E B' E' : Nat} {T : Cs} {s : Sta} (v : StaVal R N B E T s) (hB : B ≤ B') (hE : E ≤ E') : StaVal R N B' E' T s :=
  ⟨v.len, fun w hw => let z := v.way w hw; ⟨z.1, Nat.le_trans z.2.1 hB, z.2.2⟩, fun t ht => let z := v.fin t ht; ⟨Nat.le_trans z.1 hE, z.2⟩⟩
theorem Rdr.Val.mono {r : Rdr} {B E B' E' : Nat} (v : r.Val B E) (hB : B ≤ B') (hE : E ≤ E') : r.Val B' E' :=
  ⟨v.ne, fun s hs => (v.sta s hs).mono hB hE⟩
/-- what a reader tells by its ways is of the signs told -/
theorem Rdr.Val.told {r : Rdr} {B E : Nat} (v : r.Val B E) : ∀ (l : Cs) (s : Nat), s < r.states.length → (∀ c ∈ l, c ∈ r.reads) → ∀ c ∈ (r.run s l).2, c ∈ r.tells
  | [], s, _, _, c, hc => nomatch hc
  | a :: l, s, h, hl, c, hc => by
    have o := v.ok (M := max B E) (Nat.le_max_left _ _) (Nat.le_max_right _ _)
    have g := Rdr.go_ok o h (hl a (List.mem_cons_self ..))
    rcases List.mem_append.mp (show c ∈ (r.go s a).2 ++ (r.run (r.go s a).1 l).2 from hc) with h1 | h1
    · exact ((v.sta _ (Rdr.sta_mem h)).way _ (List.mem_of_getElem? (Rdr.go_at o h (hl a (List.mem_cons_self ..))))).2.2 c h1
    · exact Rdr.Val.told v l _ g.1 (fun x hx => hl x (List.mem_cons_of_mem _ hx)) c h1
def dRow (rs : List Rdr) : PyData := .tuple (rs.map dR)
def dSeats (ss : List Nat) : PyData := .tuple (ss.map fun s : Nat => PyData.int (s : Int))
/-- a row as the document has it, three readers at most, texts told at most 3 -/
structure Row (rs : List Rdr) : Prop where
  ne : 0 < rs.length
  few : rs.length ≤ 3
  val : ∀ r ∈ rs, r.Val 3 3
  link : ∀ i a b, rs[i]? = some a → rs[i + 1]? = some b → ∀ c ∈ a.tells, c ∈ b.reads
def rowOn : List Rdr → List Nat → Cs → List Nat × Cs
  | r :: rs, s :: ss, l => ((r.run s l).1 :: (rowOn rs ss (r.run s l).2).1, (rowOn rs ss (r.run s l).2).2)
  | _, _, l => ([], l)
def rowEnd : List Rdr → List Nat → Cs → Option Cs
  | r :: rs, s :: ss, l => match (r.sta (r.run s l).1).fin with
    | none => none
    | some t => rowEnd rs ss ((r.run s l).2 ++ t)
  | _, _, l => some l
theorem rowOn_snoc : ∀ (rs : List Rdr) (ss : List Nat) (i : Nat) (l : Cs) (r : Rdr) (s : Nat), rs[i]? = some r → ss[i]? = some s →
    rowOn (rs.take (i + 1)) (ss.take (i + 1)) l = ((rowOn (rs.take i) (ss.take i) l).1 ++ [(r.run s (rowOn (rs.take i) (ss.take i) l).2).1], (r.run s (rowOn (rs.take i) (ss.take i) l).2).2)
  | [], ss, i, l, r, s, h, _ => by simp at h
  | a :: rs, [], i, l, r, s, _, h => by simp at h
  | a :: rs, b :: ss, 0, l, r, s, h1, h2 => by
    have e1 : a = r := by simpa using h1
    have e2 : b = s := by simpa using h2
    subst e1 e2
    rfl
  | a :: rs, b :: ss, i + 1, l, r, s, h1, h2 => by
    have ih := rowOn_snoc rs ss i (a.run b l).2 r s (by simpa using h1) (by simpa using h2)
    show ((a.run b l).1 :: (rowOn (rs.take (i + 1)) (ss.take (i + 1)) (a.run b l).2).1, (rowOn (rs.take (i + 1)) (ss.take (i + 1)) (a.run b l).2).2) = _
    rw [ih]
    rfl
theorem rowOn_len : ∀ (rs : List Rdr) (ss : List Nat) (l : Cs), rs.length = ss.length → (rowOn rs ss l).1.length = rs.length
  | [], ss, l, h => by cases ss <;> rfl
  | a :: rs, [], l, h => by simp at h
  | a :: rs, b :: ss, l, h => by
    show (_ :: (rowOn rs ss (a.run b l).2).1).length = _
    rw [List.length_cons, rowOn_len rs ss _ (by simpa using h), List.length_cons]
theorem rowEnd_step {rs : List Rdr} {ss : List Nat} {i : Nat} {r : Rdr} {s : Nat} (l : Cs) (h1 : rs[i]? = some r) (h2 : ss[i]? = some s) :
    rowEnd (rs.drop i) (ss.drop i) l = match (r.sta (r.run s l).1).fin with
      | none => none
      | some t => rowEnd (rs.drop (i + 1)) (ss.drop (i + 1)) ((r.run s l).2 ++ t) := by
  obtain ⟨l1, e1⟩ := List.getElem?_eq_some_iff.mp h1
  obtain ⟨l2, e2⟩ := List.getElem?_eq_some_iff.mp h2
  rw [List.drop_eq_getElem_cons l1, List.drop_eq_getElem_cons l2, e1, e2]
  rfl
/-- read in two, the ends behind -/
theorem rowEnd_app : ∀ (rs : List Rdr) (ss : List Nat) (l x : Cs), rs.length = ss.length → rowEnd rs ss (l ++ x) = (rowEnd rs (rowOn rs ss l).1 x).map ((rowOn rs ss l).2 ++ ·)
  | [], ss, l, x, h => by cases ss <;> rfl
  | a :: rs, [], l, x, h => by simp at h
  | a :: rs, b :: ss, l, x, h => by
    show (match (a.sta (a.run b (l ++ x)).1).fin with | none => none | some t => rowEnd rs ss ((a.run b (l ++ x)).2 ++ t)) =
      (match (a.sta (a.run (a.run b l).1 x).1).fin with | none => none | some t => rowEnd rs (rowOn rs ss (a.run b l).2).1 ((a.run (a.run b l).1 x).2 ++ t)).map ((rowOn rs ss (a.run b l).2).2 ++ ·)
    rw [Rdr.run_app]
    dsimp only
    cases (a.sta (a.run (a.run b l).1 x).1).fin with
    | none => rfl
    | some t =>
      dsimp only
      rw [List.append_assoc]
      exact rowEnd_app rs ss (a.run b l).2 ((a.run (a.run b l).1 x).2 ++ t) (by simpa using h)
/-- seats of a row -/
structure Seats (rs : List Rdr) (ss : List Nat) : Prop where
  len : ss.length = rs.length
  at_ : ∀ (i : Nat) (r : Rdr) (s : Nat), rs[i]? = some r → ss[i]? = some s → s < r.states.length
/-- the text ahead of the i-th reader -/
structure Tx (rs : List Rdr) (i L : Nat) (t : Cs) : Prop where
  sub : ∀ r, rs[i]? = some r → ∀ c ∈ t, c ∈ r.reads
  len : t.length + 2 ≤ 3 ^ i * (L + 2)
theorem pow3 {i : Nat} (h : i ≤ 3) : 3 ^ i ≤ 27 := by
  have : ∀ i < 4, 3 ^ i ≤ 27 := by decide
  exact this i (by omega)
theorem Tx.next {rs : List Rdr} {i L : Nat} {t u : Cs} {r : Rdr} (R : Row rs) (h : Tx rs i L t) (hr : rs[i]? = some r) (hu : u.length ≤ t.length * 3 + 3) (hs : ∀ c ∈ u, c ∈ r.tells) : Tx rs (i + 1) L u := by
  refine ⟨fun r' hr' c hc => R.link i r r' hr hr' c (hs c hc), ?_⟩
  have := h.len
  rw [Nat.pow_succ, Nat.mul_comm (3 ^ i) 3, Nat.mul_assoc]
  omega
theorem Tx.few {rs : List Rdr} {i L : Nat} {t : Cs} (h : Tx rs i L t) (hi : i ≤ 3) (hL : L ≤ 1000) : t.length ≤ 28000 := by
  have h1 := h.len
  have h2 : 3 ^ i * (L + 2) ≤ 27 * 1002 := Nat.mul_le_mul (pow3 hi) (by omega)
  omega
/-- the text behind the i-th reader, its end or none put behind -/
theorem Tx.on {rs : List Rdr} {i L : Nat} {t : Cs} {r : Rdr} {s : Nat} (R : Row rs) (h : Tx rs i L t) (hr : rs[i]? = some r) (hs : s < r.states.length) : Tx rs (i + 1) L (r.run s t).2 := by
  have v := R.val r (List.mem_of_getElem? hr)
  have z := Rdr.run_ok (v.ok (M := 3) (by decide) (by decide)) t s hs (h.sub r hr)
  exact h.next R hr (by omega) (v.told t s hs (h.sub r hr))
theorem Tx.fin {rs : List Rdr} {i L : Nat} {t u : Cs} {r : Rdr} {s : Nat} (R : Row rs) (h : Tx rs i L t) (hr : rs[i]? = some r) (hs : s < r.states.length) (hu : (r.sta (r.run s t).1).fin = some u) : Tx rs (i + 1) L ((r.run s t).2 ++ u) := by
  have v := R.val r (List.mem_of_getElem? hr)
  have z := Rdr.run_ok (v.ok (M := 3) (by decide) (by decide)) t s hs (h.sub r hr)
  have f := (v.sta _ (Rdr.sta_mem z.1)).fin u hu
  refine h.next R hr (by rw [List.length_append]; omega) (fun c hc => ?_)
  rcases List.mem_append.mp hc with h1 | h1
  · exact v.told t s hs (h.sub r hr) c h1
  · exact f.2 c h1
theorem Tx.nil {rs : List Rdr} {L : Nat} : Tx rs 0 L [] := ⟨(fun _ _ _ h => nomatch h), by show 0 + 2 ≤ 1 * (L + 2); omega⟩
/-- the seats behind a text -/
theorem rowOn_seats {rs : List Rdr} {ss : List Nat} {l : Cs} {L : Nat} (R : Row rs) (S : Seats rs ss) (T : Tx rs 0 L l) : ∀ i, i ≤ rs.length →
    (rowOn (rs.take i) (ss.take i) l).1.length = i ∧ (∀ (j : Nat) (r : Rdr) (s : Nat), j < i → rs[j]? = some r → (rowOn (rs.take i) (ss.take i) l).1[j]? = some s → s < r.states.length) ∧ Tx rs i L (rowOn (rs.take i) (ss.take i) l).2
  | 0, _ => ⟨rfl, (fun _ _ _ h => absurd h (Nat.not_lt_zero _)), T⟩
  | i + 1, hi => by
    obtain ⟨h1, h2, h3⟩ := rowOn_seats R S T i (by omega)
    have er : rs[i]? = some (rs[i]'(by omega)) := List.getElem?_eq_getElem (by omega)
    have es : ss[i]? = some (ss[i]'(by rw [S.len]; omega)) := List.getElem?_eq_getElem (by rw [S.len]; omega)
    have hs := S.at_ i _ _ er es
    rw [rowOn_snoc rs ss i l _ _ er es]
    have v := R.val _ (List.mem_of_getElem? er)
    have z := Rdr.run_ok (v.ok (M := 3) (by decide) (by decide)) _ _ hs (h3.sub _ er)
    refine ⟨by rw [List.length_append, h1]; rfl, fun j r s hj hr hs' => ?_, h3.on R er hs⟩
    by_cases hji : j < i
    · refine h2 j r s hji hr ?_
      rw [← hs']
      exact (List.getElem?_append_left (by omega)).symm
    · have ej : j = i := by omega
      subst ej
      rw [er] at hr
      cases hr
      rw [List.getElem?_append_right (by omega), h1, Nat.sub_self] at hs'
      cases hs'
      exact z.1
theorem Seats.on {rs : List Rdr} {ss : List Nat} {l : Cs} {L : Nat} (R : Row rs) (S : Seats rs ss) (T : Tx rs 0 L l) : Seats rs (rowOn rs ss l).1 ∧ Tx rs rs.length L (rowOn rs ss l).2 := by
  obtain ⟨h1, h2, h3⟩ := rowOn_seats R S T rs.length (Nat.le_refl _)
  have e1 : rs.take rs.length = rs := List.take_length
  have e2 : ss.take rs.length = ss := by rw [← S.len]; exact List.take_length
  rw [e1, e2] at h1 h2 h3
  exact ⟨⟨h1, fun i r s hr hs => h2 i r s (List.getElem?_eq_some_iff.mp hr).1 hr hs⟩, h3⟩
theorem Seats.zero {rs : List Rdr} (R : Row rs) : Seats rs (List.replicate rs.length 0) := by
  refine ⟨List.length_replicate, fun i r s hr hs => ?_⟩
  rw [List.getElem?_replicate] at hs
  split at hs
  · cases hs
    exact (R.val r (List.mem_of_getElem? hr)).ne
  · cases hs
/-- what is told at the end is short -/
theorem rowEnd_drop {rs : List Rdr} {ss : List Nat} (R : Row rs) (S : Seats rs ss) : ∀ (m i : Nat) (t u : Cs) (L : Nat), rs.length - i = m → i ≤ rs.length → Tx rs i L t → L ≤ 1000 → rowEnd (rs.drop i) (ss.drop i) t = some u → u.length ≤ 28000
  | 0, i, t, u, L, hm, hi, T, hL, h => by
    have e : i = rs.length := by omega
    subst e
    rw [List.drop_length, ← S.len, List.drop_length] at h
    cases h
    exact T.few R.few hL
  | m + 1, i, t, u, L, hm, hi, T, hL, h => by
    have hi' : i < rs.length := by omega
    have er : rs[i]? = some (rs[i]'hi') := List.getElem?_eq_getElem hi'
    have es : ss[i]? = some (ss[i]'(by rw [S.len]; exact hi')) := List.getElem?_eq_getElem (by rw [S.len]; exact hi')
    rw [rowEnd_step t er es] at h
    cases hf : ((rs[i]'hi').sta ((rs[i]'hi').run (ss[i]'(by rw [S.len]; exact hi')) t).1).fin with
    | none => rw [hf] at h; cases h
    | some v =>
      rw [hf] at h
      exact rowEnd_drop R S m (i + 1) _ u L (by omega) (by omega) (T.fin R er (S.at_ i _ _ er es) hf) hL h
theorem rowEnd_few {rs : List Rdr} {ss : List Nat} {u : Cs} (R : Row rs) (S : Seats rs ss) (h : rowEnd rs ss [] = some u) : u.length ≤ 28000 :=
  rowEnd_drop R S rs.length 0 [] u 0 (by omega) (Nat.zero_le _) Tx.nil (by decide) h
theorem Tv.dRow {H : Hp} {v : V} {rs : List Rdr} (h : Tv H v (dRow rs)) : ∃ a xs, v = .ref a ∧ H a = some (.tup xs) ∧ TvA H xs (rs.map Fo.dR) := h.tupI
theorem dR_at {H : Hp} {xs : List V} {rs : List Rdr} {i : Nat} {r : Rdr} (h : TvA H xs (rs.map Fo.dR)) (hr : rs[i]? = some r) : ∃ x, xs[i]? = some x ∧ Tv H x (Fo.dR r) :=
  h.get (by rw [List.getElem?_map, hr]; rfl)
theorem seats_ints {H : Hp} : ∀ {ss : List Nat} {ys : List V}, TvA H ys (ss.map fun s : Nat => PyData.int (s : Int)) → ys = ss.map fun s : Nat => V.int (s : Int)
  | [], _, h => h.nilI
  | s :: ss, _, h => by
    obtain ⟨x, r, rfl, h1, h2⟩ := h.consI
    cases h1.intI
    rw [List.map_cons, ← seats_ints h2]
theorem ints_seats {H : Hp} : ∀ (ss : List Nat), TvA H (ss.map fun s : Nat => V.int (s : Int)) (ss.map fun s : Nat => PyData.int (s : Int))
  | [] => .nil
  | s :: ss => .cons (.int _) (ints_seats ss)
theorem Tv.mkSeats {H : Hp} {a : Addr} {ss : List Nat} (h : H a = some (.tup (ss.map fun s : Nat => V.int (s : Int)))) : Tv H (.ref a) (Fo.dSeats ss) := .tup h (ints_seats ss)
/-- (states, told) -/
def dOn (q : List Nat × Cs) : PyData := .tuple [Fo.dSeats q.1, .str (tx q.2)]
end Fo

-- @zip2
namespace Kx
open PySem PySem.Spec PyProof.Rows L2 Fo
section
variable {P : Program} {w : World} {K : PySem.W.Frag} {mg : Str → Option Value} {base : Heap}
theorem rpBl {b : Bool} {k M : Nat} : RP (.bool b) k M := ⟨by simp [PyData.canLay0], by simp [PyData.depth], by simp [PyData.weight], by simp [PyData.intsShort], by simp [PyData.showable]⟩
theorem rpLot {l : Lot} (o : l.Ok) (hg : l.signs.length ≤ 20) (hc : ∀ c ∈ l.signs, c < 127) (hs : l.states.length ≤ 20) : RP (dLot l) 60 1000000 := by
  have w1 : ∀ s ∈ l.states, RP (dLs s) 2 5000 := fun s h => by
    have z := o.ways s h
    refine (RP.tup (k := 1) (M := 2000) (mem2 ((RP.tupM (k := 0) (M := 64) (fun w hw => ?_)).mono (Nat.le_refl _) (by omega)) rpBl)).mono (Nat.le_refl _) (by show 2 * (2000 + 1) ≤ 5000; decide)
    cases w with
    | none => exact .none
    | some n => exact RP.nat (by have := o.there s h n hw; omega)
  have w3 := (RP.tupM w1).mono (k' := 3) (M' := 110000) (Nat.le_refl _) (by omega)
  exact (RP.tup (k := 3) (M := 110000) (mem2 (.str (fun c h => Nat.lt_trans (hc c h) (by decide)) (by omega)) w3)).mono (by decide) (by show 2 * (110000 + 1) ≤ 1000000; decide)
theorem texts_len (g : Cs) : ∀ n, (texts g n).length = g.length ^ n
  | 0 => rfl
  | n + 1 => by
    show (longer g (texts g n)).length = _
    rw [longer_len, texts_len g n, Nat.pow_succ]
theorem texts_each (g : Cs) : ∀ n, ∀ t ∈ texts g n, t.length = n
  | 0, t, h => by
    rw [List.mem_singleton.mp h]
    rfl
  | n + 1, t, h => by
    obtain ⟨u, hu, h2⟩ := List.mem_flatMap.mp h
    obtain ⟨c, _, rfl⟩ := List.mem_map.mp h2
    rw [List.length_append, texts_each g n u hu]
    rfl
theorem texts_few {g : Cs} {j R : Nat} (hg : g.length ≤ 8) (hj : j < R) (hR : R ≤ 4) (h2 : 4 ≤ g.length → R ≤ 2) : (texts g j).length * g.length ≤ 1000 := by
  rw [texts_len, ← Nat.pow_succ]
  by_cases h : 4 ≤ g.length
  · have := h2 h
    refine Nat.le_trans (Nat.pow_le_pow_left hg _) (Nat.le_trans (Nat.pow_le_pow_right (by decide) (show j + 1 ≤ 2 by omega)) (by decide))
  · refine Nat.le_trans (Nat.pow_le_pow_left (show g.length ≤ 3 by omega) _) (Nat.le_trans (Nat.pow_le_pow_right (by decide) (show j + 1 ≤ 4 by omega)) (by decide))
def sp_law (K : PySem.W.Frag) : Sp := fun vs H Q _ => ∃ (a : Addr) (ns : List Int), vs = [.ref a] ∧ SqL K H a (ns.map V.int) ∧ ns.length ≤ 63 ∧ ∀ H', Q (.bl true) H'
theorem ok_law (T : Top K mg) : FnG P w K mg base CX0 5 T.f_law T.fd_law ["script"] (sp_law K) := by
  have G__law_open := ok_open (P := P) (w := w) (base := base) T
  have G__law_take := ok_take (P := P) (w := w) (base := base) T
  have G__law_some_signs := ok_signs (P := P) (w := w) (base := base) T
  have G__law_wide_lot := ok_wide (P := P) (w := w) (base := base) T
  have G__law_texts_right := ok_right (P := P) (w := w) (base := base) T
  have G_how_many := ok_many (P := P) (w := w) (base := base) T
  have G_is_word := ok_word (P := P) (w := w) (base := base) T
  have G__law_counted := ok_counted (P := P) (w := w) (base := base) T
  have G__law_longer := ok_longer (P := P) (w := w) (base := base) T
  have G__law_same := ok_same (P := P) (w := w) (base := base) T 1
  refine fnG T.F_law sc_law (fun vs H Q E h => ?_) (fun cdv A outer s H vs Q E hgd hr h => ?_)
  · obtain ⟨a, ns, rfl, _⟩ := h
    rfl
  obtain ⟨a, ns, rfl, hS, hlen, q⟩ := h
  refine ⟨_, (pss_cons (ps_set (i := 1) sc_law.nd rfl (Or.inl rfl) (pe_call G__law_open (hr.mono (by first | decide | omega)) (by rfl) T.g__law_open T.F__law_open.kp T.b__law_open .nil pass0 (pa_cons (pv 0) pa_nil)))
    (pss_cons (ps_for PassesOwn.never rfl (pi_range1 rfl T.m_range (pa_cons pe_int pa_nil)) (pg_name (i := 2) sc_law.nd rfl (Or.inl rfl)) (pss_cons (ps_set (i := 3) sc_law.nd rfl (Or.inr rfl) (pe_call G__law_wide_lot (hr.mono (by first | decide | omega)) (by rfl) T.g__law_wide_lot T.F__law_wide_lot.kp T.b__law_wide_lot .nil pass0 (pa_cons (pv 1) (pa_cons (pe_call G__law_some_signs (hr.mono (by first | decide | omega)) (by rfl) T.g__law_some_signs T.F__law_some_signs.kp T.b__law_some_signs .nil pass0 (pa_cons (pv 1) (pa_cons (pe_op op_addG pe_int (pe_call G__law_take (hr.mono (by first | decide | omega)) (by rfl) T.g__law_take T.F__law_take.kp T.b__law_take .nil pass0 (pa_cons (pv 1) (pa_cons pe_int pa_nil)))) pa_nil))) (pa_cons pe_int pa_nil)))))
    (pss_cons (ps_set (i := 4) sc_law.nd rfl (Or.inl rfl) (pe_callB (call_reprD K rfl hgd hr) (by rfl) T.m_repr (by decide +kernel) (pa_cons (pv 3) pa_nil)))
    (pss_cons (ps_if (pt_not (pt_val (pe_call G__law_texts_right (hr.mono (by first | decide | omega)) (by rfl) T.g__law_texts_right T.F__law_texts_right.kp T.b__law_texts_right .nil pass0 (pa_cons (pv 1) (pa_cons (pv 3) pa_nil))))) (pss_one (ps_ret pe_bl)) pss_nil)
    (pss_cons (ps_for PassesOwn.never rfl (kG K rfl (pe_lstN (pa_cons pe_int (pa_cons pe_int (pa_cons (pe_op op_addG pe_int (pe_call G__law_take (hr.mono (by first | decide | omega)) (by rfl) T.g__law_take T.F__law_take.kp T.b__law_take .nil pass0 (pa_cons (pv 1) (pa_cons pe_int pa_nil)))) (pa_cons (pe_call G__law_take (hr.mono (by first | decide | omega)) (by rfl) T.g__law_take T.F__law_take.kp T.b__law_take .nil pass0 (pa_cons (pv 1) (pa_cons pe_int pa_nil))) (pa_cons pe_int pa_nil))))))) (pg_name (i := 5) sc_law.nd rfl (Or.inl rfl)) (pss_one (ps_if (pt_not (pt_val (pe_call G__law_same (hr.mono (by first | decide | omega)) (by rfl) T.g__law_same T.F__law_same.kp T.b__law_same .nil pass0 (pa_cons (pe_call G_how_many (hr.mono (by first | decide | omega)) (by rfl) T.g_how_many T.F_how_many.kp T.b_how_many .nil pass0 (pa_cons (pv 3) (pa_cons (pv 5) pa_nil))) (pa_cons (pe_call G__law_counted (hr.mono (by first | decide | omega)) (by rfl) T.g__law_counted T.F__law_counted.kp T.b__law_counted .nil pass0 (pa_cons (pv 3) (pa_cons (pv 5) pa_nil))) pa_nil))))) (pss_one (ps_ret pe_bl)) pss_nil)))
    (pss_cons (ps_set (i := 6) sc_law.nd rfl (Or.inl rfl) (pe_lstN (pa_cons pe_str pa_nil)))
    (pss_cons (ps_for PassesOwn.never rfl (pi_range1 rfl T.m_range (pa_cons (pe_op op_addG pe_int (pe_op op_mulN pe_int (pe_callTy call_int1 (by rfl) T.m_int (by decide +kernel) (pa_cons (pe_cmpR op_ltG (pe_callB (kLen K rfl) (by rfl) T.m_len PySem.boot_len (pa_cons (pe_ix (kIx K rfl) (pv 3) pe_int (fun _ _ => rfl)) pa_nil)) pe_int (nomark _)) pa_nil)))) pa_nil)) (pg_name (i := 5) sc_law.nd rfl (Or.inl rfl)) (pss_cons (ps_if (pt_cmpR (kNe K rfl hr.units) (pe_call G_how_many (hr.mono (by first | decide | omega)) (by rfl) T.g_how_many T.F_how_many.kp T.b_how_many .nil pass0 (pa_cons (pv 3) (pa_cons (pv 5) pa_nil))) (pe_callB (kLen K rfl) (by rfl) T.m_len PySem.boot_len (pa_cons (pe_lc (own := [("text", 7)]) rfl sc_law.nd (kG K rfl (pv 6)) (blkOk_by (N := ["script", "pen", "turn", "lot", "kept", "length", "last", "text"]) (sc := defScope s_law) (by decide +kernel)) (fun _ _ _ _ _ => (pg_name (i := 7) sc_law.nd rfl (Or.inl rfl))) (fun _ _ _ _ _ => pts_one (pt_val (pe_call G_is_word (hr.mono (by first | decide | omega)) (by rfl) T.g_is_word T.F_is_word.kp T.b_is_word .nil pass0 (pa_cons (pv 3) (pa_cons (pv 7) pa_nil))))) (fun _ _ _ _ _ => (pv 7))) pa_nil)) (nomark _)) (pss_one (ps_ret pe_bl)) pss_nil)
    (pss_one (ps_set (i := 6) sc_law.nd rfl (Or.inl rfl) (pe_call G__law_longer (hr.mono (by first | decide | omega)) (by rfl) T.g__law_longer T.F__law_longer.kp T.b__law_longer .nil pass0 (pa_cons (pv 6) (pa_cons (pe_ix (kIx K rfl) (pv 3) pe_int (fun _ _ => rfl)) pa_nil)))))))
    (pss_one (ps_if (pt_cmpR (kNe K rfl hr.units) (pe_callB (call_reprD K rfl hgd hr) (by rfl) T.m_repr (by decide +kernel) (pa_cons (pv 3) pa_nil)) (pv 4) (nomark _)) (pss_one (ps_ret pe_bl)) pss_nil)))))))))
    (pss_one (ps_ret pe_bl)))), ?_⟩
  refine ⟨_, rfl, ?_⟩
  refine ⟨a, ns, rfl, hS, hlen, fun p c H1 n1 s1 p1 => ?_⟩
  refine ⟨5, rfl, by decide, by decide, for_range (lo := 0) (n := 5) (fun i σ H' => ∃ y2 y3 y4 y5 y6 y7, σ = [some (.ref a), some (.ref p), y2, y3, y4, y5, y6, y7] ∧ Pen H' p c (1000 * (5 - i)))
    ⟨none, none, none, none, none, none, rfl, p1.less (by decide)⟩ (fun i σ H2 hi pv => ?_) (fun σ H2 pv => ?_)⟩
  · obtain ⟨y2, y3, y4, y5, y6, y7, rfl, p2⟩ := pv
    have p2' : Pen H2 p c (1000 * (5 - (i + 1)) + 1000) := p2.less (by omega)
    generalize 1000 * (5 - (i + 1)) = N at p2'
    refine ⟨_, rfl, ?_⟩; refine ⟨_, rfl, ?_⟩; refine ⟨_, rfl, ?_⟩
    refine ⟨p, c, N + 999, 8, rfl, p2', by omega, by omega, fun H3 m b3 p3 m0 m1 => ?_⟩
    obtain ⟨m, rfl⟩ : ∃ k : Nat, m = (k : Int) := ⟨m.toNat, by omega⟩
    (first | refine Or.inl ⟨_, _, rfl, rfl, ?_⟩ | refine ⟨_, _, rfl, rfl, ?_⟩)
    refine ⟨p, c, N + 900, 1 + m, rfl, p3.less (by omega), by omega, fun H4 g b4 p4 S4 => ?_⟩
    have gl := S4.len
    refine ⟨p, c, N + 600, g, 6, rfl, p4.less (by show N + 600 + costL g.length 6 ≤ N + 900; unfold costL; omega), by omega, S4.up.imp (fun h => Nat.ne_of_lt h), by decide, by decide, fun x H5 l b5 p5 tv o el few => ?_⟩
    subst el
    have gne : l.signs ≠ [] := fun z => by rw [z] at gl; simp at gl; omega
    have rp : RP (dLot l) 60 1000000 := rpLot o (by omega) (fun c h => Nat.lt_of_le_of_lt (S4.sub c h).2 (by decide)) (by omega)
    obtain ⟨la, ss, xs, rfl, ha, hss, hX⟩ := dLot_of tv
    refine ⟨_, rfl, ?_⟩
    refine ⟨la, _, rfl, Tv.dp _ _ tv, rp, ?_⟩
    refine ⟨_, rfl, ?_⟩; refine ⟨_, rfl, ?_⟩
    refine ⟨p, c, N + 400, _, l, rfl, p5, tv, o, gne, by omega, fun H6 b6 p6 => ?_⟩
    refine ⟨_, rfl, iteF ?_⟩
    have t6 := p5.ts b6
    refine Or.inl ?_
    refine ⟨_, rfl, ?_⟩
    refine ⟨p, c, N + 399, 10, rfl, p6, by omega, by omega, fun H7 m7 b7 p7 m70 m71 => ?_⟩
    (first | refine Or.inl ⟨_, _, rfl, rfl, ?_⟩ | refine ⟨_, _, rfl, rfl, ?_⟩)
    refine ⟨_, rfl, ?_⟩
    refine ⟨p, c, N + 398, 61, rfl, p7, by omega, by omega, fun H8 m8 b8 p8 m80 m81 => ?_⟩
    refine ⟨szS, fun l1 H9 n9 s9 e9 => ?_⟩
    have t9 := ((t6.trans (p6.ts b7)).trans (p7.ts b8)).trans (same_ts s9)
    have tv9 := tv.mv t9
    refine ⟨l1, rfl, ⟨_, SqL.of e9⟩, for_it (walk_list (xs := [V.int 0, V.int 1, V.int (2 + m7), V.int m8, V.int 60])) (fun j σ H' => ∃ y5, σ = [some (.ref a), some (.ref p), some (.int (0 + (i : Int))), some (.ref la), some (.str (dLot l).shown), y5, y6, y7] ∧ Same H9 H')
      ⟨_, rfl, Same.refl _⟩ (fun j σ H' _ pv => ?_) (fun j x σ Ha Hb hj pv y => ?_) (fun σ Ha pv => ?_)⟩
    · obtain ⟨_, _, sa⟩ := pv
      exact SqL.of (sa _ _ e9)
    · obtain ⟨y5, rfl, sa⟩ := pv
      obtain ⟨rfl, hx⟩ := y
      obtain ⟨k, hk, rfl⟩ : ∃ k : Nat, k ≤ 60 ∧ x = V.int (k : Int) := by
        have := List.mem_of_getElem? hx
        simp only [List.mem_cons, List.not_mem_nil, or_false] at this
        rcases this with rfl | rfl | rfl | rfl | rfl
        · exact ⟨0, by decide, rfl⟩
        · exact ⟨1, by decide, rfl⟩
        · exact ⟨(2 + m7).toNat, by omega, by congr 1; omega⟩
        · exact ⟨m8.toNat, by omega, by congr 1; omega⟩
        · exact ⟨60, by decide, rfl⟩
      have tva := tv9.mv (same_ts sa)
      refine ⟨_, rfl, ?_⟩; refine ⟨_, rfl, ?_⟩
      refine ⟨_, l, k, rfl, tva, o, by omega, by omega, fun Hc sc => ?_⟩
      refine ⟨_, rfl, ?_⟩; refine ⟨_, rfl, ?_⟩
      refine ⟨_, l, k, rfl, tva.mv (same_ts sc), o, by omega, by omega, fun Hd sd => ?_⟩
      refine ⟨_, _, .int (l.many k), rfl, .int _, .int _, trivial, fun He se => ?_⟩
      refine ⟨_, rfl, iteF ?_⟩
      exact ⟨_, rfl, ((sa.trans sc).trans sd).trans se⟩
    · obtain ⟨y5, rfl, sa⟩ := pv
      have tva := tv9.mv (same_ts sa)
      have hla := (t9.trans (same_ts sa)) _ _ ha
      refine ⟨szS, fun l2 Hb nb sb eb => ?_⟩
      refine ⟨_, rfl, ?_⟩; refine Or.inr (Or.inl ⟨_, _, _, _, rfl, rfl, SqT.of (sb _ _ hla), rfl, ?_⟩)
      refine ⟨_, _, rfl, ⟨by rw [tx_len, sizeLine_eq]; omega, rfl⟩, ?_⟩
      rw [tx_len]
      (first | refine Or.inl ⟨_, _, rfl, rfl, ?_⟩ | refine ⟨_, _, rfl, rfl, ?_⟩)
      refine Or.inr ⟨decide ((l.signs.length : Int) < 4), rfl, ?_⟩
      generalize hb : decide ((l.signs.length : Int) < 4) = bb
      generalize hz : (if bb = true then (1 : Int) else 0) = z
      have zz : 0 ≤ z ∧ z ≤ 1 ∧ (4 ≤ l.signs.length → z = 0) := by
        cases bb
        · rw [if_neg Bool.false_ne_true] at hz
          omega
        · have := of_decide_eq_true hb
          rw [if_pos rfl] at hz
          omega
      obtain ⟨z0, z1, z2⟩ := zz
      (first | refine ⟨_, _, rfl, rfl, (mulL (by decide)), ?_⟩ | refine Or.inl ⟨_, _, rfl, rfl, (mulL (by decide)), ?_⟩)
      refine Or.inl ⟨2, 2 * z, rfl, rfl, ?_⟩
      refine ⟨2 + 2 * z, rfl, by omega, by omega, ?_⟩
      obtain ⟨R, hR⟩ : ∃ R : Nat, 2 + 2 * z = (R : Int) := ⟨(2 + 2 * z).toNat, by omega⟩
      rw [hR, Int.toNat_natCast]
      refine for_it walk_range (fun j σ H' => ∃ (lt : Addr) (y5 y7 : Option V), σ = [some (.ref a), some (.ref p), some (.int (0 + (i : Int))), some (.ref la), some (.str (dLot l).shown), y5, some (.ref lt), y7] ∧ Same H9 H' ∧ H' lt = some (.lst ((texts l.signs j).map fun t => V.str (tx t))))
        ⟨l2, _, _, rfl, sa.trans sb, eb⟩ (fun _ _ _ _ _ => trivial) (fun j x' σ Hc Hd hj pv y => ?_) (fun σ Hc pv => ?_)
      · obtain ⟨lt, y5', y7', rfl, sc, ec⟩ := pv
        obtain ⟨rfl, rfl⟩ := y
        have tvc := tv9.mv (same_ts sc)
        have fewt := texts_few (g := l.signs) (j := j) (R := R) (by omega) hj (by omega) (fun h => by have := z2 h; omega)
        have g1' : 1 ≤ l.signs.length := List.length_pos_iff.mpr gne
        have fewn : (texts l.signs j).length ≤ 1000 := Nat.le_trans (Nat.le_mul_of_pos_right _ g1') fewt
        refine ⟨_, rfl, ?_⟩; refine ⟨_, rfl, ?_⟩
        refine ⟨_, l, j, by show [_, V.int (0 + (j : Int))] = _; rw [Int.zero_add], tvc, o, by omega, by omega, fun He se => ?_⟩
        have see := sc.trans se
        have tve := tvc.mv (same_ts se)
        have ee := se _ _ ec
        refine Or.inl ?_
        refine ⟨_, rfl, ?_⟩
        refine ⟨lt, rfl, ⟨_, SqL.of ee⟩, fun D hD => ?_⟩
        refine lcN (walk_list (xs := (texts l.signs j).map fun t => V.str (tx t))) hD (fun m acc H' => Same He H' ∧ acc = (((texts l.signs j).take m).filter l.word).map fun t => V.str (tx t))
          (fun Hf sf ef => ⟨sf, rfl⟩) (fun m acc H' _ pv => SqL.of (pv.1 _ _ ee)) (fun m x acc Hf Hg hm hl pv eD y => ?_) (fun acc Hf hl pv eD => ?_)
        · obtain ⟨sf, rfl⟩ := pv
          obtain ⟨rfl, hx⟩ := y
          rw [List.length_map] at hm
          obtain ⟨t, ht, rfl⟩ := get_map hx
          have tk := take_snoc ht
          refine ⟨rfl, ?_⟩
          refine ⟨_, rfl, ?_⟩; refine ⟨_, rfl, ?_⟩
          refine ⟨_, l, t, rfl, tve.mv (same_ts sf), o, fun Hh sh => ?_⟩
          refine ⟨_, rfl, ?_⟩
          cases hw : l.word t with
          | true =>
            refine iteT ?_
            refine ⟨_, rfl, ?_⟩
            refine lcNext (sh _ _ eD) hl (by omega) fun Hi bi ei => ⟨same_chg (sf.trans sh) (Same.refl He) hD bi, ?_⟩
            rw [tk, List.filter_append, List.map_append, List.filter_cons_of_pos hw]
            rfl
          | false =>
            refine iteF ?_
            refine ⟨_, by omega, ⟨sf.trans sh, ?_⟩, sh _ _ eD⟩
            rw [tk, List.filter_append, List.filter_cons_of_neg (by rw [hw]; decide), List.filter_nil, List.append_nil]
        · obtain ⟨sf, rfl⟩ := pv
          rw [List.length_map, List.take_length] at eD
          refine ⟨_, _, rfl, .inl ⟨_, SqL.of eD, rfl⟩, ?_⟩
          refine Or.inl ⟨rfl, _, rfl, ?_⟩
          rw [List.length_map, ← many_words o j, decide_eq_true rfl]
          refine iteF ?_
          have scf := see.trans sf
          refine ⟨_, rfl, ?_⟩; refine ⟨_, rfl, ?_⟩; refine Or.inr (Or.inl ⟨_, _, _, _, rfl, rfl, SqT.of ((t9.trans (same_ts scf)) _ _ ha), rfl, ?_⟩)
          refine ⟨lt, l.signs, texts l.signs j, rfl, sf _ _ ee, by omega, fun t h => by rw [texts_each l.signs j t h]; omega, by omega, fun l3 Hg ng sg eg => ?_⟩
          exact ⟨l3, _, _, rfl, scf.trans sg, eg⟩
      · obtain ⟨lt, y5', y7', rfl, sc, ec⟩ := pv
        have tvc := tv9.mv (same_ts sc)
        refine ⟨_, rfl, ?_⟩
        refine ⟨la, _, rfl, Tv.dp _ _ tvc, rp, ?_⟩
        refine ⟨_, rfl, ?_⟩
        refine Or.inl ⟨rfl, _, rfl, ?_⟩
        rw [decide_eq_true rfl]
        refine iteF ?_
        exact ⟨_, _, _, _, _, _, rfl, (p8.same (s9.trans sc)).less (by omega)⟩
  · exact q _
end
end Kx

namespace Kx
open PySem PySem.Spec PyProof.Rows L2 Fo
theorem all_mk {l : PySem.W.OpenLaw} {w : World} {K : PySem.W.Frag} {h : Heap} {mg : Str → Option Value} {fa f_lot_on f_is_word f_how_many f__law_open f__law_spread f__law_take f__law_some_signs f__law_some_text f__law_same f__law_wide_lot f__law_lot_on f__law_longer f__law_due f__law_counted f__law_walked f__law_texts_right f_law D_lot_on : Addr} (X : K.In h) (G : h.Ns mainGlobals mg) (hfa : mg "law" = some (.ref fa))
    {od_lot_on an_lot_on od_is_word an_is_word od_how_many an_how_many od__law_open an__law_open od__law_spread an__law_spread od__law_take an__law_take od__law_some_signs an__law_some_signs od__law_some_text an__law_some_text od__law_same an__law_same od__law_wide_lot an__law_wide_lot od__law_lot_on an__law_lot_on od__law_longer an__law_longer od__law_due an__law_due od__law_counted an__law_counted od__law_walked an__law_walked od__law_texts_right an__law_texts_right od_law an_law : Option Addr} {sl_lot_on sl_is_word sl_how_many sl__law_open sl__law_spread sl__law_take sl__law_some_signs sl__law_some_text sl__law_same sl__law_wide_lot sl__law_lot_on sl__law_longer sl__law_due sl__law_counted sl__law_walked sl__law_texts_right sl_law : Array (Option Value)}
    {oc_lot_on dc_lot_on pm_lot_on cd_lot_on ct_lot_on oc_is_word kV_is_word dc_is_word pm_is_word cd_is_word ct_is_word oc_how_many kV_how_many dc_how_many pm_how_many cd_how_many ct_how_many oc__law_open kV__law_open dc__law_open pm__law_open cd__law_open ct__law_open oc__law_spread kV__law_spread dc__law_spread pm__law_spread cd__law_spread ct__law_spread oc__law_take kV__law_take dc__law_take pm__law_take cd__law_take ct__law_take oc__law_some_signs kV__law_some_signs dc__law_some_signs pm__law_some_signs cd__law_some_signs ct__law_some_signs oc__law_some_text kV__law_some_text dc__law_some_text pm__law_some_text cd__law_some_text ct__law_some_text oc__law_same kV__law_same dc__law_same pm__law_same cd__law_same ct__law_same oc__law_wide_lot kV__law_wide_lot dc__law_wide_lot pm__law_wide_lot cd__law_wide_lot ct__law_wide_lot oc__law_lot_on kV__law_lot_on dc__law_lot_on pm__law_lot_on cd__law_lot_on ct__law_lot_on oc__law_longer kV__law_longer dc__law_longer pm__law_longer cd__law_longer ct__law_longer oc__law_due kV__law_due dc__law_due pm__law_due cd__law_due ct__law_due oc__law_counted kV__law_counted dc__law_counted pm__law_counted cd__law_counted ct__law_counted oc__law_walked kV__law_walked dc__law_walked pm__law_walked cd__law_walked ct__law_walked oc__law_texts_right kV__law_texts_right dc__law_texts_right pm__law_texts_right cd__law_texts_right ct__law_texts_right oc_law kV_law dc_law pm_law cd_law ct_law u_lot_on_state : Value}
    (a_lot_on : PySem.W.nsIn K mainGlobals "lot_on" = some (some (.ref f_lot_on)))
    (l_lot_on : K.lookup f_lot_on = some ⟨oc_lot_on, od_lot_on, .func (PySem.W.fnOf "lot_on" "lot_on" (defArgs s_lot_on) (defBody s_lot_on) (defScope s_lot_on) .none (.ref D_lot_on) dc_lot_on pm_lot_on an_lot_on cd_lot_on ct_lot_on), sl_lot_on⟩)
    (c_lot_on : PySem.W.codeIn K cd_lot_on "lot_on" = true)
    (k_lot_on : PySem.W.keepIn K (.ref f_lot_on) = true)
    (kd_lot_on_state : PySem.W.nsIn K D_lot_on "state" = some (some u_lot_on_state)) (kr_lot_on_state : RelV (.int 0) u_lot_on_state)
    (a_is_word : PySem.W.nsIn K mainGlobals "is_word" = some (some (.ref f_is_word)))
    (l_is_word : K.lookup f_is_word = some ⟨oc_is_word, od_is_word, .func (PySem.W.fnOf "is_word" "is_word" (defArgs s_is_word) (defBody s_is_word) (defScope s_is_word) .none kV_is_word dc_is_word pm_is_word an_is_word cd_is_word ct_is_word), sl_is_word⟩)
    (c_is_word : PySem.W.codeIn K cd_is_word "is_word" = true)
    (k_is_word : PySem.W.keepIn K (.ref f_is_word) = true)
    (a_how_many : PySem.W.nsIn K mainGlobals "how_many" = some (some (.ref f_how_many)))
    (l_how_many : K.lookup f_how_many = some ⟨oc_how_many, od_how_many, .func (PySem.W.fnOf "how_many" "how_many" (defArgs s_how_many) (defBody s_how_many) (defScope s_how_many) .none kV_how_many dc_how_many pm_how_many an_how_many cd_how_many ct_how_many), sl_how_many⟩)
    (c_how_many : PySem.W.codeIn K cd_how_many "how_many" = true)
    (k_how_many : PySem.W.keepIn K (.ref f_how_many) = true)
    (a__law_open : PySem.W.nsIn K mainGlobals "_law_open" = some (some (.ref f__law_open)))
    (l__law_open : K.lookup f__law_open = some ⟨oc__law_open, od__law_open, .func (PySem.W.fnOf "_law_open" "_law_open" (defArgs s__law_open) (defBody s__law_open) (defScope s__law_open) .none kV__law_open dc__law_open pm__law_open an__law_open cd__law_open ct__law_open), sl__law_open⟩)
    (c__law_open : PySem.W.codeIn K cd__law_open "_law_open" = true)
    (k__law_open : PySem.W.keepIn K (.ref f__law_open) = true)
    (a__law_spread : PySem.W.nsIn K mainGlobals "_law_spread" = some (some (.ref f__law_spread)))
    (l__law_spread : K.lookup f__law_spread = some ⟨oc__law_spread, od__law_spread, .func (PySem.W.fnOf "_law_spread" "_law_spread" (defArgs s__law_spread) (defBody s__law_spread) (defScope s__law_spread) .none kV__law_spread dc__law_spread pm__law_spread an__law_spread cd__law_spread ct__law_spread), sl__law_spread⟩)
    (c__law_spread : PySem.W.codeIn K cd__law_spread "_law_spread" = true)
    (k__law_spread : PySem.W.keepIn K (.ref f__law_spread) = true)
    (a__law_take : PySem.W.nsIn K mainGlobals "_law_take" = some (some (.ref f__law_take)))
    (l__law_take : K.lookup f__law_take = some ⟨oc__law_take, od__law_take, .func (PySem.W.fnOf "_law_take" "_law_take" (defArgs s__law_take) (defBody s__law_take) (defScope s__law_take) .none kV__law_take dc__law_take pm__law_take an__law_take cd__law_take ct__law_take), sl__law_take⟩)
    (c__law_take : PySem.W.codeIn K cd__law_take "_law_take" = true)
    (k__law_take : PySem.W.keepIn K (.ref f__law_take) = true)
    (a__law_some_signs : PySem.W.nsIn K mainGlobals "_law_some_signs" = some (some (.ref f__law_some_signs)))
    (l__law_some_signs : K.lookup f__law_some_signs = some ⟨oc__law_some_signs, od__law_some_signs, .func (PySem.W.fnOf "_law_some_signs" "_law_some_signs" (defArgs s__law_some_signs) (defBody s__law_some_signs) (defScope s__law_some_signs) .none kV__law_some_signs dc__law_some_signs pm__law_some_signs an__law_some_signs cd__law_some_signs ct__law_some_signs), sl__law_some_signs⟩)
    (c__law_some_signs : PySem.W.codeIn K cd__law_some_signs "_law_some_signs" = true)
    (k__law_some_signs : PySem.W.keepIn K (.ref f__law_some_signs) = true)
    (a__law_some_text : PySem.W.nsIn K mainGlobals "_law_some_text" = some (some (.ref f__law_some_text)))
    (l__law_some_text : K.lookup f__law_some_text = some ⟨oc__law_some_text, od__law_some_text, .func (PySem.W.fnOf "_law_some_text" "_law_some_text" (defArgs s__law_some_text) (defBody s__law_some_text) (defScope s__law_some_text) .none kV__law_some_text dc__law_some_text pm__law_some_text an__law_some_text cd__law_some_text ct__law_some_text), sl__law_some_text⟩)
    (c__law_some_text : PySem.W.codeIn K cd__law_some_text "_law_some_text" = true)
    (k__law_some_text : PySem.W.keepIn K (.ref f__law_some_text) = true)
    (a__law_same : PySem.W.nsIn K mainGlobals "_law_same" = some (some (.ref f__law_same)))
    (l__law_same : K.lookup f__law_same = some ⟨oc__law_same, od__law_same, .func (PySem.W.fnOf "_law_same" "_law_same" (defArgs s__law_same) (defBody s__law_same) (defScope s__law_same) .none kV__law_same dc__law_same pm__law_same an__law_same cd__law_same ct__law_same), sl__law_same⟩)
    (c__law_same : PySem.W.codeIn K cd__law_same "_law_same" = true)
    (k__law_same : PySem.W.keepIn K (.ref f__law_same) = true)
    (a__law_wide_lot : PySem.W.nsIn K mainGlobals "_law_wide_lot" = some (some (.ref f__law_wide_lot)))
    (l__law_wide_lot : K.lookup f__law_wide_lot = some ⟨oc__law_wide_lot, od__law_wide_lot, .func (PySem.W.fnOf "_law_wide_lot" "_law_wide_lot" (defArgs s__law_wide_lot) (defBody s__law_wide_lot) (defScope s__law_wide_lot) .none kV__law_wide_lot dc__law_wide_lot pm__law_wide_lot an__law_wide_lot cd__law_wide_lot ct__law_wide_lot), sl__law_wide_lot⟩)
    (c__law_wide_lot : PySem.W.codeIn K cd__law_wide_lot "_law_wide_lot" = true)
    (k__law_wide_lot : PySem.W.keepIn K (.ref f__law_wide_lot) = true)
    (a__law_lot_on : PySem.W.nsIn K mainGlobals "_law_lot_on" = some (some (.ref f__law_lot_on)))
    (l__law_lot_on : K.lookup f__law_lot_on = some ⟨oc__law_lot_on, od__law_lot_on, .func (PySem.W.fnOf "_law_lot_on" "_law_lot_on" (defArgs s__law_lot_on) (defBody s__law_lot_on) (defScope s__law_lot_on) .none kV__law_lot_on dc__law_lot_on pm__law_lot_on an__law_lot_on cd__law_lot_on ct__law_lot_on), sl__law_lot_on⟩)
    (c__law_lot_on : PySem.W.codeIn K cd__law_lot_on "_law_lot_on" = true)
    (k__law_lot_on : PySem.W.keepIn K (.ref f__law_lot_on) = true)
    (a__law_longer : PySem.W.nsIn K mainGlobals "_law_longer" = some (some (.ref f__law_longer)))
    (l__law_longer : K.lookup f__law_longer = some ⟨oc__law_longer, od__law_longer, .func (PySem.W.fnOf "_law_longer" "_law_longer" (defArgs s__law_longer) (defBody s__law_longer) (defScope s__law_longer) .none kV__law_longer dc__law_longer pm__law_longer an__law_longer cd__law_longer ct__law_longer), sl__law_longer⟩)
    (c__law_longer : PySem.W.codeIn K cd__law_longer "_law_longer" = true)
    (k__law_longer : PySem.W.keepIn K (.ref f__law_longer) = true)
    (a__law_due : PySem.W.nsIn K mainGlobals "_law_due" = some (some (.ref f__law_due)))
    (l__law_due : K.lookup f__law_due = some ⟨oc__law_due, od__law_due, .func (PySem.W.fnOf "_law_due" "_law_due" (defArgs s__law_due) (defBody s__law_due) (defScope s__law_due) .none kV__law_due dc__law_due pm__law_due an__law_due cd__law_due ct__law_due), sl__law_due⟩)
    (c__law_due : PySem.W.codeIn K cd__law_due "_law_due" = true)
    (k__law_due : PySem.W.keepIn K (.ref f__law_due) = true)
    (a__law_counted : PySem.W.nsIn K mainGlobals "_law_counted" = some (some (.ref f__law_counted)))
    (l__law_counted : K.lookup f__law_counted = some ⟨oc__law_counted, od__law_counted, .func (PySem.W.fnOf "_law_counted" "_law_counted" (defArgs s__law_counted) (defBody s__law_counted) (defScope s__law_counted) .none kV__law_counted dc__law_counted pm__law_counted an__law_counted cd__law_counted ct__law_counted), sl__law_counted⟩)
    (c__law_counted : PySem.W.codeIn K cd__law_counted "_law_counted" = true)
    (k__law_counted : PySem.W.keepIn K (.ref f__law_counted) = true)
    (a__law_walked : PySem.W.nsIn K mainGlobals "_law_walked" = some (some (.ref f__law_walked)))
    (l__law_walked : K.lookup f__law_walked = some ⟨oc__law_walked, od__law_walked, .func (PySem.W.fnOf "_law_walked" "_law_walked" (defArgs s__law_walked) (defBody s__law_walked) (defScope s__law_walked) .none kV__law_walked dc__law_walked pm__law_walked an__law_walked cd__law_walked ct__law_walked), sl__law_walked⟩)
    (c__law_walked : PySem.W.codeIn K cd__law_walked "_law_walked" = true)
    (k__law_walked : PySem.W.keepIn K (.ref f__law_walked) = true)
    (a__law_texts_right : PySem.W.nsIn K mainGlobals "_law_texts_right" = some (some (.ref f__law_texts_right)))
    (l__law_texts_right : K.lookup f__law_texts_right = some ⟨oc__law_texts_right, od__law_texts_right, .func (PySem.W.fnOf "_law_texts_right" "_law_texts_right" (defArgs s__law_texts_right) (defBody s__law_texts_right) (defScope s__law_texts_right) .none kV__law_texts_right dc__law_texts_right pm__law_texts_right an__law_texts_right cd__law_texts_right ct__law_texts_right), sl__law_texts_right⟩)
    (c__law_texts_right : PySem.W.codeIn K cd__law_texts_right "_law_texts_right" = true)
    (k__law_texts_right : PySem.W.keepIn K (.ref f__law_texts_right) = true)
    (a_law : PySem.W.nsIn K mainGlobals "law" = some (some (.ref f_law)))
    (l_law : K.lookup f_law = some ⟨oc_law, od_law, .func (PySem.W.fnOf "law" "law" (defArgs s_law) (defBody s_law) (defScope s_law) .none kV_law dc_law pm_law an_law cd_law ct_law), sl_law⟩)
    (c_law : PySem.W.codeIn K cd_law "law" = true)
    (k_law : PySem.W.keepIn K (.ref f_law) = true)
    (z_bool : PySem.W.nsIn K mainGlobals "bool" = some none)
    (z_enumerate : PySem.W.nsIn K mainGlobals "enumerate" = some none)
    (z_int : PySem.W.nsIn K mainGlobals "int" = some none)
    (z_isinstance : PySem.W.nsIn K mainGlobals "isinstance" = some none)
    (z_len : PySem.W.nsIn K mainGlobals "len" = some none)
    (z_list : PySem.W.nsIn K mainGlobals "list" = some none)
    (z_min : PySem.W.nsIn K mainGlobals "min" = some none)
    (z_range : PySem.W.nsIn K mainGlobals "range" = some none)
    (z_repr : PySem.W.nsIn K mainGlobals "repr" = some none)
    (z_sorted : PySem.W.nsIn K mainGlobals "sorted" = some none)
    (z_str : PySem.W.nsIn K mainGlobals "str" = some none)
    (z_sum : PySem.W.nsIn K mainGlobals "sum" = some none)
    (z_tuple : PySem.W.nsIn K mainGlobals "tuple" = some none)
    (z_zip : PySem.W.nsIn K mainGlobals "zip" = some none) :
    ∃ fd : FuncData, (∀ (s : Shared) (v : Value), BindsTo s fd ⟨[v], []⟩ [("script", v)]) ∧ ∀ base : Heap, K.In base → base.Ns mainGlobals mg → FnG l.prog w K mg base CX0 5 fa fd ["script"] (sp_law K) := by
  have e := hfa.symm.trans (PySem.W.mg_of X G a_law)
  cases e
  have F_lot_on : FunD K "lot_on" "lot_on" (defArgs s_lot_on) (defBody s_lot_on) (defScope s_lot_on) [] [("state", .int 0)] f_lot_on _ := ⟨⟨_, _, _, _, _, _, _, _, _, _, rfl, l_lot_on, c_lot_on, .inl ⟨rfl, rfl⟩, .inr ⟨_, rfl, fun z hz => by
    rw [List.mem_singleton.mp hz]
    exact ⟨_, kd_lot_on_state, kr_lot_on_state⟩⟩⟩, k_lot_on⟩
  obtain ⟨ds_lot_on, v_lot_on, b_lot_on⟩ := F_lot_on.binds0 (ps := ["lot", "text", "state"]) 2 (by decide) rfl fun D doc pm an cdv ct us ks h1 h2 => match us, h1, ks, h2 with | [_, _], _, [_], _ => ⟨_, _, _, _, _, _, rfl, rfl, rfl⟩
  have kb_lot_on := kb_of (ps := ["lot", "text", "state"]) (n := 2) (ks := ["state"]) F_lot_on fun kV doc pm an cdv ct us ws h1 h2 => match us, h1, ws, h2 with | [_, _], _, [_], _ => rfl
  have F_is_word := fun_mk (st := s_is_word) l_is_word c_is_word k_is_word
  have b_is_word := F_is_word.binds (ps := ["lot", "text"]) fun _ _ _ _ _ _ us hl => match us, hl with | [_, _], _ => rfl
  have F_how_many := fun_mk (st := s_how_many) l_how_many c_how_many k_how_many
  have b_how_many := F_how_many.binds (ps := ["lot", "length"]) fun _ _ _ _ _ _ us hl => match us, hl with | [_, _], _ => rfl
  have F__law_open := fun_mk (st := s__law_open) l__law_open c__law_open k__law_open
  have b__law_open := F__law_open.binds (ps := ["script"]) fun _ _ _ _ _ _ us hl => match us, hl with | [_], _ => rfl
  have F__law_spread := fun_mk (st := s__law_spread) l__law_spread c__law_spread k__law_spread
  have b__law_spread := F__law_spread.binds (ps := ["cell", "at"]) fun _ _ _ _ _ _ us hl => match us, hl with | [_, _], _ => rfl
  have F__law_take := fun_mk (st := s__law_take) l__law_take c__law_take k__law_take
  have b__law_take := F__law_take.binds (ps := ["pen", "amount"]) fun _ _ _ _ _ _ us hl => match us, hl with | [_, _], _ => rfl
  have F__law_some_signs := fun_mk (st := s__law_some_signs) l__law_some_signs c__law_some_signs k__law_some_signs
  have b__law_some_signs := F__law_some_signs.binds (ps := ["pen", "amount"]) fun _ _ _ _ _ _ us hl => match us, hl with | [_, _], _ => rfl
  have F__law_some_text := fun_mk (st := s__law_some_text) l__law_some_text c__law_some_text k__law_some_text
  have b__law_some_text := F__law_some_text.binds (ps := ["pen", "signs", "most"]) fun _ _ _ _ _ _ us hl => match us, hl with | [_, _, _], _ => rfl
  have F__law_same := fun_mk (st := s__law_same) l__law_same c__law_same k__law_same
  have b__law_same := F__law_same.binds (ps := ["found", "due"]) fun _ _ _ _ _ _ us hl => match us, hl with | [_, _], _ => rfl
  have F__law_wide_lot := fun_mk (st := s__law_wide_lot) l__law_wide_lot c__law_wide_lot k__law_wide_lot
  have b__law_wide_lot := F__law_wide_lot.binds (ps := ["pen", "signs", "size"]) fun _ _ _ _ _ _ us hl => match us, hl with | [_, _, _], _ => rfl
  have F__law_lot_on := fun_mk (st := s__law_lot_on) l__law_lot_on c__law_lot_on k__law_lot_on
  have b__law_lot_on := F__law_lot_on.binds (ps := ["lot", "text"]) fun _ _ _ _ _ _ us hl => match us, hl with | [_, _], _ => rfl
  have F__law_longer := fun_mk (st := s__law_longer) l__law_longer c__law_longer k__law_longer
  have b__law_longer := F__law_longer.binds (ps := ["texts", "signs"]) fun _ _ _ _ _ _ us hl => match us, hl with | [_, _], _ => rfl
  have F__law_due := fun_mk (st := s__law_due) l__law_due c__law_due k__law_due
  have b__law_due := F__law_due.binds (ps := ["lot", "text"]) fun _ _ _ _ _ _ us hl => match us, hl with | [_, _], _ => rfl
  have F__law_counted := fun_mk (st := s__law_counted) l__law_counted c__law_counted k__law_counted
  have b__law_counted := F__law_counted.binds (ps := ["lot", "length"]) fun _ _ _ _ _ _ us hl => match us, hl with | [_, _], _ => rfl
  have F__law_walked := fun_mk (st := s__law_walked) l__law_walked c__law_walked k__law_walked
  have b__law_walked := F__law_walked.binds (ps := ["pen", "lot"]) fun _ _ _ _ _ _ us hl => match us, hl with | [_, _], _ => rfl
  have F__law_texts_right := fun_mk (st := s__law_texts_right) l__law_texts_right c__law_texts_right k__law_texts_right
  have b__law_texts_right := F__law_texts_right.binds (ps := ["pen", "lot"]) fun _ _ _ _ _ _ us hl => match us, hl with | [_, _], _ => rfl
  have F_law := fun_mk (st := s_law) l_law c_law k_law
  have b_law := F_law.binds (ps := ["script"]) fun _ _ _ _ _ _ us hl => match us, hl with | [_], _ => rfl
  let T : Top K mg := { f_lot_on := _, fd_lot_on := _, F_lot_on := F_lot_on, b_lot_on := b_lot_on, g_lot_on := PySem.W.mg_of X G a_lot_on, ds_lot_on := ds_lot_on, v_lot_on := v_lot_on, kb_lot_on := kb_lot_on, f_is_word := _, fd_is_word := _, F_is_word := F_is_word, b_is_word := b_is_word, g_is_word := PySem.W.mg_of X G a_is_word, f_how_many := _, fd_how_many := _, F_how_many := F_how_many, b_how_many := b_how_many, g_how_many := PySem.W.mg_of X G a_how_many, f__law_open := _, fd__law_open := _, F__law_open := F__law_open, b__law_open := b__law_open, g__law_open := PySem.W.mg_of X G a__law_open, f__law_spread := _, fd__law_spread := _, F__law_spread := F__law_spread, b__law_spread := b__law_spread, g__law_spread := PySem.W.mg_of X G a__law_spread, f__law_take := _, fd__law_take := _, F__law_take := F__law_take, b__law_take := b__law_take, g__law_take := PySem.W.mg_of X G a__law_take, f__law_some_signs := _, fd__law_some_signs := _, F__law_some_signs := F__law_some_signs, b__law_some_signs := b__law_some_signs, g__law_some_signs := PySem.W.mg_of X G a__law_some_signs, f__law_some_text := _, fd__law_some_text := _, F__law_some_text := F__law_some_text, b__law_some_text := b__law_some_text, g__law_some_text := PySem.W.mg_of X G a__law_some_text, f__law_same := _, fd__law_same := _, F__law_same := F__law_same, b__law_same := b__law_same, g__law_same := PySem.W.mg_of X G a__law_same, f__law_wide_lot := _, fd__law_wide_lot := _, F__law_wide_lot := F__law_wide_lot, b__law_wide_lot := b__law_wide_lot, g__law_wide_lot := PySem.W.mg_of X G a__law_wide_lot, f__law_lot_on := _, fd__law_lot_on := _, F__law_lot_on := F__law_lot_on, b__law_lot_on := b__law_lot_on, g__law_lot_on := PySem.W.mg_of X G a__law_lot_on, f__law_longer := _, fd__law_longer := _, F__law_longer := F__law_longer, b__law_longer := b__law_longer, g__law_longer := PySem.W.mg_of X G a__law_longer, f__law_due := _, fd__law_due := _, F__law_due := F__law_due, b__law_due := b__law_due, g__law_due := PySem.W.mg_of X G a__law_due, f__law_counted := _, fd__law_counted := _, F__law_counted := F__law_counted, b__law_counted := b__law_counted, g__law_counted := PySem.W.mg_of X G a__law_counted, f__law_walked := _, fd__law_walked := _, F__law_walked := F__law_walked, b__law_walked := b__law_walked, g__law_walked := PySem.W.mg_of X G a__law_walked, f__law_texts_right := _, fd__law_texts_right := _, F__law_texts_right := F__law_texts_right, b__law_texts_right := b__law_texts_right, g__law_texts_right := PySem.W.mg_of X G a__law_texts_right, f_law := _, fd_law := _, F_law := F_law, b_law := b_law, g_law := PySem.W.mg_of X G a_law, m_bool := PySem.W.mg_none_of X G z_bool, m_enumerate := PySem.W.mg_none_of X G z_enumerate, m_int := PySem.W.mg_none_of X G z_int, m_isinstance := PySem.W.mg_none_of X G z_isinstance, m_len := PySem.W.mg_none_of X G z_len, m_list := PySem.W.mg_none_of X G z_list, m_min := PySem.W.mg_none_of X G z_min, m_range := PySem.W.mg_none_of X G z_range, m_repr := PySem.W.mg_none_of X G z_repr, m_sorted := PySem.W.mg_none_of X G z_sorted, m_str := PySem.W.mg_none_of X G z_str, m_sum := PySem.W.mg_none_of X G z_sum, m_tuple := PySem.W.mg_none_of X G z_tuple, m_zip := PySem.W.mg_none_of X G z_zip }
  exact ⟨T.fd_law, fun s v => .of_eq rfl, fun base _ _ => ok_law T⟩
end Kx
open PySem PySem.W PyProof.Rows
set_option maxHeartbeats 0 in
theorem PySem.Challenge.cw_foeholes_k11_words_of_lots_counted_holds : PySem.Challenge.rw_foeholes_k11_words_of_lots_counted.Holds := by
  w_on; o_law; k_head; (case hw => w_witness2)
  k_fill
  refine Fo.walkG (l := PySem.Challenge.rw_foeholes_k11_words_of_lots_counted) (n := 63) (k := 5) (x := "script") (sp := Kx.sp_law) rfl (by decide) rfl
    ⟨rfl, by decide, by decide⟩ (fun w h Y => PySem.W.kIn_of Y) ?F (fun K H a ns hl hS => ⟨a, ns, rfl, hS, hl, fun _ => rfl⟩)
  case F =>
    intro w mg fa h KX G hmg
    refine' Kx.all_mk KX G hmg ?a_lot_on ?l_lot_on ?c_lot_on ?k_lot_on ?kd_lot_on_state ?kr_lot_on_state ?a_is_word ?l_is_word ?c_is_word ?k_is_word ?a_how_many ?l_how_many ?c_how_many ?k_how_many ?a__law_open ?l__law_open ?c__law_open ?k__law_open ?a__law_spread ?l__law_spread ?c__law_spread ?k__law_spread ?a__law_take ?l__law_take ?c__law_take ?k__law_take ?a__law_some_signs ?l__law_some_signs ?c__law_some_signs ?k__law_some_signs ?a__law_some_text ?l__law_some_text ?c__law_some_text ?k__law_some_text ?a__law_same ?l__law_same ?c__law_same ?k__law_same ?a__law_wide_lot ?l__law_wide_lot ?c__law_wide_lot ?k__law_wide_lot ?a__law_lot_on ?l__law_lot_on ?c__law_lot_on ?k__law_lot_on ?a__law_longer ?l__law_longer ?c__law_longer ?k__law_longer ?a__law_due ?l__law_due ?c__law_due ?k__law_due ?a__law_counted ?l__law_counted ?c__law_counted ?k__law_counted ?a__law_walked ?l__law_walked ?c__law_walked ?k__law_walked ?a__law_texts_right ?l__law_texts_right ?c__law_texts_right ?k__law_texts_right ?a_law ?l_law ?c_law ?k_law ?z_bool ?z_enumerate ?z_int ?z_isinstance ?z_len ?z_list ?z_min ?z_range ?z_repr ?z_sorted ?z_str ?z_sum ?z_tuple ?z_zip
    (case a_lot_on => k_is)
    (case l_lot_on => k_is)
    (case c_lot_on => k_is)
    (case k_lot_on => k_is)
    (case kd_lot_on_state => k_is)
    (case kr_lot_on_state => first | exact ⟨_, rfl⟩ | exact rfl)
    (case a_is_word => k_is)
    (case l_is_word => k_is)
    (case c_is_word => k_is)
    (case k_is_word => k_is)
    (case a_how_many => k_is)
    (case l_how_many => k_is)
    (case c_how_many => k_is)
    (case k_how_many => k_is)
    (case a__law_open => k_is)
    (case l__law_open => k_is)
    (case c__law_open => k_is)
    (case k__law_open => k_is)
    (case a__law_spread => k_is)
    (case l__law_spread => k_is)
    (case c__law_spread => k_is)
    (case k__law_spread => k_is)
    (case a__law_take => k_is)
    (case l__law_take => k_is)
    (case c__law_take => k_is)
    (case k__law_take => k_is)
    (case a__law_some_signs => k_is)
    (case l__law_some_signs => k_is)
    (case c__law_some_signs => k_is)
    (case k__law_some_signs => k_is)
    (case a__law_some_text => k_is)
    (case l__law_some_text => k_is)
    (case c__law_some_text => k_is)
    (case k__law_some_text => k_is)
    (case a__law_same => k_is)
    (case l__law_same => k_is)
    (case c__law_same => k_is)
    (case k__law_same => k_is)
    (case a__law_wide_lot => k_is)
    (case l__law_wide_lot => k_is)
    (case c__law_wide_lot => k_is)
    (case k__law_wide_lot => k_is)
    (case a__law_lot_on => k_is)
    (case l__law_lot_on => k_is)
    (case c__law_lot_on => k_is)
    (case k__law_lot_on => k_is)
    (case a__law_longer => k_is)
    (case l__law_longer => k_is)
    (case c__law_longer => k_is)
    (case k__law_longer => k_is)
    (case a__law_due => k_is)
    (case l__law_due => k_is)
    (case c__law_due => k_is)
    (case k__law_due => k_is)
    (case a__law_counted => k_is)
    (case l__law_counted => k_is)
    (case c__law_counted => k_is)
    (case k__law_counted => k_is)
    (case a__law_walked => k_is)
    (case l__law_walked => k_is)
    (case c__law_walked => k_is)
    (case k__law_walked => k_is)
    (case a__law_texts_right => k_is)
    (case l__law_texts_right => k_is)
    (case c__law_texts_right => k_is)
    (case k__law_texts_right => k_is)
    (case a_law => k_is)
    (case l_law => k_is)
    (case c_law => k_is)
    (case k_law => k_is)
    (case z_bool => k_is)
    (case z_enumerate => k_is)
    (case z_int => k_is)
    (case z_isinstance => k_is)
    (case z_len => k_is)
    (case z_list => k_is)
    (case z_min => k_is)
    (case z_range => k_is)
    (case z_repr => k_is)
    (case z_sorted => k_is)
    (case z_str => k_is)
    (case z_sum => k_is)
    (case z_tuple => k_is)
    (case z_zip => k_is)

