import PyProof.Rows.All
import Wide.All
import OpenK.AllK
import Wide.FinOn
import HandS.ForMost
import HandS.Wide
import HandS.IsInst
import HandS.More
import HandS.Conv
import HandS.Style
import HandS.Evl
import PyProof.TypeEq
import PyProof.FactsAll.object_2
import PyProof.ReprLen
import PyProof.ReprRoads
import KE.KTupSum
import PyProof.FitsInt
import PyProof.P3Eq
import HandS.Strs
import HandS.SetFor
import HandS.TryOnly
import HandS.ExcOwn
import HandS.WordsExc
import PyProof.CallFns
import HandS.Dict
import HandS.SortInts
import PyProof.MinMaxWalk
import PyProof.WalkInts
import HandS.Steps
import HandS.Gcd
import HandS.DictComp
import HandS.SetKeys
import HandS.WideBits
import HandS.TupSets
import KE.DatumOrd
import OpenK.KEqL
import HandS.Set
import HandS.HeadHook3
import HandS.ListItems
import KE.KDictCopyH
import HandS.Deep
import HandS.TupLe
import PySem.Challenge.RW_ringreads_k01_records_recognized
set_option Elab.async false
set_option linter.all false
set_option maxRecDepth 100000
set_option maxHeartbeats 4000000
namespace Rg
open PySem PySem.Spec PyProof.Rows L2
/-! ### rules that the layer lacks -/
/-- a power of a wide base, a small exponent -/
def CPowW (i j : Int) : Prop := 0 ≤ j ∧ j ≤ 1000 ∧ i.natAbs < 2 ^ 100000
theorem CPowW.ok {i j : Int} (h : CPowW i j) : (Builtin.Int.intBits i : Int) * j ≤ 2 ^ 27 := by
  obtain ⟨h0, h1, h2⟩ := h
  have hb : Builtin.Int.intBits i ≤ 100000 := intBits_le h2
  have h3 : (Builtin.Int.intBits i : Int) * j ≤ 100000 * j := Int.mul_le_mul_of_nonneg_right (by omega) h0
  omega
theorem op_powW {X : Cx} : OpR X (binaryOp .Pow) (rI CPowW fun i j => .int (i ^ j.toNat)) := opI fun _ _ _ _ _ _ _ hc q => pow_int hc.1 hc.ok q
section
variable {prog : Program} {w : World} {A : Around} {E : Value → Shared → Prop} {s : Shared} {Q : Value → Shared → Prop}
theorem slot_type_ne : Slot "type" (cmpInfo .NotEq).2.1 "object.__ne__" :=
  .of (owner := "object") (n := "__ne__") (by rw [typeLookup_type, builtinLookup_eq_fast]; kernel_rfl) (by decide +kernel) (by decide +kernel) (by decide +kernel)
    (by first | exact .inl (by decide +kernel) | exact .inr (by decide +kernel)) (by rw [isSubtype_type]; kernel_rfl)
theorem ne_type_same {T : String} (hX : ∀ s' : Shared, s'.TypeIs (.type T) "type") (hu : A.units < cLine) (h : Q (.bool false) s) : wpAny (model prog w) A (compareOp .NotEq (.type T) (.type T)) Q E s := by
  show wpAny _ A (richCompare .NotEq _ _) Q E s
  refine wpAny_richCompare_same (T := "type") (hX s) (hX s) slot_type_ne ?_
  refine wpAny_call (codeAny_call_builtin slot_type_ne.plain F.entry_object_ne (slot_type_ne.check _ _ _ _ _ _ _ _ (hX s) (F.args_object_ne_2 _ _) ?_))
  unfold Builtin.«object.__ne__»
  repeat (first
    | with_reducible refine wpAny_cRoomFor hu ?_
    | (refine wpAny_bind (m := callSpecialIfBound? (.type T) (Str.ofString "__eq__") [.type T])
        (wpAny_callSpecialIfBound?_slot (hX _) PySem.TypeEq.slot_type_eq (call_gives PySem.TypeEq.slot_type_eq (hX _) F.entry_object_eq (F.args_object_eq_2 _ _) (PySem.TypeEq.object_eq_same rfl (by simp)) ?_)))
    | wp_step)
  refine wpAny_bind (m := truthy (.bool true)) (wpAny_truthy_bool ?_)
  exact wpAny_pure ⟨(fun e => nomatch e), h⟩
end
theorem meta_lt {a : String} (h : a = "list" ∨ a = "tuple") (s' : Shared) : s'.TypeIs (.type a) "type" := by
  rcases h with rfl | rfl
  · exact PySem.TypeEq.meta_list s'
  · exact PySem.TypeEq.meta_tuple s'
section
variable {X : Cx}
/-- type(x) == T, both the same of list and tuple; != likewise -/
def rTyS (b : Bool) : R2 := fun x y H Q => ∃ a, (a = "list" ∨ a = "tuple") ∧ x = .ty a ∧ y = .ty a ∧ Q (.bl b) H
theorem op_eqTy : OpR X (compareOp .Eq) (rTyS true) := by
  intro pins s σ H x y v u Q I rx ry h
  obtain ⟨a, ha, rfl, rfl, q⟩ := h
  cases (show v = Value.type a from rx)
  cases (show u = Value.type a from ry)
  exact PySem.TypeEq.eq_type_same (meta_lt ha) ⟨.bl true, H, I, rfl, q⟩
theorem op_neTy (hu : X.A.units + 64 < cLine) : OpR X (compareOp .NotEq) (rTyS false) := by
  intro pins s σ H x y v u Q I rx ry h
  obtain ⟨a, ha, rfl, rfl, q⟩ := h
  cases (show v = Value.type a from rx)
  cases (show u = Value.type a from ry)
  exact ne_type_same (meta_lt ha) (by omega) ⟨.bl false, H, I, rfl, q⟩
/-- list + list, both read: a new list -/
def rCatR (K : PySem.W.Frag) : R2 := fun x y H Q => ∃ l b xs zs, x = .ref l ∧ y = .ref b ∧ SqL K H l xs ∧ SqL K H b zs ∧ xs.length + zs.length ≤ 100000 ∧ ∀ p, H p = none → Q (.ref p) (upd H p (.lst (xs ++ zs)))
theorem op_catR : OpR X (binaryOp .Add) (rCatR X.K) := by
  intro pins s σ H x y v u Q I rx ry h
  obtain ⟨l, b, xs, zs, rfl, rfl, hH, hB, hz0, q⟩ := h
  have hz : xs.length + zs.length ≤ sizeLine := Nat.le_trans hz0 (by decide)
  cases rx
  cases ry
  obtain ⟨its, r, e, _⟩ := I.list hH
  obtain ⟨its2, r2, e2, _⟩ := I.list hB
  have hl := r.length
  have hl2 := r2.length
  obtain ⟨o1, n1, g1, c1, d1, k1⟩ := e
  obtain ⟨o2, n2, g2, c2, d2, k2⟩ := e2
  obtain ⟨cc1, dd1, dt1, sl1⟩ := o1
  obtain ⟨cc2, dd2, dt2, sl2⟩ := o2
  simp only at c1 d1 k1 c2 d2 k2
  subst c1 d1 k1 c2 d2 k2
  refine concat_meets ⟨_, g1, rfl⟩ ⟨_, g2, rfl⟩ noFill_list_add seq_list_add PySem.F.slot_list_add PySem.F.entry_list_add (PySem.F.args_list_add_2 _ _) (PyProof.Rows.list_addW l b its.toArray its2.toArray n1 n2 none none sl1 sl2 (by rw [List.size_toArray, List.size_toArray]; omega)) ⟨g1, g2, ?_⟩
  have ea : its.toArray ++ its2.toArray = (its ++ its2).toArray := by simp
  rw [ea]
  exact ⟨.ref _, _, I.lnew (t' := s.toks) (r.append r2) (by rw [List.length_append]; omega), rfl, q _ I.fresh⟩
end
theorem hu64 {A : Around} {k : Nat} (hr : Room k A) : A.units + 64 < cLine := hr.units
/-! ### a def of the text, with its name and how it is bound -/
structure Df (K : PySem.W.Frag) (mg : Str → Option Value) (x : Str) (st : Stmt) (ps : List Str) (f : Addr) (fd : FuncData) : Prop where
  fn : Fun K x x st f fd
  b : Binds K fd ps []
  g : mg x = some (.ref f)
/-! ### what changes -/
/-- all that was tracked, but the object at a, is as it was -/
def Sx (a : Addr) (H H' : Hp) : Prop := ∀ b o, b ≠ a → H b = some o → H' b = some o
/-- the source: its parts, and at most N draws so far -/
def Src (a : Addr) (N : Nat) (H : Hp) : Prop := ∃ x y z : Int, H a = some (.lst [.int x, .int y, .int z]) ∧ 0 ≤ y ∧ y < 2 ^ 300 ∧ 0 ≤ z ∧ z ≤ N
theorem Sx.refl (a : Addr) (H : Hp) : Sx a H H := fun _ _ _ h => h
theorem Sx.trans {a : Addr} {H H1 H2 : Hp} (x : Sx a H H1) (y : Sx a H1 H2) : Sx a H H2 := fun b o n h => y b o n (x b o n h)
theorem Sx.of {a : Addr} {H H' : Hp} (x : Same H H') : Sx a H H' := fun b o _ h => x b o h
theorem Sx.set {a : Addr} {H H1 : Hp} {o : HO} (x : Sx a H H1) : Sx a H (upd H1 a o) := fun b u n h => by
  rw [upd_ne n]
  exact x b u n h
theorem Same.new {H : Hp} {p : Addr} {o : HO} (h : H p = none) : Same H (upd H p o) := fun b u e => by
  rw [upd_ne (ne_of_none e h)]
  exact e
theorem Src.le {a : Addr} {N M : Nat} {H : Hp} (h : Src a N H) (k : N ≤ M) : Src a M H := by
  obtain ⟨x, y, z, e, h1, h2, h3, h4⟩ := h
  exact ⟨x, y, z, e, h1, h2, h3, by omega⟩
theorem Src.same {a : Addr} {N : Nat} {H H' : Hp} (h : Src a N H) (k : Same H H') : Src a N H' := by
  obtain ⟨x, y, z, e, r⟩ := h
  exact ⟨x, y, z, k _ _ e, r⟩
theorem sqe {K : PySem.W.Frag} {H : Hp} {a : Addr} {xs : List V} (h : H a = some (.lst xs)) : SqL K H a xs := .inl (.inl h)
theorem ste {K : PySem.W.Frag} {H : Hp} {a : Addr} {xs : List V} (h : H a = some (.tup xs)) : SqT K H a xs := .inl (.inl h)
end Rg
namespace Rg
open PySem PySem.Spec PyProof.Rows L2
/-! ### readings, a step at a time -/
section
variable {K : PySem.W.Frag} {σ : L2.St} {H : Hp} {Q : VK} {D : Ends} {ta tb tc : TE} {t u : TT} {t1 t2 : TS} {v x y : V} {i : Nat} {r r' : R2} {G : L2.St → Hp → Prop} {QB : Bool → Hp → Prop} {nx : L2.St → Hp → Prop} {rt : VK} {bk ct : L2.St → Hp → Prop}
theorem r_seq (h : t1 ⟨t2 ⟨nx, rt, bk, ct⟩, rt, bk, ct⟩ σ H) : tSeq t1 t2 ⟨nx, rt, bk, ct⟩ σ H := h
theorem r_next (h : nx σ H) : tNext ⟨nx, rt, bk, ct⟩ σ H := h
theorem r_asg {g : TG} (h : ta σ H fun x H1 => g x σ H1 nx) : tAsg ta g ⟨nx, rt, bk, ct⟩ σ H := h
theorem r_name (h : G (σ.set i (some v)) H) : gName i v σ H G := h
theorem r_sub {to ti : TE} {s : TSet} (h : to σ H fun o H1 => ti σ H1 fun i H2 => s o i v H2 fun H3 => G σ H3) : gSub to ti s v σ H G := h
theorem r_drop (h : ta σ H fun _ H1 => nx σ H1) : tDrop ta ⟨nx, rt, bk, ct⟩ σ H := h
theorem r_ret (h : ta σ H rt) : tRet ta ⟨nx, rt, bk, ct⟩ σ H := h
theorem r_aug {ti : TIp} (hx : σ[i]? = some (some x)) (h : ta σ H fun y H1 => ti x y H1 fun z H2 => nx (σ.set i (some z)) H2) : tAug i ta ti ⟨nx, rt, bk, ct⟩ σ H := ⟨x, hx, h⟩
theorem r_ip {f : Int → Int → Int} {a b : Int} (h : Q (.int (f a b)) H) : ipI f (.int a) (.int b) H Q := ⟨a, b, rfl, rfl, h⟩
theorem r_par {j : Nat} {t : TA} (h : t σ H fun vs H1 => ∃ v w, vs = [v, w] ∧ nx ((σ.set i (some v)).set j (some w)) H1) : tPar i j t ⟨nx, rt, bk, ct⟩ σ H := h
theorem r_par2 {v w : V} {j : Nat} (h : G ((σ.set i (some v)).set j (some w)) H) : ∃ a b, [v, w] = [a, b] ∧ G ((σ.set i (some a)).set j (some b)) H := ⟨v, w, rfl, h⟩
theorem r_var (h : σ[i]? = some (some v)) (q : Q v H) : tVar i σ H Q := ⟨v, h, q⟩
theorem r_c (q : Q v H) : tC v σ H Q := q
theorem r_op (h : ta σ H fun x H1 => tb σ H1 fun y H2 => r x y H2 Q) : tOp r ta tb σ H Q := h
theorem r_un {r : V → Hp → VK → Prop} (h : ta σ H fun x H1 => r x H1 Q) : tUn r ta σ H Q := h
theorem r_rU {g : Int → V} {a : Int} (h : Q (g a) H) : rU g (.int a) H Q := ⟨a, rfl, h⟩
theorem r_I0 {g : Int → Int → V} {a b : Int} (h : Q (g a b) H) : rI0 g (.int a) (.int b) H Q := ⟨a, b, rfl, rfl, h⟩
theorem r_I {C : Int → Int → Prop} {g : Int → Int → V} {a b : Int} (c : C a b) (h : Q (g a b) H) : rI C g (.int a) (.int b) H Q := ⟨a, b, rfl, rfl, c, h⟩
theorem r_eq (h : scal x y = true) (q : Q (.bl (decide (x = y))) H) : rEq x y H Q := ⟨h, q⟩
theorem r_ne (h : scal x y = true) (q : Q (.bl (!decide (x = y))) H) : rNe x y H Q := ⟨h, q⟩
theorem r_eqI {a b : Int} (q : Q (.bl (decide (a = b))) H) : rEq (.int a) (.int b) H Q := ⟨rfl, by
  have e : decide (V.int a = V.int b) = decide (a = b) := by
    by_cases h : a = b
    · subst h; simp
    · rw [decide_eq_false h, decide_eq_false]; intro e; exact h (V.int.inj e)
  rw [e]; exact q⟩
theorem r_neI {a b : Int} (q : Q (.bl (!decide (a = b))) H) : rNe (.int a) (.int b) H Q := ⟨rfl, by
  have e : decide (V.int a = V.int b) = decide (a = b) := by
    by_cases h : a = b
    · subst h; simp
    · rw [decide_eq_false h, decide_eq_false]; intro e; exact h (V.int.inj e)
  rw [e]; exact q⟩
theorem r_tyS {b : Bool} {a : String} (h : a = "list" ∨ a = "tuple") (q : Q (.bl b) H) : rTyS b (.ty a) (.ty a) H Q := ⟨a, h, rfl, rfl, q⟩
theorem r_test (h : ta σ H fun x H' => ∃ k, x = .bl k ∧ QB k H') : tTest ta σ H QB := h
theorem r_B (h : ta σ H fun x H' => ∃ k, x = .bl k ∧ QB k H') : tB ta σ H QB := h
theorem r_bl {b : Bool} {F : Bool → Prop} (h : F b) : ∃ k, V.bl b = .bl k ∧ F k := ⟨b, rfl, h⟩
theorem r_not (h : t σ H fun c H1 => QB (!c) H1) : tNot t σ H QB := h
theorem r_and (h : t σ H fun c H1 => if c = true then u σ H1 QB else QB false H1) : tAnd t u σ H QB := h
theorem r_or (h : t σ H fun c H1 => if c = true then QB true H1 else u σ H1 QB) : tOr t u σ H QB := h
theorem r_andV (h : ta σ H fun x H1 => ∃ c, x = .bl c ∧ if c = true then tb σ H1 Q else Q (.bl false) H1) : tAndV ta tb σ H Q := h
theorem r_orV (h : ta σ H fun x H1 => ∃ c, x = .bl c ∧ if c = true then Q (.bl true) H1 else tb σ H1 Q) : tOrV ta tb σ H Q := h
theorem r_notV (h : ta σ H fun x H1 => ∃ c, x = .bl c ∧ Q (.bl (!c)) H1) : tNotV ta σ H Q := h
theorem r_if (h : t σ H fun b H1 => if b = true then t1 ⟨nx, rt, bk, ct⟩ σ H1 else t2 ⟨nx, rt, bk, ct⟩ σ H1) : tIfS t t1 t2 ⟨nx, rt, bk, ct⟩ σ H := h
theorem r_ifE (h : t σ H fun c H1 => if c = true then ta σ H1 Q else tb σ H1 Q) : tIf t ta tb σ H Q := h
theorem r_chain (h : ta σ H fun x H1 => tb σ H1 fun y H2 => r x y H2 fun z H3 => ∃ k, z = .bl k ∧ (if k = true then tc σ H3 fun w' H4 => r' y w' H4 Q else Q (.bl false) H3)) : tChain r r' ta tb tc σ H Q := h
theorem r_cb {r : List V → Hp → VK → Prop} {t : TA} (h : t σ H fun vs H1 => r vs H1 Q) : tCB r t σ H Q := h
theorem r_call {sp : Sp} {E : XK} {t : TA} (h : t σ H fun vs H1 => sp vs H1 Q E) : tCall sp [] E t σ H Q := by
  show t σ H fun vs H1 => sp (vs ++ []) H1 Q E
  have e : (fun (vs : List V) (H1 : Hp) => sp (vs ++ []) H1 Q E) = fun vs H1 => sp vs H1 Q E := by
    funext vs H1
    rw [List.append_nil]
  rw [e]
  exact h
theorem r_nil {F : List V → Hp → Prop} (h : F [] H) : tNil σ H F := h
theorem r_cons {t : TA} {F : List V → Hp → Prop} (h : ta σ H fun x H1 => t σ H1 fun xs H2 => F (x :: xs) H2) : tCons ta t σ H F := h
theorem r_ixL {p : Addr} {xs : List V} {k : Int} (hs : SqL K H p xs) (ha : atI xs k = some v) (q : Q v H) : rIxL K (.ref p) (.int k) H Q := ⟨p, xs, k, v, rfl, rfl, hs, ha, q⟩
theorem r_ixT {p : Addr} {xs : List V} {k : Int} (hs : SqT K H p xs) (ha : atI xs k = some v) (q : Q v H) : rIxT K (.ref p) (.int k) H Q := ⟨p, xs, k, v, rfl, rfl, hs, ha, q⟩
theorem r_setL {p : Addr} {xs : List V} {k : Int} {j : Nat} {QH : Hp → Prop} (hs : H p = some (.lst xs)) (ha : ixN xs.length k = some j) (q : QH (upd H p (.lst (xs.set j v)))) : rSetL (.ref p) (.int k) v H QH := ⟨p, xs, k, j, rfl, rfl, hs, ha, q⟩
theorem r_lst {t : TA} (h : t σ H fun xs H1 => xs.length ≤ sizeLine ∧ ∀ p, H1 p = none → Q (.ref p) (upd H1 p (.lst xs))) : tLst t σ H Q := h
theorem r_tup {t : TA} (h : t σ H fun xs H1 => xs.length ≤ sizeLine ∧ ∀ p, H1 p = none → Q (.ref p) (upd H1 p (.tup xs))) : tTup t σ H Q := h
theorem r_sl {r : V → Option Int → Option Int → Hp → VK → Prop} {tl th : TO} (h : ta σ H fun x H1 => tl σ H1 fun l H2 => th σ H2 fun u H3 => r x l u H3 Q) : tSl r ta tl th σ H Q := h
theorem r_noP {F : Option Int → Hp → Prop} (h : F none H) : tNoPart σ H F := h
theorem r_part {F : Option Int → Hp → Prop} (h : ta σ H fun x H1 => ∃ i, x = .int i ∧ F (some i) H1) : tPart ta σ H F := h
theorem r_int {a : Int} {F : Int → Prop} (h : F a) : ∃ i, V.int a = .int i ∧ F i := ⟨a, rfl, h⟩
theorem r_slL {p : Addr} {xs : List V} {lo hi : Option Int} (hs : SqL K H p xs) (q : ∀ d, H d = none → Q (.ref d) (upd H d (.lst (cutV xs lo hi)))) : rSlL K (.ref p) lo hi H Q := ⟨p, xs, rfl, hs, q⟩
theorem r_catR {p b : Addr} {xs zs : List V} (hs : SqL K H p xs) (hb : SqL K H b zs) (hz : xs.length + zs.length ≤ 100000) (q : ∀ d, H d = none → Q (.ref d) (upd H d (.lst (xs ++ zs)))) : rCatR K (.ref p) (.ref b) H Q := ⟨p, b, xs, zs, rfl, rfl, hs, hb, hz, q⟩
theorem r_gtup {n : Nat} {t : TGs} {a : Addr} {xs : List V} (hs : SqT K H a xs) (hn : xs.length = n) (h : t xs σ H G) : gTup K n t (.ref a) σ H G := ⟨a, xs, rfl, hs, hn, h⟩
theorem r_gcons {g : TG} {gs : TGs} {xs : List V} (h : g x σ H fun σ' H' => gs xs σ' H' G) : gCons g gs (x :: xs) σ H G := ⟨x, xs, rfl, h⟩
theorem r_gnil (h : G σ H) : gNil [] σ H G := ⟨rfl, h⟩
theorem r_app {l : Addr} {xs : List V} (hl : H l = some (.lst xs)) (hz : xs.length < 100000) (q : Q .non (upd H l (.lst (xs ++ [y])))) : rAppend (.ref l) [y] H Q := ⟨l, xs, y, rfl, rfl, hl, Nat.lt_of_lt_of_le hz (by decide), q⟩
theorem r_bm {T : String} {r : V → List V → Hp → VK → Prop} {to : TE} {t : TA} (h : to σ H fun x H1 => tyV K T x H1 ∧ t σ H1 fun xs H2 => r x xs H2 Q) : tBM K T r to t σ H Q := h
theorem r_sum {p : Addr} {ns : List Int} (hs : SqL K H p (ns.map V.int)) (q : Q (.int ns.sum) H) : rSum K [.ref p] H Q := ⟨p, ns, rfl, hs, q⟩
theorem iteF' {A B : Prop} {c : Bool} (hc : c = false) (h : B) : if c = true then A else B := by subst hc; exact iteF h
theorem iteT' {A B : Prop} {c : Bool} (hc : c = true) (h : A) : if c = true then A else B := by subst hc; exact iteT h
end
section
variable {X : Cx}
def rIntI : List V → Hp → VK → Prop := fun xs H Q => ∃ i, xs = [.int i] ∧ Q (.int i) H
def rIntB : List V → Hp → VK → Prop := fun xs H Q => ∃ k, xs = [.bl k] ∧ Q (.int (if k then 1 else 0)) H
theorem call_intI : CallR X (.type "int") rIntI := fun pins s σ H xs us Q I r h => call_int1 pins s σ H xs us Q I r (.inl h)
theorem call_intB : CallR X (.type "int") rIntB := fun pins s σ H xs us Q I r h => call_int1 pins s σ H xs us Q I r (.inr h)
theorem r_intI {a : Int} {H : Hp} {Q : VK} (q : Q (.int a) H) : rIntI [.int a] H Q := ⟨a, rfl, q⟩
theorem r_intB {a : Bool} {H : Hp} {Q : VK} (q : Q (.int (if a then 1 else 0)) H) : rIntB [.bl a] H Q := ⟨a, rfl, q⟩
end
section
variable {X : Cx}
def rLen2 (K : PySem.W.Frag) : List V → Hp → VK → Prop := fun xs H Q => ∃ p ys, xs = [.ref p] ∧ (SqL K H p ys ∨ SqT K H p ys) ∧ Q (.int ys.length) H
theorem call_len2 : CallR X (.builtin "len") (rLen2 X.K) := call_len_seq
def rAbs2 : List V → Hp → VK → Prop := fun xs H Q => ∃ i, xs = [.int i] ∧ Q (.int (if i < 0 then -i else i)) H
theorem call_abs2 : CallR X (.builtin "abs") rAbs2 := call_abs
def rMx2 : List V → Hp → VK → Prop := fun xs H Q => ∃ i j, xs = [.int i, .int j] ∧ Q (.int (if j > i then j else i)) H
theorem call_mx2 (hc : X.calm = true) : CallR X (.builtin "max") rMx2 := call_max2 hc
def rMn2 : List V → Hp → VK → Prop := fun xs H Q => ∃ i j, xs = [.int i, .int j] ∧ Q (.int (if j < i then j else i)) H
theorem call_mn2 (hc : X.calm = true) : CallR X (.builtin "min") rMn2 := call_min2 hc
def rLst2 (K : PySem.W.Frag) : List V → Hp → VK → Prop := fun xs H Q => ∃ p ys, xs = [.ref p] ∧ (SqL K H p ys ∨ SqT K H p ys) ∧ ∀ l, H l = none → Q (.ref l) (upd H l (.lst ys))
theorem call_lst2 : CallR X (.type "list") (rLst2 X.K) := call_list_of
end
section
variable {K : PySem.W.Frag} {H : Hp} {Q : VK}
theorem r_len2 {p : Addr} {xs : List V} (hs : SqL K H p xs ∨ SqT K H p xs) (q : Q (.int (xs.length : Int)) H) : rLen2 K [.ref p] H Q := ⟨p, xs, rfl, hs, q⟩
theorem r_abs2 {a : Int} (q : Q (.int (if a < 0 then -a else a)) H) : rAbs2 [.int a] H Q := ⟨a, rfl, q⟩
theorem r_mx2 {a b : Int} (q : Q (.int (if b > a then b else a)) H) : rMx2 [.int a, .int b] H Q := ⟨a, b, rfl, q⟩
theorem r_mn2 {a b : Int} (q : Q (.int (if b < a then b else a)) H) : rMn2 [.int a, .int b] H Q := ⟨a, b, rfl, q⟩
theorem r_lst2 {p : Addr} {xs : List V} (hs : SqL K H p xs ∨ SqT K H p xs) (q : ∀ l, H l = none → Q (.ref l) (upd H l (.lst xs))) : rLst2 K [.ref p] H Q := ⟨p, xs, rfl, hs, q⟩
end
/-- the items of a written list -/
theorem at0 {a : V} {r : List V} : atI (a :: r) 0 = some a := atI_nat (j := 0) rfl
theorem at1 {a b : V} {r : List V} : atI (a :: b :: r) 1 = some b := atI_nat (j := 1) rfl
theorem at2 {a b c : V} {r : List V} : atI (a :: b :: c :: r) 2 = some c := atI_nat (j := 2) rfl
end Rg
namespace Rg
open PySem PySem.Spec PyProof.Rows L2
section
variable {K : PySem.W.Frag} {J : It} {g : TG} {tb : TS} {te : TE} {σ : L2.St} {H : Hp} {nx : L2.St → Hp → Prop} {rt : VK} {bk ct : L2.St → Hp → Prop}
theorem r_for {wi : TI} (h : wi σ H fun J H1 => ∃ W : Nat → Nat → L2.St → Hp → Prop, (∃ m, W 0 m σ H1) ∧ ∀ i m σ H, W i m σ H →
    (J.stop i H ∧ nx σ H) ∨ (J.go i H ∧ ∃ N : L2.St → Hp → Prop, (∀ σ' H', N σ' H' → ∃ m', m' < m ∧ W (i + 1) m' σ' H') ∧ ∀ x H', J.yld i H x H' → g x σ H' fun σ2 H2 => tb ⟨N, rt, nx, N⟩ σ2 H2)) : tFor wi g tb ⟨nx, rt, bk, ct⟩ σ H := h
theorem for_gen (n : Nat) (Pv : Nat → L2.St → Hp → Prop) (h0 : Pv 0 σ H) (hstop : ∀ σ H, Pv n σ H → J.stop n H) (hgo : ∀ i σ H, i < n → Pv i σ H → J.go i H)
    (hstep : ∀ i σ H x H', i < n → Pv i σ H → J.yld i H x H' → g x σ H' fun σ2 H2 => tb ⟨Pv (i + 1), rt, nx, Pv (i + 1)⟩ σ2 H2) (hdone : ∀ σ H, Pv n σ H → nx σ H) :
    ∃ W : Nat → Nat → L2.St → Hp → Prop, (∃ m, W 0 m σ H) ∧ ∀ i m σ H, W i m σ H →
    (J.stop i H ∧ nx σ H) ∨ (J.go i H ∧ ∃ N : L2.St → Hp → Prop, (∀ σ' H', N σ' H' → ∃ m', m' < m ∧ W (i + 1) m' σ' H') ∧ ∀ x H', J.yld i H x H' → g x σ H' fun σ2 H2 => tb ⟨N, rt, nx, N⟩ σ2 H2) := by
  refine ⟨fun i m s h => i + m = n ∧ Pv i s h, ⟨n, Nat.zero_add n, h0⟩, fun i m s h hw => ?_⟩
  obtain ⟨em, p⟩ := hw
  cases m with
  | zero =>
    have ei : i = n := by omega
    subst ei
    exact .inl ⟨hstop s h p, hdone s h p⟩
  | succ m => exact .inr ⟨hgo i s h (by omega) p, Pv (i + 1), fun s' h' q => ⟨m, Nat.lt_succ_self m, by omega, q⟩, fun x h' y => hstep i s h x h' (by omega) p y⟩
theorem r_lc {wi : TI} {vs : List Nat} {Q : VK} (h : wi σ H fun J H1 => ∀ D, H1 D = none → ∃ W : Nat → Nat → Hp → Prop, (∃ m, W 0 m (upd H1 D (.lst []))) ∧ ∀ i m H, W i m H →
    (J.stop i H ∧ Q (.ref D) H) ∨ (J.go i H ∧ ∃ Nx : Hp → Prop, (∀ H', Nx H' → ∃ m', m' < m ∧ W (i + 1) m' H') ∧ ∀ x H', J.yld i H x H' → g x (wipe σ vs) H' fun σ2 H2 => wipe σ2 vs = wipe σ vs ∧ tYes σ2 H2 fun b H3 =>
      if b = true then te σ2 H3 fun y H4 => ∃ acc, H4 D = some (.lst acc) ∧ acc.length < sizeLine ∧ Nx (upd H4 D (.lst (acc ++ [y]))) else Nx H3)) : tLc wi g tYes te vs σ H Q := h
/-- a comprehension: the word I of the turn and the heap, F of what each turn gives; both stand when the list at D grows -/
theorem lc_gen {D : Addr} {vs : List Nat} {Qd : Hp → Prop} (n : Nat) (hn : n ≤ 1000) (I : Nat → Hp → Prop) (F : Nat → V → Hp → Prop) (hD : H D = none) (h0 : I 0 (upd H D (.lst [])))
    (keep : ∀ i h acc acc', h D = some (.lst acc) → I i h → I i (upd h D (.lst acc'))) (hstop : ∀ h, I n h → J.stop n h) (hgo : ∀ i h, i < n → I i h → J.go i h)
    (hstep : ∀ i h x h' acc (Q : VK), i < n → I i h → h D = some (.lst acc) → J.yld i h x h' →
      (∀ y h4, I (i + 1) h4 → h4 D = some (.lst acc) → (∀ j z, j < i → F j z h → F j z h4) → F i y h4 → Q y h4) → g x (wipe σ vs) h' fun σ2 H2 => wipe σ2 vs = wipe σ vs ∧ te σ2 H2 Q)
    (keepF : ∀ i y h acc acc', h D = some (.lst acc) → F i y h → F i y (upd h D (.lst acc')))
    (hdone : ∀ h acc, I n h → h D = some (.lst acc) → acc.length = n → (∀ j z, acc[j]? = some z → F j z h) → Qd h) :
    ∃ W : Nat → Nat → Hp → Prop, (∃ m, W 0 m (upd H D (.lst []))) ∧ ∀ i m H, W i m H →
    (J.stop i H ∧ Qd H) ∨ (J.go i H ∧ ∃ Nx : Hp → Prop, (∀ H', Nx H' → ∃ m', m' < m ∧ W (i + 1) m' H') ∧ ∀ x H', J.yld i H x H' → g x (wipe σ vs) H' fun σ2 H2 => wipe σ2 vs = wipe σ vs ∧ tYes σ2 H2 fun b H3 =>
      if b = true then te σ2 H3 fun y H4 => ∃ acc, H4 D = some (.lst acc) ∧ acc.length < sizeLine ∧ Nx (upd H4 D (.lst (acc ++ [y]))) else Nx H3) := by
  refine ⟨fun i m h => i + m = n ∧ I i h ∧ ∃ acc : List V, h D = some (.lst acc) ∧ acc.length = i ∧ ∀ j z, acc[j]? = some z → F j z h, ⟨n, Nat.zero_add n, h0, [], upd_same, rfl, fun j z e => by simp at e⟩, fun i m h hw => ?_⟩
  obtain ⟨em, p, acc, ha, hl, hF⟩ := hw
  cases m with
  | zero =>
    have ei : i = n := by omega
    subst ei
    exact .inl ⟨hstop h p, hdone h acc p ha hl hF⟩
  | succ m =>
    refine .inr ⟨hgo i h (by omega) p, fun h' => i + 1 + m = n ∧ I (i + 1) h' ∧ ∃ acc : List V, h' D = some (.lst acc) ∧ acc.length = i + 1 ∧ ∀ j z, acc[j]? = some z → F j z h', fun h' q => ⟨m, Nat.lt_succ_self m, q⟩, fun x h' y => ?_⟩
    refine hstep i h x h' acc _ (by omega) p ha y fun z h4 i4 a4 k4 f4 => ⟨acc, a4, Nat.lt_of_lt_of_le (show acc.length < 2000 by omega) (by decide), by omega, keep _ _ _ _ a4 i4, _, upd_same, by rw [List.length_append, hl]; rfl, fun j w e => ?_⟩
    refine keepF _ _ _ _ _ a4 ?_
    by_cases hj : j < acc.length
    · rw [List.getElem?_append_left hj] at e
      exact k4 j w (by omega) (hF j w e)
    · have hj2 : j < (acc ++ [z]).length := (List.getElem?_eq_some_iff.mp e).1
      rw [List.length_append, List.length_singleton] at hj2
      have ej : j = acc.length := by omega
      subst ej
      rw [List.getElem?_append_right (Nat.le_refl _), Nat.sub_self] at e
      have ew : z = w := Option.some.inj e
      subst ew
      rw [hl]
      exact f4
theorem r_ilist {tl : TE} {R : It → Hp → Prop} (h : tl σ H fun x H1 => ∃ a, x = .ref a ∧ (∃ xs, SqL K H1 a xs) ∧ R (Itl K a) H1) : iList K tl σ H R := h
theorem r_il2 {a : Addr} {xs : List V} {F : Addr → Prop} (hx : SqL K H a xs) (q : F a) : ∃ b, V.ref a = .ref b ∧ (∃ xs, SqL K H b xs) ∧ F b := ⟨a, rfl, ⟨xs, hx⟩, q⟩
theorem r_ienum {ta : TA} {R : It → Hp → Prop} (h : ta σ H fun vs H1 => ∃ a xs, vs = [.ref a] ∧ SqL K H1 a xs ∧ R (Ite K a) H1) : iEnum K ta σ H R := h
theorem r_izip {ta : TA} {R : It → Hp → Prop} (h : ta σ H fun vs H1 => ∃ a b xs ys, vs = [.ref a, .ref b] ∧ SqL K H1 a xs ∧ SqL K H1 b ys ∧ R (Itz K a b) H1) : iZip K ta σ H R := h
theorem r_irng1 {ta : TA} {R : It → Hp → Prop} (h : ta σ H fun vs H1 => ∃ j : Int, vs = [.int j] ∧ -(2 ^ 62) ≤ j ∧ j < 2 ^ 62 ∧ R (Itr 0 j.toNat) H1) : iRng1 ta σ H R := h
theorem r_irng2 {ta : TA} {R : It → Hp → Prop} (h : ta σ H fun vs H1 => ∃ i j : Int, vs = [.int i, .int j] ∧ (-(2 ^ 62) ≤ i ∧ i < 2 ^ 62 ∧ -(2 ^ 62) ≤ j ∧ j < 2 ^ 62) ∧ R (Itr i (j - i).toNat) H1) : iRng2 ta σ H R := h
theorem get_of {xs : List V} {i : Nat} (h : i < xs.length) : ∃ x, xs[i]? = some x := ⟨_, List.getElem?_eq_getElem h⟩
theorem go_list {a : Addr} {xs : List V} {i : Nat} (h : SqL K H a xs) (hi : i < xs.length) : (Itl K a).go i H := by
  obtain ⟨x, hx⟩ := get_of hi
  exact ⟨xs, x, h, hx⟩
theorem go_enum {a : Addr} {xs : List V} {i : Nat} (h : SqL K H a xs) (hi : i < xs.length) : (Ite K a).go i H := by
  obtain ⟨x, hx⟩ := get_of hi
  exact ⟨xs, x, h, hx⟩
theorem go_zip {a b : Addr} {xs ys : List V} {i : Nat} (h : SqL K H a xs) (h' : SqL K H b ys) (hi : i < xs.length) (hj : i < ys.length) : (Itz K a b).go i H := by
  obtain ⟨x, hx⟩ := get_of hi
  obtain ⟨y, hy⟩ := get_of hj
  exact ⟨xs, ys, x, y, h, h', hx, hy⟩
end
section
variable {X : Cx}
theorem pg_tupK {es : List Expr} {k : Nat} {pos : Pos} {t : TGs} {n : Nat} {K : PySem.W.Frag} (hK : X.K = K) (hc : X.calm = true) (h : PGs X es t)
    (hn : (assignEach es X.env).length = n := by rfl) (hst : (assignEach es X.env).findIdx? (·.1) = none := by rfl) : PG X (.Tuple es k pos) (gTup K n t) := by
  subst hK
  exact pg_tup hc h hn hst
end
theorem same_keep {H h : Hp} {D : Addr} {o : HO} (hD : H D = none) (k : Same H h) : Same H (upd h D o) := fun b u e => by
  rw [upd_ne (ne_of_none e hD)]
  exact k b u e
end Rg
namespace Rg
open PySem PySem.Spec PyProof.Rows L2
/-! ### defs that are called where no repr is under way -/
section
variable (P : Program) (w : World) (K : PySem.W.Frag) (mg : Str → Option Value) (base : Heap) (C : CXT)
/-- a promise of a def that is called where no repr is under way -/
structure FnG (k : Nat) (f : Addr) (fd : FuncData) (ps : List Str) (sp : Sp) : Prop where
  ln : ∀ {vs H Q E}, sp vs H Q E → vs.length = ps.length
  go : ∀ {A : Around} {o : List Env} {s : Shared} {H : Hp} {ar : Args} {us : List Value} {vs : List V} {Q : VK} {E : XK}, A.guards = some [] → Room k A → Env0 P w K mg base A o s H → BindsTo s fd ar (ps.zip us) → Vals vs us → sp vs H Q E → codeAny (model P w) A (.call (.ref f) ar) (CR C o P w H s Q E) s
end
section
variable {P : Program} {w : World} {K : PySem.W.Frag} {mg : Str → Option Value} {base : Heap} {C : CXT} {k : Nat} {f : Addr} {fd : FuncData} {ps : List Str} {sp : Sp}
theorem FnG.of (F : FnOk P w K mg base C k f fd ps sp) : FnG P w K mg base C k f fd ps sp := ⟨F.len _ _ _ _, fun _ r e b v h => F.run _ _ _ _ _ _ _ _ _ r e b v h⟩
/-- a def by its body, where no repr is under way -/
theorem fnG_of {x qual : Str} {st : Stmt} {N : List Str} (F : Fun K x qual st f fd) (S : FnScope N ps (defScope st)) (ln : ∀ vs H Q E, sp vs H Q E → vs.length = ps.length)
    (body : ∀ (cd : Value) (A : Around) (o : List Env) (s : Shared) (H : Hp) (vs : List V) (Q : VK) (E : XK), A.guards = some [] → Room k (A.deeper (envOfC qual (defScope st) s.heap.objs.size f cd)) → sp vs H Q E →
      ∃ t, PSs (cxOf CX0 P w K mg base N qual (defScope st) f cd A o s H E).nox (defBody st) t ∧ t { nx := fun _ H' => Q .non H', rt := Q } (start N vs) H) : FnG P w K mg base CX0 (k + 1) f fd ps sp := by
  obtain ⟨oc, od, kV, doc, pm, an, cdv, ct, osl, rfl, lk, hcd⟩ := F.ex
  refine ⟨ln _ _ _ _, fun {A o s H ar us vs Q E} hg hr e0 hb rv hsp => ?_⟩
  have kin : K.In s.heap := e0.mod.kin.keeps fun b u e => (e0.bs b u e).1
  refine codeAny_call_function hr.depth (kin _ _ lk) rfl S.co S.gen rfl (PySem.W.codeRec_of kin hcd) (hb _ _ _ _ ?_)
  refine wpAny_newFunctionEnv_cells S.kind (fun y hy => ?_) fun env he s1 ic => ?_
  · have hm := (List.of_mem_zip (a := y.1) (b := y.2) hy).1
    exact (S.par y.1 hm).imp id fun z => ⟨z, PySem.W.cellsFrom_some _ _ _ (.inl z)⟩
  · subst he
    obtain ⟨t, ht, hq⟩ := body cdv A o s H vs Q E hg (hr.deeper _) hsp
    have I0 : Inv (cxOf CX0 P w K mg base N qual (defScope st) f cdv A o s H E) [] (start N vs) H s1 := inv_start S hr.hd e0 (ln _ _ _ _ hsp) rv ic
    refine ⟨(e0.mod.nolimit.keeps fun b u e => (e0.bs b u e).1).keeps ic.toInCall.keep, codeAny_func (wpAny_mono (ht.nox.run [] s1 (start N vs) H _ I0 hq) (fun r s' hs => ?_) fun _ _ z => z)⟩
    cases r with
    | ret u => exact let ⟨v, _, H', J, r1, q1⟩ := hs; ⟨v, H', J.os, J.bare, J.base, J.hok, r1, q1⟩
    | next => exact let ⟨_, H', J, q1⟩ := hs; ⟨V.non, H', J.os, J.bare, J.base, J.hok, rfl, q1⟩
    | brk => exact let ⟨_, _, _, z⟩ := hs; False.elim z
    | cont => exact let ⟨_, _, _, z⟩ := hs; False.elim z
end
section
variable {X : Cx} {C : CXT} {k : Nat} {f : Addr} {fd : FuncData} {ps ks : List Str} {sp : Sp} {E : XK} {x : Str} {p pos : Pos} {e : Expr} {es : List Expr} {kws : List Keyword} {t : TA}
/-- the call of such a def -/
theorem runG {pins : List (Addr × Obj)} {σ : L2.St} {H : Hp} {s : Shared} {Q : VK} {us : List Value} {kw : List (Str × Value)} {bs : List Value} {vs : List V} (F : FnG X.prog X.w X.K X.mg X.base C k f fd ps sp) (hg : X.A.guards = some []) (hr : Room k X.A) (hx : Passes C X E)
    (I : Inv X pins σ H s) (b : BindsTo s fd ⟨us, kw⟩ (ps.zip bs)) (rv : Vals vs bs) (h : sp vs H Q E) : wpAny (model X.prog X.w) X.A (call (.ref f) us kw) (EP X pins σ Q) X.xe s := by
  refine wpAny_call (codeAny_mono (F.go hg hr I.env0 b rv h) fun r s' hq => ?_)
  match r, hq with
  | .error e, hq => exact hx pins σ H s e s' I hq
  | .ok (.ret u), hq => exact I.after hq
  | .ok .next, hq => exact hq.elim
  | .ok .brk, hq => exact hq.elim
  | .ok .cont, hq => exact hq.elim
theorem pe_callG (F : FnG X.prog X.w X.K X.mg X.base C k f fd ps sp) (hg : X.A.guards = some []) (hr : Room k X.A) (gl : Gl X x) (hm : X.mg x = some (.ref f)) (hk : PySem.W.keepIn X.K (.ref f) = true) (hb : Binds X.K fd ps []) (hx : Passes C X E) (ha : PA X (e :: es) t)
    (hd : (x == ("__debug__" : Str)) = false := by decide) (he : starEach (e :: es) X.env = (false, eval e X.env) :: starEach es X.env := by rfl) (hp : (backTo pos (starEach es X.env)).any (·.1) = false := by rfl) : PE X (.Call (.Name x p) (e :: es) [] pos) (tCall sp [] E t) := by
  constructor
  intro pins s σ H Q I h
  refine wpAny_Call_Name_kw (ld_glob I gl hm (PySem.W.callWith_K (h₀ := X.base) I.ok.mod.kin hk (thn (ha.run pos pins s σ H _ I h) fun us s1 z => ?_) he hp) hd)
  obtain ⟨vs, H1, I1, r, q⟩ := z
  have q' : sp vs H1 Q E := (List.append_nil vs) ▸ q
  have b := hb s1 us I1.kIn (by rw [List.append_nil, ← r.length]; exact F.ln q')
  rw [List.append_nil] at b
  exact ⟨I1.kIn, runG F hg hr hx I1 b r q'⟩
/-- f(k = v, ..): the keywords in any order; gV puts their values in the parameters' order -/
structure KwB (K : PySem.W.Frag) (fd : FuncData) (ps ks : List Str) (g : List Value → List Value) (gV : List V → List V) : Prop where
  to : ∀ (s : Shared) (ws : List Value), K.In s.heap → (g ws).length = ps.length → BindsTo s fd ⟨[], ks.zip ws⟩ (ps.zip (g ws))
  rl : ∀ {zs : List V} {ws : List Value}, Vals zs ws → Vals (gV zs) (g ws)
def tKw (sp : Sp) (gV : List V → List V) (E : XK) (t : TA) : TE := fun σ H Q => t σ H fun zs H1 => sp (gV zs) H1 Q E
theorem pe_kw {g : List Value → List Value} {gV : List V → List V} (F : FnOk X.prog X.w X.K X.mg X.base C k f fd ps sp) (hr : Room k X.A) (gl : Gl X x) (hm : X.mg x = some (.ref f)) (hk : PySem.W.keepIn X.K (.ref f) = true) (hb : KwB X.K fd ps ks g gV) (hx : Passes C X E) (hw : PK X kws t)
    (hall : (backToKw pos (keywordEach kws X.env)).all (·.1.isSome) = true := by rfl) (hks : (backToKw pos (keywordEach kws X.env)).filterMap (·.1) = ks := by rfl) (hd : (x == ("__debug__" : Str)) = false := by decide)
    (hp : ((backTo pos (starEach [] X.env)).any (·.1) || (backToKw pos (keywordEach kws X.env)).any (·.1.isNone)) = false := by rfl) : PE X (.Call (.Name x p) [] kws pos) (tKw sp gV E t) := by
  constructor
  intro pins s σ H Q I h
  refine wpAny_Call_Name_kw (ld_glob I gl hm (PySem.W.callWith_KW0 (h₀ := X.base) I.ok.mod.kin hk hall (thn (hw.run pos pins s σ H _ I h) fun ws s1 z => ?_) hp) hd)
  obtain ⟨zs, H1, I1, r, q⟩ := z
  have r2 := hb.rl r
  refine ⟨I1.kIn, ?_⟩
  rw [hks]
  refine wpAny_call (codeAny_mono (F.run _ _ _ _ _ _ _ Q E hr I1.env0 (hb.to s1 ws I1.kIn (by rw [← r2.length]; exact F.len _ _ _ _ q)) r2 q) fun r s' hq => ?_)
  match r, hq with
  | .error e, hq => exact hx pins σ H1 s1 e s' I1 hq
  | .ok (.ret u), hq => exact I1.after hq
  | .ok .next, hq => exact hq.elim
  | .ok .brk, hq => exact hq.elim
  | .ok .cont, hq => exact hq.elim
/-! ### repr of lists and tuples, where no repr is under way -/
/-- data that repr shows: no dict, ints below 1,900 bits, texts of signs, few nodes -/
def reprD (d : PyData) : Prop := d.showable = true ∧ d.hasDict = false ∧ d.leavesShort 150 = true ∧ d.depth ≤ 20 ∧ d.weight ≤ 100000
def rRepr (K : PySem.W.Frag) : List V → Hp → VK → Prop := fun xs H Q => ∃ (a : Addr) (d : PyData), xs = [.ref a] ∧ Dp K H (.ref a) d ∧ reprD d ∧ Q (.str d.shown) H
theorem call_repr (hg : X.A.guards = some []) (hu : X.A.units + 64 < cLine) : CallR X (.builtin "repr") (rRepr X.K) := by
  intro pins s σ H xs us Q I r h
  obtain ⟨a, d, rfl, hd, ⟨d1, d2, d3, d4, d5⟩, q⟩ := h
  cases r with
  | cons r1 r2 =>
    cases r2
    cases r1
    obtain ⟨as, rd⟩ := Dp.reads I d _ _ hd (show RelV (.ref a) (.ref a) from rfl)
    refine repr_of_reads' rd d1 (PyData.noDict_hsm d2) hg (by omega) (fun _ _ z => z) (fun h' u tk hk => ⟨.str d.shown, H, I.kept hk, ⟨u, rfl⟩, q⟩) ?_
    have z := PyData.shown_le 150 (by decide) d d3
    have e : (150 + 2) * d.weight ≤ 152 * 100000 := Nat.mul_le_mul (by decide) d5
    show _ ≤ 2 ^ 24
    omega
/-- sum of a tuple of ints -/
def rSumT (K : PySem.W.Frag) : List V → Hp → VK → Prop := fun xs H Q => ∃ (a : Addr) (ns : List Int), xs = [.ref a] ∧ SqT K H a (ns.map V.int) ∧ Q (.int ns.sum) H
theorem call_sumT (hc : X.calm = true) : CallR X (.builtin "sum") (rSumT X.K) := by
  intro pins s σ H xs us Q I r h
  obtain ⟨a, ns, rfl, hs, q⟩ := h
  cases r with
  | cons r1 r2 =>
    cases r2
    cases r1
    obtain ⟨its, rv, ht, _⟩ := I.tuple hs
    have hi : IntsAre its ns := rv.ints
    obtain ⟨ys, hy⟩ := hi.allInts.items
    have hn : numsOf its.toArray.toList = ns := hi.numsOf
    rw [hy, nums_intItems] at hn
    rw [hy] at ht
    refine PySem.W.ktm_sumG (I.ok.hd hc) ht fun h' tk t' hk => ?_
    rw [preSum_eq, List.take_of_length_le (by simp), hn]
    exact ⟨.int ns.sum, H, I.kept hk, ⟨t', rfl⟩, q⟩
end
section
variable {K : PySem.W.Frag} {σ : L2.St} {H : Hp} {Q : VK}
theorem r_kw {sp : Sp} {gV : List V → List V} {E : XK} {t : TA} (h : t σ H fun zs H1 => sp (gV zs) H1 Q E) : tKw sp gV E t σ H Q := h
theorem r_sumT {a : Addr} {ns : List Int} (hs : SqT K H a (ns.map V.int)) (q : Q (.int ns.sum) H) : rSumT K [.ref a] H Q := ⟨a, ns, rfl, hs, q⟩
theorem r_repr {a : Addr} {d : PyData} (hd : Dp K H (.ref a) d) (hr : reprD d) (q : Q (.str d.shown) H) : rRepr K [.ref a] H Q := ⟨a, d, rfl, hd, hr, q⟩
theorem r_neS {x y : Str} (q : Q (.bl (!decide (x = y))) H) : rNe (.str x) (.str y) H Q := ⟨rfl, by
  have e : decide (V.str x = V.str y) = decide (x = y) := by
    by_cases h : x = y
    · subst h
      simp
    · rw [decide_eq_false h, decide_eq_false]
      intro e
      exact h (V.str.inj e)
  rw [e]
  exact q⟩
end
/-- the values by a list of places -/
def prm {α : Type} (js : List Nat) (l : List α) : List α := if l.length = js.length then js.filterMap (l[·]?) else []
theorem prm_len {α : Type} {js : List Nat} {l : List α} {n : Nat} (h : (prm js l).length = n) (h0 : 0 < n) : l.length = js.length := by
  unfold prm at h
  split at h
  · assumption
  · simp at h
    omega
theorem prm_rl {js : List Nat} {zs : List V} {ws : List Value} (h : Vals zs ws) : Vals (prm js zs) (prm js ws) := by
  unfold prm
  rw [show zs.length = ws.length from h.length]
  split
  · have go : ∀ ks : List Nat, Vals (ks.filterMap (zs[·]?)) (ks.filterMap (ws[·]?)) := by
      intro ks
      induction ks with
      | nil => exact .nil
      | cons k ks ih =>
        rw [List.filterMap_cons, List.filterMap_cons]
        cases e : zs[k]? with
        | none =>
          have e2 : ws[k]? = none := by
            rw [List.getElem?_eq_none_iff] at e ⊢
            rw [← show zs.length = ws.length from h.length]
            exact e
          rw [e2]
          exact ih
        | some v =>
          obtain ⟨u, hu, rv⟩ := Vals.get h e
          rw [hu]
          exact .cons rv ih
    exact go js
  · exact .nil
section
variable {σ : L2.St} {H : Hp} {G : L2.St → Hp → Prop} {nx : L2.St → Hp → Prop} {rt : VK} {bk ct : L2.St → Hp → Prop} {i j l : Nat} {u v w : V}
theorem r_par3 {t : TA} (h : t σ H fun vs H1 => ∃ u v w, vs = [u, v, w] ∧ nx (((σ.set i (some u)).set j (some v)).set l (some w)) H1) : tPar3 i j l t ⟨nx, rt, bk, ct⟩ σ H := h
theorem r_par3b (h : G (((σ.set i (some u)).set j (some v)).set l (some w)) H) : ∃ a b c, [u, v, w] = [a, b, c] ∧ G (((σ.set i (some a)).set j (some b)).set l (some c)) H := ⟨u, v, w, rfl, h⟩
end
/-- the keywords' places of a def of the text -/
theorem KwB.of {K : PySem.W.Frag} {x qual : Str} {st : Stmt} {f : Addr} {fd : FuncData} {ps ks : List Str} {js : List Nat} (F : Fun K x qual st f fd) (hp : 0 < ps.length)
    (h : ∀ (kV doc pm : Value) (an : Option Addr) (cdv ct : Value) (us : List Value), us.length = js.length → bindArgs (PySem.W.fnOf x qual (defArgs st) (defBody st) (defScope st) .none kV doc pm an cdv ct) ⟨[], ks.zip us⟩ = pure (ps.zip (prm js us))) : KwB K fd ps ks (prm js) (prm js) := by
  obtain ⟨oc, od, kV, doc, pm, an, cdv, ct, osl, rfl, lk, hcd⟩ := F.ex
  exact ⟨fun s ws _ hl => .of_eq (h _ _ _ _ _ _ ws (prm_len hl hp)), prm_rl⟩
end Rg
namespace Rg
open PySem PySem.Spec PyProof.Rows L2
/-! ### the end: the law is called where no repr is under way -/
section
variable {P : Program} {w : World} {K : PySem.W.Frag} {mg mb : Str → Option Value} {k : Nat} {fa a : Addr} {fd : FuncData} {x : Str} {sp : Sp} {s1 : Shared} {vs : List Value} {ns : List Int}
/-- what the law's call shall come to -/
def Good (s1 : Shared) (r : Result) (s' : Shared) : Prop := r = .ok (.ret (.bool true)) ∧ OldK s1.heap s'.heap ∧ s'.os = s1.os ∧ AllBare s'.gens
/-- the tracked heap bears the script at most -/
structure Bears (K : PySem.W.Frag) (P : Program) (w : World) (s1 : Shared) (a : Addr) (xs : List V) (H : Hp) : Prop where
  only : ∀ b o, H b = some o → b = a ∧ ∃ u ys, o = .frz u (.lst ys)
  seq : SqL K H a xs
  ok : HOk P w H s1.heap
  out : ∀ o, H a = some o → K.lookup a = none
theorem Bears.no {K : PySem.W.Frag} {P : Program} {w : World} {s1 : Shared} {a b : Addr} {xs : List V} {H : Hp} (h : Bears K P w s1 a xs H) (n : b ≠ a) : H b = none := by
  cases q : H b with
  | none => rfl
  | some o => exact absurd (h.only b o q).1 n
theorem bears (KX : K.In s1.heap) (ha : s1.heap.get? a = some { cls := .type "list", data := .seq vs.toArray }) (hi : IntsAre vs ns) (hl : ns.length ≤ sizeLine) : ∃ H, Bears K P w s1 a (ns.map V.int) H := by
  have rv : Vals (ns.map V.int) vs := vals_ints hi
  cases hk : K.lookup a with
  | some o =>
    have e := KX a o hk
    rw [ha] at e
    cases e
    have z : ∀ (b : Addr) (o : HO), (fun _ => none : Hp) b = some o → False := fun b o q => by simp at q
    exact ⟨fun _ => none, ⟨fun b o q => (z b o q).elim, .inr ⟨_, vs.toArray, _, hk, rfl, rfl, rfl, by rw [List.size_toArray, hi.length]; exact hl, by simpa using rv⟩, fun b o q => (z b o q).elim, fun o q => (z a o q).elim⟩⟩
  | none =>
    have z : ∀ (b : Addr) (o : HO), (upd (fun _ => none) a (.frz { cls := .type "list", data := .seq vs.toArray } (.lst (ns.map V.int))) : Hp) b = some o → b = a ∧ o = .frz { cls := .type "list", data := .seq vs.toArray } (.lst (ns.map V.int)) := fun b o q => by
      by_cases h : b = a
      · subst h
        rw [upd_same] at q
        exact ⟨rfl, (Option.some.inj q).symm⟩
      · rw [upd_ne h] at q
        cases q
    refine ⟨upd (fun _ => none) a (.frz { cls := .type "list", data := .seq vs.toArray } (.lst (ns.map V.int))), ⟨fun b o q => ⟨(z b o q).1, _, _, (z b o q).2⟩, .inl (.inr ⟨_, upd_same⟩), fun b o q => ?_, fun _ _ => hk⟩⟩
    obtain ⟨rfl, rfl⟩ := z b o q
    exact ⟨ha, by rw [List.length_map]; exact hl, vs, _, rv, ha⟩
theorem lawG (KX : K.In s1.heap) (hns : s1.heap.Ns mainGlobals mg) (hb : s1.heap.Ns builtinsNs mb) (hbb : ∀ y : Str, y ≠ "__name__" → mb y = bootBuiltins y) (hlim : s1.heap.NoLimit) (hgen : s1.gens = #[])
    (ha : s1.heap.get? a = some { cls := .type "list", data := .seq vs.toArray }) (hi : IntsAre vs ns) (hl : ns.length ≤ sizeLine) (hr : Room k callerA)
    (F : ∀ base : Heap, K.In base → base.Ns mainGlobals mg → FnG P w K mg base CX0 k fa fd [x] sp) (hbind : ∀ (s : Shared) (u : Value), BindsTo s fd ⟨[u], []⟩ [(x, u)])
    (hsp : ∀ H : Hp, SqL K H a (ns.map V.int) → sp [.ref a] H (fun v _ => v = .bl true) fun _ _ _ => False) : codeAny (model P w) callerA (.call (.ref fa) ⟨[.ref a], []⟩) (Good s1) s1 := by
  obtain ⟨H, B⟩ := bears (P := P) (w := w) KX ha hi hl
  -- a dict of the heap is not the script
  have dct : ∀ {b : Addr} {o : Obj} {es : Array DictEntry} {n : Nat}, s1.heap.get? b = some o → o.data = .dict es n → (hidT s1.heap H).get? b = some o := fun {b o es n} e d => hidT_get e (B.no fun z => by
    subst z
    rw [ha] at e
    cases e
    cases d)
  have nsH : ∀ {b : Addr} {m : Str → Option Value}, s1.heap.Ns b m → (hidT s1.heap H).Ns b m := fun ⟨o, es, n, e, d, r⟩ => ⟨o, es, n, dct e d, d, r⟩
  have kH : K.In (hidT s1.heap H) := fun b o e => hidT_get (KX b o e) (by
    cases q : H b with
    | none => rfl
    | some u =>
      have e2 := (B.only b u q).1
      subst e2
      rw [B.out u q] at e
      cases e)
  obtain ⟨mc, l1, l2⟩ := hlim
  have e0 : Env0 P w K mg (hidT s1.heap H) callerA [] s1 H := ⟨rfl, ⟨kH, nsH hns, ⟨mb, nsH hb, hbb⟩, ⟨mc, nsH l1, l2⟩⟩, fun b o e => of_hidT e, Nat.le_of_eq (hidT_size _ _), trivial, (fun b z => nomatch (show b ∈ ([] : List Addr) from z)), B.ok, .of_eq hgen⟩
  refine codeAny_mono ((F _ kH (nsH hns)).go (us := [.ref a]) (vs := [.ref a]) rfl hr e0 (hbind s1 (.ref a)) (.cons rfl .nil) (hsp H B.seq)) fun r s' h => ?_
  match r, h with
  | .error _, h => exact h.elim
  | .ok .next, h => exact h.elim
  | .ok .brk, h => exact h.elim
  | .ok .cont, h => exact h.elim
  | .ok (.ret u), ⟨v, H', os, bare, un, hok', r', q⟩ =>
    obtain rfl : v = .bl true := q
    obtain rfl : u = Value.bool true := r'
    refine ⟨rfl, OldK.of_keep fun b o e => ?_, os, bare⟩
    cases q : H b with
    | none => exact un.keep b o e q (fun z => nomatch (show b ∈ ([] : List Addr) from z)) (by simp)
    | some u =>
      obtain ⟨_, ob, xs, rfl⟩ := B.only b u q
      have e1 := (B.ok b _ q).1
      rw [e] at e1
      cases e1
      exact (hok' b _ (un.frzs b o _ q)).1
end
theorem walkG {l : PySem.W.OpenLaw} {n k : Nat} {q : Program} {loose : List Str} {XP : (Str → Option Value) → Heap → Prop} {YP : World → Heap → Prop} {d : DefRec} {K : Params → PySem.W.Frag} {sp : PySem.W.Frag → Sp} {x : Str}
    (hn : l.most = some n) (hz : n ≤ sizeLine) (hdf : d.params.defaults = []) (hr : Room k callerA) (hY : ∀ (w : World) (h : Heap), YP w h → (K w.params).In h)
    (F : ∀ (w : World) (mg : Str → Option Value) (fa : Addr) (h : Heap), (K w.params).In h → h.Ns mainGlobals mg → mg d.name = some (.ref fa) → ∃ fd : FuncData, (∀ (s : Shared) (u : Value), BindsTo s fd ⟨[u], []⟩ [(x, u)]) ∧ ∀ base : Heap, (K w.params).In base → base.Ns mainGlobals mg → FnG l.prog w (K w.params) mg base CX0 k fa fd [x] (sp (K w.params)))
    (hsp : ∀ (K : PySem.W.Frag) (H : Hp) (a : Addr) (ns : List Int), ns.length ≤ n → SqL K H a (ns.map V.int) → sp K [.ref a] H (fun v _ => v = .bl true) fun _ _ _ => False) : PySem.W.WalkO q loose XP YP l.row.toRowW d [] (fun f vs => PySem.call f vs) := by
  refine Att.attach_call hn hdf fun w s0 s1 mg mb fa o pm cd doc a vs ns G Y ho hd hcd hmg hobj hints hlen hg => ?_
  obtain ⟨fd, hb, hF⟩ := F w mg fa _ (hY w _ Y) G.T.g hmg
  exact lawG (hY w _ Y) G.T.g G.T.b G.T.builtins G.T.nolimit hg hobj hints (Nat.le_trans hlen hz) hr hF hb fun H hS => hsp _ H a ns hlen hS
end Rg
namespace Rg
open PySem PySem.Spec PyProof.Rows L2
/-! ### data -/
structure Nice (d : PyData) (p w : Nat) : Prop where
  sh : d.showable = true
  nd : d.hasDict = false
  lv : d.leavesShort 150 = true
  cl : d.canLay0 = true
  dp : d.depth ≤ p
  wt : d.weight ≤ w
theorem Nice.mono {d : PyData} {p w p' w' : Nat} (h : Nice d p w) (hp : p ≤ p') (hw : w ≤ w') : Nice d p' w' := ⟨h.sh, h.nd, h.lv, h.cl, Nat.le_trans h.dp hp, Nat.le_trans h.wt hw⟩
theorem Nice.repr {d : PyData} {p w : Nat} (h : Nice d p w) (hp : p ≤ 20) (hw : w ≤ 100000) : reprD d := ⟨h.sh, h.nd, h.lv, Nat.le_trans h.dp hp, Nat.le_trans h.wt hw⟩
theorem Nice.shaped {d : PyData} {p w : Nat} (h : Nice d p w) (hp : p ≤ 64) : SeqAt.shaped d = true := by
  have e := Nat.le_trans h.dp hp
  unfold SeqAt.shaped
  rw [h.cl, decide_eq_true e]
  rfl
theorem shown_int (i : Int) : (PyData.shown (.int i)).length = (toString i).length := by
  simp only [PyData.shown]
  exact PySem.ofString_length _
theorem nice_int {i : Int} {n : Nat} (h : i.natAbs < 2 ^ n) (hn : n ≤ 148) : Nice (.int i) 0 n := by
  have hl : i.natAbs.log2 < 148 ∧ (i ≠ 0 → i.natAbs.log2 + 1 ≤ n) := by
    by_cases z : i.natAbs = 0
    · rw [z]
      exact ⟨by decide, fun q => absurd (Int.natAbs_eq_zero.mp z) q⟩
    · have := (Nat.log2_lt z).mpr h
      exact ⟨by omega, fun _ => by omega⟩
  refine ⟨by simp only [PyData.showable, decide_eq_true_eq]; omega, by simp only [PyData.hasDict], ?_, by simp only [PyData.canLay0], by simp only [PyData.depth]; omega, ?_⟩
  · simp only [PyData.leavesShort, decide_eq_true_eq]
    rw [shown_int]
    exact Nat.le_trans (int_text_length_le (k := 148) (by decide) hl.1) (by decide)
  · simp only [PyData.weight]
    by_cases z : i = 0
    · subst z
      simp
    · have e : (i == 0) = false := by simpa using z
      rw [e]
      exact hl.2 z
theorem nice_bool (b : Bool) : Nice (.bool b) 0 0 := ⟨by simp only [PyData.showable], by simp only [PyData.hasDict], by simp only [PyData.leavesShort], by simp only [PyData.canLay0], by simp only [PyData.depth]; omega, by simp only [PyData.weight]; omega⟩
theorem nice_none : Nice .none 0 0 := ⟨by simp only [PyData.showable], by simp only [PyData.hasDict], by simp only [PyData.leavesShort], by simp only [PyData.canLay0], by simp only [PyData.depth]; omega, by simp only [PyData.weight]; omega⟩
theorem nice_all {p w : Nat} : ∀ {ds : List PyData}, (∀ d ∈ ds, Nice d p w) → PyData.showableAll ds = true ∧ PyData.hasDictAll ds = false ∧ PyData.leavesShortAll 150 ds = true ∧ PyData.canLayAll0 ds = true ∧ PyData.depthAll ds ≤ p ∧ PyData.weightAll ds ≤ ds.length * (w + 1)
  | [], _ => ⟨by simp only [PyData.showableAll], by simp only [PyData.hasDictAll], by simp only [PyData.leavesShortAll], by simp only [PyData.canLayAll0], by simp only [PyData.depthAll]; omega, by simp only [PyData.weightAll]; omega⟩
  | d :: ds, h => by
    have a := h d (List.mem_cons_self ..)
    obtain ⟨b1, b2, b3, b4, b5, b6⟩ := nice_all (ds := ds) fun x hx => h x (List.mem_cons_of_mem _ hx)
    have aw := a.wt
    have ap := a.dp
    refine ⟨by simp only [PyData.showableAll, a.sh, b1, Bool.and_self], by simp only [PyData.hasDictAll, a.nd, b2, Bool.or_self], by simp only [PyData.leavesShortAll, a.lv, b3, Bool.and_self], by simp only [PyData.canLayAll0, a.cl, b4, Bool.and_self], by simp only [PyData.depthAll]; omega, ?_⟩
    simp only [PyData.weightAll]
    rw [List.length_cons, Nat.succ_mul]
    omega
theorem nice_list {ds : List PyData} {p w : Nat} (h : ∀ d ∈ ds, Nice d p w) : Nice (.list ds) (p + 1) (ds.length * (w + 1)) := by
  obtain ⟨b1, b2, b3, b4, b5, b6⟩ := nice_all h
  exact ⟨by simp only [PyData.showable, b1], by simp only [PyData.hasDict, b2], by simp only [PyData.leavesShort, b3], by simp only [PyData.canLay0, b4], by simp only [PyData.depth]; omega, by simp only [PyData.weight]; omega⟩
theorem nice_tup {ds : List PyData} {p w : Nat} (h : ∀ d ∈ ds, Nice d p w) : Nice (.tuple ds) (p + 1) (ds.length * (w + 1)) := by
  obtain ⟨b1, b2, b3, b4, b5, b6⟩ := nice_all h
  exact ⟨by simp only [PyData.showable, b1], by simp only [PyData.hasDict, b2], by simp only [PyData.leavesShort, b3], by simp only [PyData.canLay0, b4], by simp only [PyData.depth]; omega, by simp only [PyData.weight]; omega⟩
theorem nice_list2 {a b : PyData} {p w : Nat} (ha : Nice a p w) (hb : Nice b p w) : Nice (.list [a, b]) (p + 1) (2 * (w + 1)) := nice_list fun d hd => by
  rcases List.mem_cons.mp hd with rfl | hd
  · exact ha
  · rw [List.mem_singleton.mp hd]
    exact hb
def recD (p : Int × Int) : PyData := .tuple [.int p.1, .int p.2]
def lotD (lot : List (Int × Int)) : PyData := .list (lot.map recD)
def intsD (ns : List Int) : PyData := .list (ns.map .int)
theorem nice_rec {p : Int × Int} {n : Nat} (h1 : p.1.natAbs < 2 ^ n) (h2 : p.2.natAbs < 2 ^ n) (hn : n ≤ 148) : Nice (recD p) 1 (2 * (n + 1)) := nice_tup (ds := [.int p.1, .int p.2]) fun d hd => by
  rcases List.mem_cons.mp hd with rfl | hd
  · exact nice_int h1 hn
  · rw [List.mem_singleton.mp hd]
    exact nice_int h2 hn
theorem nice_lot {lot : List (Int × Int)} {n : Nat} (h : ∀ p ∈ lot, p.1.natAbs < 2 ^ n ∧ p.2.natAbs < 2 ^ n) (hn : n ≤ 148) : Nice (lotD lot) 2 (lot.length * (2 * (n + 1) + 1)) := by
  have z := nice_list (ds := lot.map recD) (p := 1) (w := 2 * (n + 1)) fun d hd => by
    obtain ⟨q, hq, rfl⟩ := List.mem_map.mp hd
    exact nice_rec (h q hq).1 (h q hq).2 hn
  rw [List.length_map] at z
  exact z
theorem nice_ints {ns : List Int} {n : Nat} (h : ∀ x ∈ ns, x.natAbs < 2 ^ n) (hn : n ≤ 148) : Nice (intsD ns) 1 (ns.length * (n + 1)) := by
  have z := nice_list (ds := ns.map PyData.int) (p := 0) (w := n) fun d hd => by
    obtain ⟨q, hq, rfl⟩ := List.mem_map.mp hd
    exact nice_int (h q hq) hn
  rw [List.length_map] at z
  exact z
section
variable {K : PySem.W.Frag} {H H' : Hp} {Q : VK}
theorem SqT.same {a : Addr} {xs : List V} (h : SqT K H a xs) (k : Same H H') : SqT K H' a xs := by
  rcases h with (h | ⟨o, h⟩) | h
  · exact .inl (.inl (k _ _ h))
  · exact .inl (.inr ⟨o, k _ _ h⟩)
  · exact .inr h
mutual
theorem Dp.same (k : Same H H') : ∀ {d : PyData} {v : V}, Dp K H v d → Dp K H' v d
  | .none, _, h => by
    cases h
    exact .non
  | .bool _, _, h => by
    cases h
    exact .bl _
  | .int _, _, h => by
    cases h
    exact .int _
  | .str _, _, h => by
    cases h
    exact .str _
  | .list ds, _, h => by
    cases h with
    | lst hs ha => exact .lst (Same.seq k hs) (DpAll.same k ha)
  | .tuple ds, _, h => by
    cases h with
    | tup hs ha => exact .tup (SqT.same hs k) (DpAll.same k ha)
  | .dict _, _, h => by cases h
theorem DpAll.same (k : Same H H') : ∀ {ds : List PyData} {vs : List V}, DpAll K H vs ds → DpAll K H' vs ds
  | [], _, h => by
    cases h
    exact .nil
  | d :: ds, _, h => by
    cases h with
    | cons h1 h2 => exact .cons (Dp.same k h1) (DpAll.same k h2)
end
theorem dpS {v : V} {d : PyData} (h : Dp K H v d) (k : Same H H') : Dp K H' v d := Dp.same k h
theorem dp_new {xs : List V} {ds : List PyData} {a : Addr} (h : H a = some (.lst xs)) (r : DpAll K H xs ds) : Dp K H (.ref a) (.list ds) := .lst (.inl (.inl h)) r
theorem dp_list2 {a : Addr} {x y : V} {d e : PyData} (h : H a = some (.lst [x, y])) (hd : Dp K H x d) (he : Dp K H y e) : Dp K H (.ref a) (.list [d, e]) := dp_new h (.cons hd (.cons he .nil))
/-- the same data on both sides -/
theorem r_neDD {x y : V} {d : PyData} (h1 : Dp K H x d) (h2 : Dp K H y d) (s : SeqAt.shaped d = true) (c : d.canLay0 = true) (q : Q (.bl false) H) : rNeD K x y H Q := ⟨d, d, h1, h2, s, s, by rw [PySem.SeqAt.eqv_refl d c]; exact q⟩
theorem r_eqDD {x y : V} {d : PyData} (h1 : Dp K H x d) (h2 : Dp K H y d) (s : SeqAt.shaped d = true) (c : d.canLay0 = true) (q : Q (.bl true) H) : rEqD K x y H Q := ⟨d, d, h1, h2, s, s, by rw [PySem.SeqAt.eqv_refl d c]; exact q⟩
/-- the same text on both sides -/
theorem r_neSS {x : Str} (q : Q (.bl false) H) : rNe (.str x) (.str x) H Q := r_neS (by rw [decide_eq_true rfl]; exact q)
end
end Rg
namespace Rg
open PySem PySem.Spec PyProof.Rows L2
/-! ### set(xs) of a list of ints -/
section
variable {P : Program} {w : World} {A : Around} {E : Value → Shared → Prop} {s : Shared}
/-- the set as it is made -/
abbrev fso (w : World) : Obj := { cls := .type "set", dict := none, data := .set #[] 0 (.fresh 0 0 (!w.params.followText "set-order")) }
theorem set_of_list {l : Addr} {its : Array Value} (ns : List Int) {Q : Value → Shared → Prop} (hh : A.handled = none) (hl : s.heap.IsList l its) (hi : IntsAre its.toList ns) (hb : ns.length + 1 < scanBound)
    (k : ∀ (h' : Heap) (tk c : Nat), SetR w h' s.heap.objs.size (fun j => decide (j ∈ ns)) c → c ≤ ns.length → (∀ b o, s.heap.get? b = some o → h'.get? b = some o) → Q (.ref s.heap.objs.size) { s with heap := h', toks := tk }) :
    wpAny (model P w) A (call (.type "set") [.ref l]) Q E s := by
  have sz : its.size = ns.length := by rw [← IntsAre.length hi, Array.length_toList]
  obtain ⟨c0, tl, mro⟩ := F.called_set.mro
  have made := F.called_set.made
  have sub := F.called_set.sub
  refine wpAny_call (codeAny_of_tree ?_)
  show wpAny (model P w) _ (callAny (.type "set") ⟨[.ref l], []⟩) _ _ s
  refine wpAny_pure ⟨Code.quiet_builtin _ (by decide +kernel), codeAny_builtin F.entry_type_call ?_⟩
  rw [Around.under_plain (weight_type_call_type "set" [.ref l] []) rfl]
  have nt := F.called_set.notType
  have cc := F.called_set.canCreate
  have tc := F.typeCall_set_1 (.ref l)
  repeat (any_goals (first | assumption | wp_step))
  refine codeAny_mono (code_set_led1 (.ref l) (E := E) (Q₁ := fun ob s1 => ob = .ref s.heap.objs.size ∧ s1 = { s with heap := s.heap.push (fso w) }) ⟨rfl, rfl⟩) fun r s1 hr => ?_
  match r, hr with
  | .error _, hr => exact hr
  | .ok .next, hr => exact hr.elim
  | .ok .brk, hr => exact hr.elim
  | .ok .cont, hr => exact hr.elim
  | .ok (.ret ob), hr =>
    obtain ⟨rfl, rfl⟩ := hr
    have at0 : (s.heap.push (fso w)).get? s.heap.objs.size = some (fso w) := Heap.get?_push_size _ rfl
    have ty : Shared.TypeIs { s with heap := s.heap.push (fso w) } (.ref s.heap.objs.size) "set" := ⟨_, at0, rfl⟩
    have il := F.called_set.init.lookup
    have ib := F.called_set.init.bind (.ref s.heap.objs.size)
    repeat (any_goals (first | assumption | wp_step))
    refine codeAny_mono (codeAny_call_builtin (R := wants (fun r s2 => r = .none ∧ ∃ h' tk c, s2 = { s with heap := h', toks := tk } ∧ SetR w h' s.heap.objs.size (fun j => decide (j ∈ ns)) c ∧ c ≤ ns.length ∧ (∀ b o, s.heap.get? b = some o → h'.get? b = some o)) E) F.called_set.init.plain F.entry_set_init (check_set_init_1 ty ?_)) fun r2 s2 hr2 => ?_
    · obtain ⟨⟨oc, od, odt, osl⟩, hol, hcl, nl, hdl⟩ := hl
      simp only at hcl hdl
      subst hcl
      subst hdl
      have hlt : l < s.heap.objs.size := Heap.lt_size hol
      have l1 : (s.heap.push (fso w)).IsList l its := ⟨_, Heap.get?_push_of_some _ hol, rfl, nl, rfl⟩
      have hol2 : (s.heap.push (fso w)).get? l = some { cls := .type "list", dict := od, data := .seq its nl, slots := osl } := Heap.get?_push_of_some _ hol
      have t1 := F.sub_list_set
      have t2 := F.sub_list_frozenset
      have t3 : (Value.type "list" == Value.type "dict") = false := by decide
      unfold Builtin.«set.__init__» noKeywords Builtin.Frozenset.updateFrom
      generalize hp : pyIter = pit
      wp_walk
      subst hp
      refine wpAny_pyIter_list l1 (wpAny_bind (wpAny_runValue ?_))
      have sz1 : (s.heap.push (fso w)).objs.size = s.heap.objs.size + 1 := Heap.size_push ..
      have hd3 : A.in1.in1.in1.handled = none := by simp [hh]
      have nI : l ≠ (s.heap.push (fso w)).objs.size := Nat.ne_of_lt (by rw [sz1]; exact Nat.lt_succ_of_lt hlt)
      have nS : s.heap.objs.size ∉ [(s.heap.push (fso w)).objs.size, l] := by
        intro z
        rcases List.mem_cons.mp z with z | z
        · exact Nat.ne_of_lt (by rw [sz1]; exact Nat.lt_succ_self _) z
        · exact Nat.ne_of_gt hlt (List.mem_singleton.mp z)
      have vals : ∀ (i : Nat) (v : Value), its[i]? = some v → ∃ k t, ns[i]? = some k ∧ v = .int k t := fun i v hv => by
        have hlt : i < ns.length := sz ▸ (Array.getElem?_eq_some_iff.mp hv).1
        obtain ⟨t, e⟩ := PyProof.Rows.IntsAre.int_at hi i v (by rw [Array.getElem?_toList]; exact hv)
        exact ⟨ns[i], t, List.getElem?_eq_getElem hlt, by rw [e, List.getD_eq_getElem?_getD, List.getElem?_eq_getElem hlt] <;> rfl⟩
      refine set_update_ints ((Walks.list hd3 _ l nI its).toS) s.heap.objs.size nS ns sz hb vals (its.size - 0) 0 _ (by omega) (Nat.zero_le _) ⟨⟨_, Heap.get?_push_size _ rfl, rfl, rfl⟩, l1.push _⟩ ⟨0, Nat.le_refl 0, setR_new_at (Heap.get?_push_of_some _ at0)⟩ fun s' c' mv hc' hS' => ?_
      obtain ⟨h', g', d', tk', os'⟩ := s'
      obtain rfl : g' = s.gens := mv.gens
      obtain rfl : d' = s.drawn := mv.drawn
      obtain rfl : os' = s.os := mv.os
      show wpAny _ _ _ _ _ _
      refine wpAny_pure ?_
      show wpAny _ _ (ret Value.none) _ _ _
      refine wpAny_pure ⟨rfl, h', tk', c', rfl, hS', sz ▸ hc', fun b o e => ?_⟩
      have b0 : b < s.heap.objs.size := Heap.lt_size e
      refine mv.heap b o (fun z => ?_) (Heap.get?_push_of_some _ (Heap.get?_push_of_some _ e))
      rcases List.mem_cons.mp z with z | z
      · exact Nat.ne_of_lt b0 z
      · exact Nat.ne_of_lt (by rw [sz1]; exact Nat.lt_succ_of_lt b0) (List.mem_singleton.mp z)
    · match r2, hr2 with
      | .error _, hr2 => exact hr2
      | .ok .next, hr2 => exact hr2.elim
      | .ok .brk, hr2 => exact hr2.elim
      | .ok .cont, hr2 => exact hr2.elim
      | .ok (.ret v), hr2 =>
        obtain ⟨rfl, h', tk, c', rfl, hS', hc', hk'⟩ := hr2
        repeat (any_goals (first | assumption | wp_step))
        exact k _ _ _ hS' hc' hk'
end
section
variable {X : Cx}
def rSetOfL (K : PySem.W.Frag) (w : World) : List V → Hp → VK → Prop := fun xs H Q => ∃ (l : Addr) (ns : List Int), xs = [.ref l] ∧ SqL K H l (ns.map V.int) ∧ ns.length ≤ 4000 ∧ ∀ (p : Addr) (c : Nat), H p = none → c ≤ ns.length → Q (.ref p) (upd H p (SetO w p (fun j => decide (j ∈ ns)) c))
theorem call_setL (hc : X.calm = true) : CallR X (.type "set") (rSetOfL X.K X.w) := by
  intro pins s σ H xs us Q I r h
  obtain ⟨l, ns, rfl, hs, hn, q⟩ := h
  cases r with
  | cons r1 r2 =>
    cases r2
    cases r1
    obtain ⟨its, rv, pl, _⟩ := I.list hs
    have hd : X.A.handled = none := I.ok.hd (by assumption)
    refine set_of_list ns hd pl.isList (by simpa using rv.ints) (by unfold scanBound; omega) fun h' tk c R hc hk => ?_
    exact ⟨.ref _, upd H s.heap.objs.size (SetO X.w s.heap.objs.size (fun j => decide (j ∈ ns)) c), I.laid (t' := tk) hk (Nat.le_refl _) (setO_new R), rfl, q _ _ (I.hok.fresh (Nat.le_refl _)) hc⟩
end
end Rg
namespace Rg
open PySem PySem.Spec PyProof.Rows L2
/-! ### xs[:0:-1] -/
theorem bnd_to0 {n : Nat} (h : 0 < n) : sliceBounds none (some 0) (some (-1)) n = ((n : Int) - 1, 0, -1) := by
  simp [sliceBounds]
  omega
theorem pick_to0 (its : Array Value) : slicePick its none (some 0) (some (-1)) = (its.toList.drop 1).reverse.toArray := by
  unfold slicePick
  by_cases h : 0 < its.size
  · rw [bnd_to0 h]
    have e : sliceRange ((its.size : Int) - 1) 0 (-1) = (List.range (its.size - 1)).map fun k => its.size - 1 - k := by
      unfold sliceRange
      have h1 : ¬ ((-1 : Int) > 0) := by decide
      by_cases c : (its.size : Int) - 1 > 0
      · have e : ((its.size : Int) - 1 - 0 - -1 - 1) / (- -1) = ((its.size - 1 : Nat) : Int) := by
          rw [show (- -1 : Int) = 1 by decide, Int.ediv_one]
          omega
        simp only [h1, if_false, c, if_true, e, Int.toNat_natCast]
        apply List.map_congr_left
        intro k hk
        have := List.mem_range.mp hk
        omega
      · have e : its.size - 1 = 0 := by omega
        simp only [h1, if_false, c, e]
        rfl
    show ((sliceRange ((its.size : Int) - 1) 0 (-1)).filterMap (its[·]?)).toArray = _
    rw [e]
    congr 1
    have hl : its.toList.length = its.size := Array.length_toList
    generalize hn : its.size = n at *
    refine List.ext_getElem? fun i => ?_
    have fm : ((List.range (n - 1)).map fun k => n - 1 - k).filterMap (its[·]?) = (List.range (n - 1)).map fun k => its.toList.getD (n - 1 - k) Value.none := by
      rw [List.filterMap_map]
      have go : ∀ l : List Nat, (∀ k ∈ l, k < n - 1) → l.filterMap ((its[·]?) ∘ fun k => n - 1 - k) = l.map fun k => its.toList.getD (n - 1 - k) Value.none := by
        intro l hl2
        induction l with
        | nil => rfl
        | cons k l ih =>
          have hk := hl2 k (List.mem_cons_self ..)
          have hk2 : n - 1 - k < its.toList.length := by omega
          have e1 : ((its[·]?) ∘ fun k => n - 1 - k) k = some (its.toList.getD (n - 1 - k) Value.none) := by
            show its[n - 1 - k]? = _
            rw [← Array.getElem?_toList, List.getElem?_eq_getElem hk2, List.getD_eq_getElem?_getD, List.getElem?_eq_getElem hk2]
            rfl
          rw [List.filterMap_cons, e1, ih fun x hx => hl2 x (List.mem_cons_of_mem _ hx)]
          rfl
      exact go _ fun k hk => List.mem_range.mp hk
    rw [fm, List.getElem?_map]
    by_cases c : i < n - 1
    · rw [List.getElem?_range c, List.getElem?_reverse (by rw [List.length_drop]; omega), List.getElem?_drop, List.length_drop, hl]
      have e2 : 1 + (n - 1 - 1 - i) = n - 1 - i := by omega
      have hk2 : n - 1 - i < its.toList.length := by omega
      rw [e2, List.getElem?_eq_getElem hk2]
      show some (its.toList.getD (n - 1 - i) Value.none) = _
      rw [List.getD_eq_getElem?_getD, List.getElem?_eq_getElem hk2]
      rfl
    · rw [List.getElem?_eq_none (by rw [List.length_range]; omega), List.getElem?_eq_none (by rw [List.length_reverse, List.length_drop]; omega)]
      rfl
  · have e : its = #[] := Array.eq_empty_of_size_eq_zero (by omega)
    subst e
    rfl
def tRev0 (K : PySem.W.Frag) (te : TE) : TE := fun σ H Q => te σ H fun x H1 => ∃ a xs, x = .ref a ∧ SqL K H1 a xs ∧ ∀ p, H1 p = none → Q (.ref p) (upd H1 p (.lst (xs.drop 1).reverse))
section
variable {X : Cx}
theorem vals_drop {xs : List V} {us : List Value} (h : Vals xs us) : Vals (xs.drop 1) (us.drop 1) := by
  cases h with
  | nil => exact .nil
  | cons _ t => exact t
theorem pe_rev0 {e : Expr} {te : TE} {j k : Nat} {p0 p1 p2 p3 pos : Pos} (he : PE X e te) : PE X (.Subscript e (.Slice none (some (.Constant (.int 0) j p0)) (some (.UnaryOp .USub (.Constant (.int 1) k p1) p2)) p3) pos) (tRev0 X.K te) := by
  constructor
  intro pins s σ H Q I h
  refine Subscript_ (thn (he.run pins s σ H _ I h) fun v s1 z => ?_)
  obtain ⟨x, H1, I1, r1, a, xs, rfl, hx, q⟩ := z
  cases r1
  have po0 : PO X (some (.Constant (.int 0) j p0)) (tPart (tC (.int 0))) := po_some pe_int
  have po1 : PO X (some (.UnaryOp .USub (.Constant (.int 1) k p1) p2)) (tPart (tUn (rU fun i => .int (-i)) (tC (.int 1)))) := po_some (pe_un un_neg pe_int)
  refine wpAny_Slice (thn (po_none.run pins s1 σ H1 (fun o G => o = none ∧ G = H1) I1 ⟨rfl, rfl⟩) fun vl s2 z => ?_)
  obtain ⟨_, _, I2, pl, rfl, rfl⟩ := z
  refine thn (po0.run pins s2 σ _ (fun o G => o = some 0 ∧ G = _) I2 ⟨0, rfl, rfl, rfl⟩) fun vu s3 z => ?_
  obtain ⟨_, _, I3, pu, rfl, rfl⟩ := z
  refine thn (po1.run pins s3 σ _ (fun o G => o = some (-1) ∧ G = _) I3 ⟨1, rfl, -1, rfl, rfl, rfl⟩) fun vs s4 z => ?_
  obtain ⟨_, _, I4, ps, rfl, rfl⟩ := z
  have I5 : Inv X pins σ _ { s4 with heap := s4.heap.push { cls := .type "slice", data := .fields #[vl, vu, vs] } } := I4.kept (t' := s4.toks) fun b ob q => Heap.get?_push_of_some _ q
  obtain ⟨its, r, ht, hz⟩ := I5.list hx
  show wpAny (model X.prog X.w) X.A (subscriptTail e _ (.ref a) (.ref s4.heap.objs.size)) (EP X pins σ Q) X.xe { s4 with heap := s4.heap.push { cls := .type "slice", data := .fields #[vl, vu, vs] } }
  refine tail_any (ops := [.ref a, .ref s4.heap.objs.size]) ht.isList.typeIs PySem.slot_list_getitem.lookup ?_ (by with_unfolding_all rfl)
  refine wpAny_getItem_list_slice ht.isList (Heap.IsSliceOf.new _ vl vu vs) pl pu ps (by decide) ?_ (by rw [List.size_toArray, ← r.length]; exact hz)
  rw [pick_to0]
  refine ⟨.ref _, _, I5.laid (t' := s4.toks) (o := .lst (xs.drop 1).reverse) (fun b ob q => Heap.get?_push_of_some _ q) (Nat.le_refl _) ?_, rfl, q _ (I5.hok.fresh (Nat.le_refl _))⟩
  exact ⟨by rw [List.length_reverse, List.length_drop]; omega, _, 0, (vals_drop r).reverse, Heap.get?_push_size _ rfl⟩
end
section
variable {K : PySem.W.Frag} {σ : L2.St} {H : Hp} {Q : VK} {te : TE}
theorem r_rev0 (h : te σ H fun x H1 => ∃ a xs, x = .ref a ∧ SqL K H1 a xs ∧ ∀ p, H1 p = none → Q (.ref p) (upd H1 p (.lst (xs.drop 1).reverse))) : tRev0 K te σ H Q := h
theorem r_revL (h : te σ H fun x H1 => ∃ a xs, x = .ref a ∧ SqL K H1 a xs ∧ ∀ p, H1 p = none → Q (.ref p) (upd H1 p (.lst xs.reverse))) : tRevL K te σ H Q := h
end
end Rg
namespace Rg
open PySem PySem.Spec PyProof.Rows L2
/-! ### classes of errors without a constructor of their own -/
abbrev veB : List Value := [.type "ValueError", .type "Exception", .type "BaseException", .type "object"]
structure Xc (K : PySem.W.Frag) (mg : Str → Option Value) (x : Str) (C : Addr) : Prop where
  g : mg x = some (.ref C)
  ex : PySem.W.excIn K C veB "ValueError.__new__" = true
  kp : PySem.W.keepIn K (.ref C) = true
  sb : PySem.W.subIn K (.ref C) (.type "BaseException") = some true
  ty : PySem.W.typeIn K (.ref C) = some (.type "type")
  me : PySem.W.exmOne K (.ref C) (.ref C) = some true
theorem Xc.raises {X : Cx} {x : Str} {C : Addr} (T : Xc X.K X.mg x C) : Raises X (.ref C) := raises_own T.sb T.ty
def tRz (C : Addr) (W : WX) : TS := fun _ σ H => W (.ref C) none σ H
theorem ps_raiseT {X : Cx} {W : WX} {x m : Str} {C : Addr} {j : Nat} {p p2 pos pos' : Pos} (hc : X.calm = true) (T : Xc X.K X.mg x C) (tk : Takes X W) (hg : Gl X x) (hdb : (x == ("__debug__" : Str)) = false := by decide) :
    PS X (.Raise (some (.Call (.Name x p) [.Constant (.str m) j p2] [] pos)) none pos') (tRz C W) :=
  ps_raise hc tk (pmk_own PySem.F.excBase_ValueError T.ex T.g T.kp T.raises hg hdb)
/-- what an own class's name tells by itself -/
theorem exm_self {K : PySem.W.Frag} {S : Addr} (h1 : PySem.W.subIn K (.ref S) (.type "BaseException") = some true) (h2 : PySem.W.isClsIn K S = true) (h3 : PySem.W.typeIn K (.ref S) = some (.type "type")) (h4 : PySem.W.subIn K (.ref S) (.ref S) = some true) :
    PySem.W.exmOne K (.ref S) (.ref S) = some true := by
  have e1 : (PySem.W.subIn K (.ref S) (.type "BaseException") == some true) = true := by rw [h1] <;> rfl
  have e2 : ((PySem.W.clsIn K S).isSome && PySem.W.typeIn K (.ref S) == some (.type "type")) = true := by
    have h2' : (PySem.W.clsIn K S).isSome = true := h2
    rw [h2', h3] <;> rfl
  show (if (PySem.W.subIn K (.ref S) (.type "BaseException") == some true) = true then (if ((PySem.W.clsIn K S).isSome && PySem.W.typeIn K (.ref S) == some (.type "type")) = true then PySem.W.subIn K (.ref S) (.ref S) else none) else none) = some true
  rw [if_pos e1, if_pos e2]
  exact h4
/-! ### repr of any such data -/
section
variable {X : Cx}
def rReprV (K : PySem.W.Frag) : List V → Hp → VK → Prop := fun xs H Q => (xs = [.non] ∧ Q (.str (PyData.none).shown) H) ∨ rRepr K xs H Q
theorem call_reprV (hg : X.A.guards = some []) (hu : X.A.units + 64 < cLine) : CallR X (.builtin "repr") (rReprV X.K) := by
  intro pins s σ H xs us Q I r h
  rcases h with ⟨rfl, q⟩ | h
  · cases r with
    | cons r1 r2 =>
      cases r2
      cases r1
      have e : (PyData.none).shown = ("None" : Str) := by simp only [PyData.shown]
      rw [e] at q
      exact PySem.P.repr_of_none ⟨.str _, H, I.tok _, ⟨_, rfl⟩, q⟩
  · exact call_repr hg hu pins s σ H xs us Q I r h
end
section
variable {K : PySem.W.Frag} {H : Hp} {Q : VK}
theorem r_reprV {a : Addr} {d : PyData} (hd : Dp K H (.ref a) d) (hr : reprD d) (q : Q (.str d.shown) H) : rReprV K [.ref a] H Q := .inr ⟨a, d, rfl, hd, hr, q⟩
theorem r_reprN (q : Q (.str (PyData.none).shown) H) : rReprV K [.non] H Q := .inl ⟨rfl, q⟩
end
end Rg
namespace Rg
open PySem PySem.Spec PyProof.Rows L2
/-! ### an int in a list of any data -/
def eqUI (x : Int) : Value → Bool
  | .int i _ => i == x
  | .bool b => (if b then 1 else 0) == x
  | _ => false
theorem eqv_int_of {h : Heap} {x : Int} {u : Value} {d : PyData} {as : List Addr} (r : Reads h u d as) : PyData.eqv d (.int x) = eqUI x u := by
  cases r <;> simp [PyData.eqv, eqUI]
theorem any_eqUI {h : Heap} {x : Int} : ∀ {us : List Value} {ds : List PyData} {as : List Addr}, ReadsAll h us ds as → us.any (eqUI x) = ds.any fun d => PyData.eqv d (.int x)
  | _, _, _, .nil => rfl
  | _, _, _, .cons r t => by rw [List.any_cons, List.any_cons, eqv_int_of r, any_eqUI t]
theorem mem_eqUI {A : Around} {s : Shared} {x : Int} {v : Value} (rx : RelV (.int x) v) (hu : A.units < cLine) : ∀ {us : List Value} {ds : List PyData} {as : List Addr}, ReadsAll s.heap us ds as → PyData.canLayAll0 ds = true → ∀ u ∈ us, SeqAt.EqAt A s u v (eqUI x u)
  | _, _, _, .nil, _ => fun u hu => by cases hu
  | _, _, _, .cons (d := d) (ds := ds) r t, f => fun u' hm => by
    simp only [PyData.canLayAll0, Bool.and_eq_true] at f
    rcases List.mem_cons.mp hm with rfl | hm
    · rw [← eqv_int_of r]
      obtain ⟨tk, rfl⟩ := rx
      refine SeqAt.eqAt_reads d (.int x) A s _ _ _ _ r (Reads.int x tk) f.1 (by simp only [PyData.canLay0]) ?_
      have e : (PyData.int x).depth = 0 := by simp only [PyData.depth]
      rw [e, Nat.min_zero]
      exact hu
    · exact mem_eqUI rx hu t f.2 u' hm
def rNiI (K : PySem.W.Frag) : R2 := fun x y H Q => ∃ (p : Addr) (xs : List V) (ds : List PyData) (i : Int), x = .int i ∧ y = .ref p ∧ SqL K H p xs ∧ DpAll K H xs ds ∧ PyData.canLayAll0 ds = true ∧ Q (.bl (!ds.any fun d => PyData.eqv d (.int i))) H
section
variable {X : Cx}
theorem op_notInI (hu : X.A.units + 64 < cLine) : OpR X (compareOp .NotIn) (rNiI X.K) := by
  intro pins s σ H x y v u Q I rx ry h
  obtain ⟨p, xs, ds, i, rfl, rfl, hs, ha, hc, q⟩ := h
  cases ry
  obtain ⟨its, r, pl, hz⟩ := I.list hs
  obtain ⟨as, ra⟩ := Dp.readsAll I ds xs its ha r
  refine SeqAt.notIn_listAt (eqUI i) pl.isList (fun w hw => mem_eqUI (A := X.A.in1) rx (by show X.A.units + 1 < cLine; omega) ra hc w (by simpa using hw)) ⟨.bl _, H, I, rfl, ?_⟩
  rw [show its.toArray.any (eqUI i) = its.any (eqUI i) by simp, any_eqUI ra]
  exact q
/-! ### repr of an empty dict -/
theorem call_reprE (hg : X.A.guards = some []) (hu : X.A.units + 64 < cLine) : CallR X (.builtin "repr") (fun xs H Q => ∃ a, xs = [.ref a] ∧ H a = some (.dK []) ∧ Q (.str (PyData.dict []).shown) H) := by
  intro pins s σ H xs us Q I r h
  obtain ⟨a, rfl, e, q⟩ := h
  cases r with
  | cons r1 r2 =>
    cases r2
    cases r1
    obtain ⟨_, ne, vs, rel, o, es, ep, ho, ⟨hc, _⟩, hd, _, pp, _⟩ := dk_of I.hok e
    cases rel
    have e0 : es.toList = [] := by
      have z := pp.length
      exact List.eq_nil_of_length_eq_zero z
    have rd : Reads s.heap (.ref a) (.dict []) (a :: [] ++ []) := Reads.dict ho hc hd (by rw [e0]; exact .nil) (by rw [e0]; exact .nil)
    refine repr_of_reads' rd (by decide +kernel) (fun _ => ?_) hg (by have e : (PyData.dict []).depth ≤ 1 := (by decide +kernel); omega) (fun _ _ z => z) (fun h' u tk hk => ⟨.str _, H, I.kept hk, ⟨u, rfl⟩, q⟩) (by decide +kernel)
    intro hm
    have hm : sysModules = a := by simpa using hm
    rw [← hm] at ne
    simp at ne
/-! ### types of data -/
def tyN : PyData → String
  | .none => "NoneType"
  | .bool _ => "bool"
  | .int _ => "int"
  | .str _ => "str"
  | .list _ => "list"
  | .tuple _ => "tuple"
  | .dict _ => "dict"
def BasicTy (a : String) : Prop := a = "NoneType" ∨ a = "bool" ∨ a = "int" ∨ a = "str" ∨ a = "list" ∨ a = "tuple" ∨ a = "dict"
theorem tyN_basic (d : PyData) : BasicTy (tyN d) := by
  cases d <;> simp [BasicTy, tyN]
theorem meta_basic {a : String} (h : BasicTy a) (s' : Shared) : s'.TypeIs (.type a) "type" := by
  rcases h with rfl | rfl | rfl | rfl | rfl | rfl | rfl
  · exact PySem.TypeEq.meta_NoneType s'
  · exact PySem.TypeEq.meta_bool s'
  · exact PySem.TypeEq.meta_int s'
  · exact PySem.TypeEq.meta_str s'
  · exact PySem.TypeEq.meta_list s'
  · exact PySem.TypeEq.meta_tuple s'
  · exact PySem.TypeEq.meta_dict s'
def rTyD : R2 := fun x y H Q => ∃ a b, BasicTy a ∧ BasicTy b ∧ x = .ty a ∧ y = .ty b ∧ Q (.bl (decide (a = b))) H
theorem op_eqTyD : OpR X (compareOp .Eq) rTyD := by
  intro pins s σ H x y v u Q I rx ry h
  obtain ⟨a, b, ha, hb, rfl, rfl, q⟩ := h
  cases (show v = Value.type a from rx)
  cases (show u = Value.type b from ry)
  by_cases e : a = b
  · subst e
    rw [decide_eq_true rfl] at q
    exact PySem.TypeEq.eq_type_same (meta_basic ha) ⟨.bl true, H, I, rfl, q⟩
  · rw [decide_eq_false e] at q
    refine PySem.TypeEq.eq_type_other (meta_basic ha) (meta_basic hb) ?_ ⟨.bl false, H, I, rfl, q⟩
    simpa using e
/-- any data, or an empty dict -/
def Dv (K : PySem.W.Frag) (H : Hp) (v : V) (d : PyData) : Prop := Dp K H v d ∨ ∃ a, v = .ref a ∧ d = .dict [] ∧ H a = some (.dK [])
theorem Dv.tyB {K : PySem.W.Frag} {H : Hp} {v : V} {d : PyData} (h : Dv K H v d) : TyB K H v (tyN d) := by
  rcases h with h | ⟨a, rfl, rfl, e⟩
  · cases h with
    | non => exact .non
    | bl b => exact .bl b
    | int i => exact .int i
    | str x => exact .str x
    | lst hs _ => exact .lst hs
    | tup hs _ => exact .tup hs
  · exact .dK e
theorem Dv.same {K : PySem.W.Frag} {H H' : Hp} {v : V} {d : PyData} (h : Dv K H v d) (k : Same H H') : Dv K H' v d := by
  rcases h with h | ⟨a, rfl, rfl, e⟩
  · exact .inl (dpS h k)
  · exact .inr ⟨a, rfl, rfl, k _ _ e⟩
theorem Dv.tyX {K : PySem.W.Frag} {H : Hp} {v : V} {d : PyData} (h : Dv K H v d) : TyX K H v (.type (tyN d)) := by
  rcases h with h | ⟨a, rfl, rfl, e⟩
  · cases h with
    | non => exact .base .non
    | bl b => exact .base (.bl b)
    | int i => exact .base (.int i)
    | str x => exact .base (.str x)
    | lst hs _ =>
      rcases hs with (e | ⟨o, e⟩) | ⟨o, its, n, e, c, _⟩
      · exact .base (.lst e)
      · exact .base (.frz e)
      · exact .kList e c
    | tup hs _ =>
      rcases hs with (e | ⟨o, e⟩) | ⟨o, its, n, e, c, _⟩
      · exact .base (.tup e)
      · exact .fTuple e
      · exact .kTuple e c
  · exact .base (.dK e)
/-- isinstance(x, int), isinstance(x, bool) -/
def isNum : PyData → Bool
  | .int _ => true
  | .bool _ => true
  | _ => false
def isBoo : PyData → Bool
  | .bool _ => true
  | _ => false
def isInt : PyData → Bool
  | .int _ => true
  | _ => false
theorem kit_int (K : PySem.W.Frag) (d : PyData) : PySem.W.kitOne K (.type (tyN d)) (.type "int") = some (isNum d) := by
  cases d <;> rfl
theorem kit_bool (K : PySem.W.Frag) (d : PyData) : PySem.W.kitOne K (.type (tyN d)) (.type "bool") = some (isBoo d) := by
  cases d <;> rfl
def isLst : PyData → Bool
  | .list _ => true
  | _ => false
theorem kit_list (K : PySem.W.Frag) (d : PyData) : PySem.W.kitOne K (.type (tyN d)) (.type "list") = some (isLst d) := by
  cases d <;> rfl
theorem isi_int {K : PySem.W.Frag} {H : Hp} {Q : VK} {v : V} {d : PyData} (h : Dv K H v d) (q : Q (.bl (isNum d)) H) : rIsi K [v, .ty "int"] H Q := ⟨v, .ty "int", _, _, _, rfl, .ty "int", h.tyX, kit_int K d, q⟩
theorem isi_bool {K : PySem.W.Frag} {H : Hp} {Q : VK} {v : V} {d : PyData} (h : Dv K H v d) (q : Q (.bl (isBoo d)) H) : rIsi K [v, .ty "bool"] H Q := ⟨v, .ty "bool", _, _, _, rfl, .ty "bool", h.tyX, kit_bool K d, q⟩
theorem isi_list {K : PySem.W.Frag} {H : Hp} {Q : VK} {v : V} {d : PyData} (h : Dv K H v d) (q : Q (.bl (isLst d)) H) : rIsi K [v, .ty "list"] H Q := ⟨v, .ty "list", _, _, _, rfl, .ty "list", h.tyX, kit_list K d, q⟩
/-! ### repr of any value -/
def rReprA (K : PySem.W.Frag) : List V → Hp → VK → Prop := fun xs H Q => ∃ (v : V) (d : PyData), xs = [v] ∧ Dv K H v d ∧ (reprD d ∨ d = .dict []) ∧ Q (.str d.shown) H
theorem call_reprA (hg : X.A.guards = some []) (hu : X.A.units + 64 < cLine) : CallR X (.builtin "repr") (rReprA X.K) := by
  intro pins s σ H xs us Q I r h
  obtain ⟨v, d, rfl, hd, hr, q⟩ := h
  rcases hd with hd | ⟨a, rfl, rfl, e⟩
  · have hr2 : reprD d := by
      rcases hr with hr | rfl
      · exact hr
      · cases hd
    obtain ⟨d1, d2, d3, d4, d5⟩ := hr2
    cases hd with
    | lst hs ha => exact call_repr hg hu pins s σ H _ us Q I r ⟨_, _, rfl, .lst hs ha, ⟨d1, d2, d3, d4, d5⟩, q⟩
    | tup hs ha => exact call_repr hg hu pins s σ H _ us Q I r ⟨_, _, rfl, .tup hs ha, ⟨d1, d2, d3, d4, d5⟩, q⟩
    | non => exact call_reprV hg hu pins s σ H _ us Q I r (.inl ⟨rfl, q⟩)
    | bl b =>
      obtain ⟨u, rfl, rfl⟩ := vals1 r
      simp only [PyData.shown] at q
      exact PySem.P.repr_of_bool ⟨.str _, H, I.tok _, ⟨_, rfl⟩, q⟩
    | int i =>
      obtain ⟨u, rfl, t, rfl⟩ := vals1 r
      simp only [PyData.shown] at q
      simp only [PyData.showable, decide_eq_true_eq] at d1
      exact PySem.P.repr_of_int d1 ⟨.str _, H, I.tok _, ⟨_, rfl⟩, q⟩
    | str x =>
      obtain ⟨u, rfl, t, rfl⟩ := vals1 r
      have z := PyData.shown_le 150 (by decide) (.str x) d3
      have e : (150 + 2) * (PyData.str x).weight ≤ 152 * 100000 := Nat.mul_le_mul (by decide) d5
      have z2 : (PyData.str x).shown.length ≤ sizeLine := by
        show _ ≤ 2 ^ 24
        omega
      simp only [PyData.shown] at q z2
      exact PySem.P.repr_of_str ⟨.str _, H, I.tok _, ⟨_, rfl⟩, q⟩ z2
  · exact call_reprE hg hu pins s σ H _ us Q I r ⟨a, rfl, e, q⟩
end
/-! ### a comprehension with a test -/
theorem lcf_gen {J : It} {g : TG} {te : TE} {tt : TT} {σ : L2.St} {H : Hp} {D : Addr} {vs : List Nat} {Qd : Hp → Prop} (n : Nat) (hn : n ≤ 1000) (I : Nat → List V → Hp → Prop) (h0 : I 0 [] (upd H D (.lst [])))
    (hstop : ∀ acc h, I n acc h → J.stop n h) (hgo : ∀ i acc h, i < n → I i acc h → J.go i h)
    (hstep : ∀ i h x h' acc (Qy : VK) (Qn : Hp → Prop), i < n → I i acc h → h D = some (.lst acc) → J.yld i h x h' →
      (∀ y h4, h4 D = some (.lst acc) → I (i + 1) (acc ++ [y]) (upd h4 D (.lst (acc ++ [y]))) → Qy y h4) → (∀ h3, h3 D = some (.lst acc) → I (i + 1) acc h3 → Qn h3) →
      g x (wipe σ vs) h' fun σ2 H2 => wipe σ2 vs = wipe σ vs ∧ tt σ2 H2 fun b H3 => if b = true then te σ2 H3 Qy else Qn H3)
    (hdone : ∀ h acc, I n acc h → h D = some (.lst acc) → acc.length ≤ n → Qd h) :
    ∃ W : Nat → Nat → Hp → Prop, (∃ m, W 0 m (upd H D (.lst []))) ∧ ∀ i m H, W i m H →
    (J.stop i H ∧ Qd H) ∨ (J.go i H ∧ ∃ Nx : Hp → Prop, (∀ H', Nx H' → ∃ m', m' < m ∧ W (i + 1) m' H') ∧ ∀ x H', J.yld i H x H' → g x (wipe σ vs) H' fun σ2 H2 => wipe σ2 vs = wipe σ vs ∧ tt σ2 H2 fun b H3 =>
      if b = true then te σ2 H3 fun y H4 => ∃ acc, H4 D = some (.lst acc) ∧ acc.length < sizeLine ∧ Nx (upd H4 D (.lst (acc ++ [y]))) else Nx H3) := by
  refine ⟨fun i m h => i + m = n ∧ ∃ acc : List V, h D = some (.lst acc) ∧ acc.length ≤ i ∧ I i acc h, ⟨n, Nat.zero_add n, [], upd_same, Nat.le_refl _, h0⟩, fun i m h hw => ?_⟩
  obtain ⟨em, acc, ha, hl, hI⟩ := hw
  cases m with
  | zero =>
    have ei : i = n := by omega
    subst ei
    exact .inl ⟨hstop acc h hI, hdone h acc hI ha hl⟩
  | succ m =>
    refine .inr ⟨hgo i acc h (by omega) hI, fun h' => i + 1 + m = n ∧ ∃ acc : List V, h' D = some (.lst acc) ∧ acc.length ≤ i + 1 ∧ I (i + 1) acc h', fun h' q => ⟨m, Nat.lt_succ_self m, q⟩, fun x h' y => ?_⟩
    refine hstep i h x h' acc _ _ (by omega) hI ha y (fun z h4 a4 i4 => ⟨acc, a4, Nat.lt_of_lt_of_le (show acc.length < 2000 by omega) (by decide), by omega, _, upd_same, by rw [List.length_append, List.length_singleton]; omega, i4⟩) (fun h3 a3 i3 => ⟨by omega, acc, a3, by omega, i3⟩)
theorem r_lcf {wi : TI} {g : TG} {te : TE} {tt : TT} {σ : L2.St} {H : Hp} {vs : List Nat} {Q : VK} (h : wi σ H fun J H1 => ∀ D, H1 D = none → ∃ W : Nat → Nat → Hp → Prop, (∃ m, W 0 m (upd H1 D (.lst []))) ∧ ∀ i m H, W i m H →
    (J.stop i H ∧ Q (.ref D) H) ∨ (J.go i H ∧ ∃ Nx : Hp → Prop, (∀ H', Nx H' → ∃ m', m' < m ∧ W (i + 1) m' H') ∧ ∀ x H', J.yld i H x H' → g x (wipe σ vs) H' fun σ2 H2 => wipe σ2 vs = wipe σ vs ∧ tt σ2 H2 fun b H3 =>
      if b = true then te σ2 H3 fun y H4 => ∃ acc, H4 D = some (.lst acc) ∧ acc.length < sizeLine ∧ Nx (upd H4 D (.lst (acc ++ [y]))) else Nx H3)) : tLc wi g tt te vs σ H Q := h
end Rg
namespace Rm
open PySem PySem.Spec PyProof.Rows L2 Rg
/-! ### values and what stands for them -/
structure Tri (α β γ : Type) where
  a : α
  b : β
  c : γ
class Enc (α : Type) where
  rel : PySem.W.Frag → Hp → V → α → Prop
  mono : ∀ {K : PySem.W.Frag} {F F' : Hp} {v : V} {x : α}, Same F F' → rel K F v x → rel K F' v x
open Enc (rel)
/-- .. of plain data, without dicts -/
class EncD (α : Type) [Enc α] where
  d : α → PyData
  dp : ∀ {K : PySem.W.Frag} {F : Hp} {v : V} {x : α}, rel K F v x → Dp K F v (d x)
instance : Enc Int := ⟨fun _ _ v x => v = .int x, fun _ h => h⟩
instance : EncD Int := ⟨.int, fun h => by cases h; exact .int _⟩
instance : Enc Bool := ⟨fun _ _ v x => v = .bl x, fun _ h => h⟩
instance : EncD Bool := ⟨.bool, fun h => by cases h; exact .bl _⟩
instance : Enc Unit := ⟨fun _ _ v _ => v = .non, fun _ h => h⟩
instance : EncD Unit := ⟨fun _ => .none, fun h => by cases h; exact .non⟩
instance : Enc Str := ⟨fun _ _ v x => v = .str x, fun _ h => h⟩
instance : EncD Str := ⟨.str, fun h => by cases h; exact .str _⟩
instance {α : Type} [Enc α] : Enc (Option α) := ⟨fun K F v o => match o with | none => v = .non | some x => rel K F v x, fun {K F F' v x} s h => match x, h with
  | none, h => h
  | some _, h => Enc.mono s h⟩
instance {α : Type} [Enc α] [EncD α] : EncD (Option α) := ⟨fun o => match o with | none => .none | some x => EncD.d x, fun {K F v x} h => match x, h with
  | none, h => by cases h; exact .non
  | some _, h => EncD.dp h⟩
theorem Paired.imp {α β : Type} {R R' : α → β → Prop} (h : ∀ a b, R a b → R' a b) : ∀ {xs : List α} {ys : List β}, Paired R xs ys → Paired R' xs ys
  | _, _, .nil => .nil
  | _, _, .cons a t => .cons (h _ _ a) (Paired.imp h t)
theorem Paired.getR {α β : Type} {R : α → β → Prop} : ∀ {xs : List α} {ys : List β} {i : Nat} {y : β}, Paired R xs ys → ys[i]? = some y → ∃ x, xs[i]? = some x ∧ R x y
  | _, _, _, _, .nil, e => by simp at e
  | _, _, 0, _, .cons a t, e => by simp at e; subst e; exact ⟨_, rfl, a⟩
  | _, _, i + 1, y, .cons a t, e => by
    obtain ⟨x, h1, h2⟩ := Paired.getR (i := i) t (by simpa using e)
    exact ⟨x, by simpa using h1, h2⟩
theorem Paired.getL {α β : Type} {R : α → β → Prop} : ∀ {xs : List α} {ys : List β} {i : Nat} {x : α}, Paired R xs ys → xs[i]? = some x → ∃ y, ys[i]? = some y ∧ R x y
  | _, _, _, _, .nil, e => by simp at e
  | _, _, 0, _, .cons a t, e => by simp at e; subst e; exact ⟨_, rfl, a⟩
  | _, _, i + 1, y, .cons a t, e => by
    obtain ⟨x, h1, h2⟩ := Paired.getL (i := i) t (by simpa using e)
    exact ⟨x, by simpa using h1, h2⟩
theorem Paired.append {α β : Type} {R : α → β → Prop} : ∀ {xs xs2 : List α} {ys ys2 : List β}, Paired R xs ys → Paired R xs2 ys2 → Paired R (xs ++ xs2) (ys ++ ys2)
  | _, _, _, _, .nil, h => h
  | _, _, _, _, .cons a t, h => .cons a (Paired.append t h)
theorem Paired.take {α β : Type} {R : α → β → Prop} : ∀ (n : Nat) {xs : List α} {ys : List β}, Paired R xs ys → Paired R (xs.take n) (ys.take n)
  | 0, _, _, _ => .nil
  | _ + 1, _, _, .nil => .nil
  | n + 1, _, _, .cons a t => .cons a (Paired.take n t)
theorem Paired.drop {α β : Type} {R : α → β → Prop} : ∀ (n : Nat) {xs : List α} {ys : List β}, Paired R xs ys → Paired R (xs.drop n) (ys.drop n)
  | 0, _, _, h => h
  | _ + 1, _, _, .nil => .nil
  | n + 1, _, _, .cons a t => Paired.drop n t
theorem Paired.set {α β : Type} {R : α → β → Prop} {x : α} {y : β} (r : R x y) : ∀ (i : Nat) {xs : List α} {ys : List β}, Paired R xs ys → Paired R (xs.set i x) (ys.set i y)
  | _, _, _, .nil => .nil
  | 0, _, _, .cons _ t => .cons r t
  | i + 1, _, _, .cons q t => .cons q (Paired.set r i t)
theorem Paired.rev {α β : Type} {R : α → β → Prop} : ∀ {xs : List α} {ys : List β}, Paired R xs ys → Paired R xs.reverse ys.reverse
  | _, _, .nil => .nil
  | _, _, .cons a t => by
    rw [List.reverse_cons, List.reverse_cons]
    exact Paired.append (Paired.rev t) (.cons a .nil)
theorem Paired.map {α β γ : Type} {R : α → γ → Prop} {f : β → γ} : ∀ {xs : List α} {ys : List β}, Paired (fun a b => R a (f b)) xs ys → Paired R xs (ys.map f)
  | _, _, .nil => .nil
  | _, _, .cons a t => .cons a (Paired.map t)
theorem Paired.ofmap {α β : Type} {R : α → β → Prop} {f : β → α} (h : ∀ y, R (f y) y) : ∀ (ys : List β), Paired R (ys.map f) ys
  | [] => .nil
  | _ :: t => .cons (h _) (Paired.ofmap h t)
theorem Paired.eqmap {α β : Type} {f : β → α} : ∀ {xs : List α} {ys : List β}, Paired (fun a b => a = f b) xs ys → xs = ys.map f
  | _, _, .nil => rfl
  | _, _, .cons a t => by rw [a, Paired.eqmap t]; rfl
theorem paired_ints {K : PySem.W.Frag} {F : Hp} {vs : List V} {ns : List Int} (h : Paired (rel K F) vs ns) : vs = ns.map V.int := Paired.eqmap h
theorem paired_bls {K : PySem.W.Frag} {F : Hp} {vs : List V} {ns : List Bool} (h : Paired (rel K F) vs ns) : vs = ns.map V.bl := Paired.eqmap h
theorem dpAll_of {α : Type} [Enc α] [EncD α] {K : PySem.W.Frag} {F : Hp} : ∀ {vs : List V} {xs : List α}, Paired (rel K F) vs xs → DpAll K F vs (xs.map EncD.d)
  | _, _, .nil => .nil
  | _, _, .cons a t => .cons (EncD.dp a) (dpAll_of t)
instance {α : Type} [Enc α] : Enc (List α) := ⟨fun K F v xs => ∃ a vs, v = .ref a ∧ SqL K F a vs ∧ Paired (rel K F) vs xs, fun s ⟨a, vs, e, h, p⟩ => ⟨a, vs, e, Same.seq s h, Paired.imp (fun _ _ => Enc.mono s) p⟩⟩
instance {α : Type} [Enc α] [EncD α] : EncD (List α) := ⟨fun xs => .list (xs.map EncD.d), fun ⟨a, vs, e, h, p⟩ => by subst e; exact .lst h (dpAll_of p)⟩
instance {α β : Type} [Enc α] [Enc β] : Enc (α × β) := ⟨fun K F v p => ∃ a x y, v = .ref a ∧ SqT K F a [x, y] ∧ rel K F x p.1 ∧ rel K F y p.2, fun s ⟨a, x, y, e, h, p, q⟩ => ⟨a, x, y, e, SqT.same h s, Enc.mono s p, Enc.mono s q⟩⟩
instance {α β : Type} [Enc α] [Enc β] [EncD α] [EncD β] : EncD (α × β) := ⟨fun p => .tuple [EncD.d p.1, EncD.d p.2], fun ⟨a, x, y, e, h, p, q⟩ => by subst e; exact .tup h (.cons (EncD.dp p) (.cons (EncD.dp q) .nil))⟩
instance {α β γ : Type} [Enc α] [Enc β] [Enc γ] : Enc (Tri α β γ) := ⟨fun K F v p => ∃ a x y z, v = .ref a ∧ SqT K F a [x, y, z] ∧ rel K F x p.a ∧ rel K F y p.b ∧ rel K F z p.c, fun s ⟨a, x, y, z, e, h, p, q, r⟩ => ⟨a, x, y, z, e, SqT.same h s, Enc.mono s p, Enc.mono s q, Enc.mono s r⟩⟩
instance {α β γ : Type} [Enc α] [Enc β] [Enc γ] [EncD α] [EncD β] [EncD γ] : EncD (Tri α β γ) := ⟨fun p => .tuple [EncD.d p.a, EncD.d p.b, EncD.d p.c], fun ⟨a, x, y, z, e, h, p, q, r⟩ => by subst e; exact .tup h (.cons (EncD.dp p) (.cons (EncD.dp q) (.cons (EncD.dp r) .nil)))⟩
/-! ### cells: objects of one variable, which it may change -/
class Cell (χ : Type) where
  cel : PySem.W.Frag → Hp → HO → χ → Prop
  mono : ∀ {K : PySem.W.Frag} {F F' : Hp} {o : HO} {x : χ}, Same F F' → cel K F o x → cel K F' o x
open Cell (cel)
instance {α : Type} [Enc α] : Cell (List α) := ⟨fun K F o xs => ∃ vs, o = .lst vs ∧ Paired (rel K F) vs xs, fun s ⟨vs, e, p⟩ => ⟨vs, e, Paired.imp (fun _ _ => Enc.mono s) p⟩⟩
/-- a dict by ints -/
structure DI (α : Type) where
  kvs : List (Int × α)
instance {α : Type} [Enc α] : Enc (DI α) := ⟨fun K F v x => ∃ a kvs, v = .ref a ∧ F a = some (.dK kvs) ∧ Paired (fun (p : Key × V) (q : Int × α) => p.1 = .inl q.1 ∧ rel K F p.2 q.2) kvs x.kvs, fun s ⟨a, kvs, e, h, p⟩ => ⟨a, kvs, e, s _ _ h, Paired.imp (fun _ _ h => ⟨h.1, Enc.mono s h.2⟩) p⟩⟩
instance {α : Type} [Enc α] : Cell (DI α) := ⟨fun K F o x => ∃ kvs, o = .dK kvs ∧ Paired (fun (p : Key × V) (q : Int × α) => p.1 = .inl q.1 ∧ rel K F p.2 q.2) kvs x.kvs, fun s ⟨vs, e, p⟩ => ⟨vs, e, Paired.imp (fun _ _ h => ⟨h.1, Enc.mono s h.2⟩) p⟩⟩
/-! ### slots -/
inductive Dt (α : Type) | no | is (x : α)
inductive Own (χ : Type) | no | mine (x : χ) | gone (x : χ)
/-- what happens to frozen heap, heap and owners; the owners that L tells of keep their cells -/
structure Stp (L : Nat → Prop) (own : Addr → Option Nat) (F H : Hp) (own' : Addr → Option Nat) (F' H' : Hp) : Prop where
  ff : Same F F'
  ow : ∀ j a, L j → own a = some j → F a = none → H a ≠ none → own' a = some j ∧ F' a = none ∧ H' a = H a
theorem Stp.imp {L L' : Nat → Prop} {own own' : Addr → Option Nat} {F H F' H' : Hp} (h : Stp L own F H own' F' H') (l : ∀ j, L' j → L j) : Stp L' own F H own' F' H' := ⟨h.ff, fun j a q => h.ow j a (l j q)⟩
class Slot (τ : Type) where
  srel : PySem.W.Frag → (Bool → Addr → Prop) → (Addr → Option Nat) → Hp → Hp → Nat → Option V → τ → Prop
  grow : ∀ {K : PySem.W.Frag} {P : Bool → Addr → Prop} {own own' : Addr → Option Nat} {F H F' H' : Hp} {L : Nat → Prop} {i : Nat} {ov : Option V} {x : τ}, srel K P own F H i ov x → Stp L own F H own' F' H' → L i → srel K P own' F' H' i ov x
open Slot (srel)
instance {α : Type} [Enc α] : Slot (Dt α) := ⟨fun K _ _ F _ _ ov x => match x with | .no => True | .is x => ∃ v, ov = some v ∧ rel K F v x, fun {K P own own' F H F' H' L i ov x} h s _ => match x, h with
  | .no, h => trivial
  | .is x, ⟨v, e, r⟩ => ⟨v, e, Enc.mono s.ff r⟩⟩
class Frz (χ : Type) [Cell χ] where
  frel : PySem.W.Frag → Hp → V → χ → Prop
  mono : ∀ {K : PySem.W.Frag} {F F' : Hp} {v : V} {x : χ}, Same F F' → frel K F v x → frel K F' v x
instance {α : Type} [Enc α] : Frz (List α) := ⟨fun K F v x => rel K F v x, fun s h => Enc.mono s h⟩
instance {α : Type} [Enc α] : Frz (DI α) := ⟨fun K F v x => rel K F v x, fun s h => Enc.mono s h⟩
instance {χ : Type} [Cell χ] [Frz χ] : Slot (Own χ) := ⟨fun K P own F H i ov x => match x with
    | .no => True
    | .mine x => ∃ a o, ov = some (.ref a) ∧ own a = some i ∧ P false a ∧ F a = none ∧ H a = some o ∧ cel K F o x
    | .gone x => ∃ v, ov = some v ∧ Frz.frel K F v x, fun {K P own own' F H F' H' L i ov x} h s l => match x, h with
  | .no, h => trivial
  | .mine x, ⟨a, o, e, w, p, f, g, c⟩ => by
    obtain ⟨w', f', g'⟩ := s.ow i a l w f (by rw [g]; simp)
    exact ⟨a, o, e, w', p, f', by rw [g']; exact g, Cell.mono s.ff c⟩
  | .gone x, ⟨v, e, r⟩ => ⟨v, e, Frz.mono s.ff r⟩⟩
/-- a source: lent by the caller (true), or the def's own -/
inductive Src (b : Bool) | no | at (zs : List Int)
instance {b : Bool} : Slot (Src b) := ⟨fun _ P own F H i ov x => match x with
    | .no => True
    | .at zs => ∃ a, ov = some (.ref a) ∧ own a = some i ∧ P b a ∧ F a = none ∧ H a = some (.lst (zs.map V.int)), fun {K P own own' F H F' H' L i ov x} h s l => match x, h with
  | .no, h => trivial
  | .at zs, ⟨a, e, w, p, f, g⟩ => by
    obtain ⟨w', f', g'⟩ := s.ow i a l w f (by rw [g]; simp)
    exact ⟨a, e, w', p, f', by rw [g']; exact g⟩⟩
class Slots (S : Type) where
  srels : PySem.W.Frag → (Bool → Addr → Prop) → (Addr → Option Nat) → Hp → Hp → Nat → L2.St → S → Prop
  grow : ∀ {K : PySem.W.Frag} {P : Bool → Addr → Prop} {own own' : Addr → Option Nat} {F H F' H' : Hp} {L : Nat → Prop} {i : Nat} {σ : L2.St} {s : S}, srels K P own F H i σ s → Stp L own F H own' F' H' → (∀ j, i ≤ j → L j) → srels K P own' F' H' i σ s
open Slots (srels)
instance : Slots Unit := ⟨fun _ _ _ _ _ _ σ _ => σ = [], fun h _ _ => h⟩
instance {τ S : Type} [Slot τ] [Slots S] : Slots (τ × S) := ⟨fun K P own F H i σ s => ∃ ov σ', σ = ov :: σ' ∧ srel K P own F H i ov s.1 ∧ srels K P own F H (i + 1) σ' s.2,
  fun ⟨ov, σ', e, h, t⟩ s l => ⟨ov, σ', e, Slot.grow h s (l _ (Nat.le_refl _)), Slots.grow t s fun j q => l j (by omega)⟩⟩
/-- a place among the slots -/
structure Pos (S τ : Type) [Slots S] [Slot τ] (k : Nat) where
  get : S → τ
  put : S → τ → S
  rd : ∀ {K : PySem.W.Frag} {P : Bool → Addr → Prop} {own : Addr → Option Nat} {F H : Hp} {i : Nat} {σ : L2.St} {s : S}, srels K P own F H i σ s → ∃ ov, σ[k]? = some ov ∧ srel K P own F H (i + k) ov (get s)
  wr : ∀ {K : PySem.W.Frag} {P : Bool → Addr → Prop} {own own' : Addr → Option Nat} {F H F' H' : Hp} {i : Nat} {σ : L2.St} {s : S} {ov : Option V} {x : τ}, srels K P own F H i σ s → Stp (· ≠ i + k) own F H own' F' H' → srel K P own' F' H' (i + k) ov x → srels K P own' F' H' i (σ.set k ov) (put s x)
  ov : ∀ {K : PySem.W.Frag} {P : Bool → Addr → Prop} {own : Addr → Option Nat} {F H : Hp} {i : Nat} {σ : L2.St} {s : S} (v : Option V), srels K P own F H i σ s → srel K P own F H (i + k) v (get s) → srels K P own F H i (σ.set k v) s
def Pos.here {τ S : Type} [Slot τ] [Slots S] : Pos (τ × S) τ 0 where
  get := fun s => s.1
  put := fun s x => (x, s.2)
  rd := fun ⟨ov, σ', e, h, t⟩ => ⟨ov, by rw [e]; rfl, h⟩
  wr := fun {K P own own' F H F' H' i σ s v x} ⟨ov, σ', e, h, t⟩ st r => ⟨v, σ', by rw [e]; rfl, r, Slots.grow t st fun j q => by omega⟩
  ov := fun v ⟨ov, σ', e, h, t⟩ r => ⟨v, σ', by rw [e]; rfl, r, t⟩
def Pos.there {τ' τ S : Type} [Slot τ'] [Slot τ] [Slots S] {k : Nat} (p : Pos S τ k) : Pos (τ' × S) τ (k + 1) where
  get := fun s => p.get s.2
  put := fun s x => (s.1, p.put s.2 x)
  rd := fun {K P own F H i σ s} ⟨ov, σ', e, h, t⟩ => by
    obtain ⟨o, a, b⟩ := p.rd t
    exact ⟨o, by rw [e]; exact a, by rw [show i + (k + 1) = i + 1 + k by omega]; exact b⟩
  wr := fun {K P own own' F H F' H' i σ s v x} ⟨ov, σ', e, h, t⟩ st r => by
    rw [show i + (k + 1) = i + 1 + k by omega] at st r
    exact ⟨ov, σ'.set k v, by rw [e]; rfl, Slot.grow h st (by omega), p.wr t st r⟩
  ov := fun {K P own F H i σ s} v ⟨ov, σ', e, h, t⟩ r => by
    rw [show i + (k + 1) = i + 1 + k by omega] at r
    exact ⟨ov, σ'.set k v, by rw [e]; rfl, h, p.ov v t r⟩
/-! ### from one moment to a later one -/
structure Gr (d : Addr → Prop) (F H F' H' : Hp) : Prop where
  ff : Same F F'
  fh : Same F' H'
  hh : ∀ b o, ¬ d b → H b = some o → H' b = some o
  fr : ∀ b, F b = none → H b ≠ none → F' b = none
  dm : ∀ b, H b ≠ none → H' b ≠ none
theorem Gr.refl {d : Addr → Prop} {F H : Hp} (h : Same F H) : Gr d F H F H := ⟨Same.refl _, h, fun _ _ _ e => e, fun _ e _ => e, fun _ e => e⟩
theorem Gr.trans {d : Addr → Prop} {F H F1 H1 F2 H2 : Hp} (a : Gr d F H F1 H1) (b : Gr d F1 H1 F2 H2) : Gr d F H F2 H2 :=
  ⟨a.ff.trans b.ff, b.fh, fun c o n e => b.hh c o n (a.hh c o n e), fun c e n => b.fr c (a.fr c e n) (a.dm c n), fun c n => b.dm c (a.dm c n)⟩
theorem Gr.imp {d d' : Addr → Prop} {F H F1 H1 : Hp} (a : Gr d F H F1 H1) (h : ∀ b, d b → d' b) : Gr d' F H F1 H1 := ⟨a.ff, a.fh, fun c o n e => a.hh c o (fun z => n (h c z)) e, a.fr, a.dm⟩
def kind (d : Addr → Prop) (H0 : Hp) : Bool → Addr → Prop
  | true => d
  | false => fun a => H0 a = none
/-- the state of a def at work: d may change, F0 H0 stood at its begin; the cells that Z holds stay as they are -/
def Cx (K : PySem.W.Frag) (d : Addr → Prop) (F0 H0 : Hp) {S : Type} [Slots S] (Z : Addr → Option HO) (s : S) (σ : L2.St) (F H : Hp) : Prop :=
  Gr d F0 H0 F H ∧ (∀ a, d a → H0 a ≠ none) ∧ ∃ own : Addr → Option Nat, (∀ a j, own a = some j → H a ≠ none) ∧ (∀ a o, Z a = some o → H a = some o ∧ F a = none ∧ own a = none ∧ ¬ d a ∧ H0 a = none) ∧ srels K (kind d H0) own F H 0 σ s
theorem rel_newl {α : Type} [Enc α] {K : PySem.W.Frag} {F : Hp} {p : Addr} {vs : List V} {xs : List α} (hp : F p = none) (h : Paired (rel K F) vs xs) : rel K (upd F p (.lst vs)) (.ref p) xs :=
  ⟨p, vs, rfl, .inl (.inl upd_same), Paired.imp (fun _ _ => Enc.mono (Same.new hp)) h⟩
section
variable {K : PySem.W.Frag} {d : Addr → Prop} {F0 H0 : Hp} {S : Type} [Slots S] {Z : Addr → Option HO} {s : S} {σ : L2.St} {F H : Hp}
theorem Cx.fh (c : Cx K d F0 H0 Z s σ F H) : Same F H := c.1.fh
theorem same_upd {F H : Hp} {p : Addr} {o : HO} (s : Same F H) : Same (upd F p o) (upd H p o) := fun b u e => by
  by_cases h : b = p
  · subst h
    rw [upd_same] at e ⊢
    exact e
  · rw [upd_ne h] at e ⊢
    exact s b u e
/-- a new object that stays as it is -/
theorem Cx.new (c : Cx K d F0 H0 Z s σ F H) {p : Addr} (hp : H p = none) (o : HO) : Cx K d F0 H0 Z s σ (upd F p o) (upd H p o) ∧ Same F (upd F p o) := by
  obtain ⟨g, dn, own, w1, w2, sl⟩ := c
  have fp : F p = none := g.fh.free hp
  have sf : Same F (upd F p o) := Same.new fp
  have ne : ∀ b, H b ≠ none → b ≠ p := fun b n z => n (by rw [z]; exact hp)
  refine ⟨⟨g.trans ⟨sf, same_upd g.fh, fun b u _ e => by rw [upd_ne (ne_of_none e hp)]; exact e, fun b e n => by rw [upd_ne (ne b n)]; exact e, fun b n => by rw [upd_ne (ne b n)]; exact n⟩, dn, own, fun a j e => ?_, fun a u e => ?_, ?_⟩, sf⟩
  · rw [upd_ne (ne a (w1 a j e))]
    exact w1 a j e
  · obtain ⟨q1, q2, q3⟩ := w2 a u e
    have n : a ≠ p := ne_of_none q1 hp
    rw [upd_ne n, upd_ne n]
    exact ⟨q1, q2, q3⟩
  · refine Slots.grow sl (L := fun _ => True) ⟨sf, fun j a _ e f n => ⟨e, ?_, ?_⟩⟩ fun _ _ => trivial
    · rw [upd_ne (ne a n)]
      exact f
    · rw [upd_ne (ne a n)]
/-- a new object that nothing knows of yet -/
theorem Cx.junk (c : Cx K d F0 H0 Z s σ F H) {p : Addr} (hp : H p = none) (o : HO) : Cx K d F0 H0 (upd Z p o) s σ F (upd H p o) := by
  obtain ⟨g, dn, own, w1, w2, sl⟩ := c
  have fp : F p = none := g.fh.free hp
  have hd : ¬ d p := fun z => g.dm p (dn p z) hp
  have ne : ∀ b, H b ≠ none → b ≠ p := fun b n z => n (by rw [z]; exact hp)
  refine ⟨g.trans ⟨Same.refl _, fun b u e => by rw [upd_ne (ne b (by rw [g.fh b u e]; simp))]; exact g.fh b u e, fun b u _ e => by rw [upd_ne (ne_of_none e hp)]; exact e, fun b e n => e, fun b n => by rw [upd_ne (ne b n)]; exact n⟩, dn, own, fun a j e => ?_, fun a u e => ?_, ?_⟩
  · rw [upd_ne (ne a (w1 a j e))]
    exact w1 a j e
  · by_cases h : a = p
    · subst h
      rw [upd_same] at e
      cases e
      refine ⟨upd_same, fp, ?_, hd, ?_⟩
      · cases q : own a with
        | none => rfl
        | some j => exact absurd hp (w1 a j q)
      · cases q : H0 a with
        | none => rfl
        | some z => exact absurd hp (g.dm a (by rw [q]; simp))
    · rw [upd_ne h] at e
      obtain ⟨q1, q2, q3⟩ := w2 a u e
      rw [upd_ne h]
      exact ⟨q1, q2, q3⟩
  · refine Slots.grow sl (L := fun _ => True) ⟨Same.refl _, fun j a _ e f n => ⟨e, f, ?_⟩⟩ fun _ _ => trivial
    rw [upd_ne (ne a n)]
/-- behind a call that changes nothing -/
theorem Cx.call (c : Cx K d F0 H0 Z s σ F H) {F' H' : Hp} (g' : Gr (fun _ => False) F H F' H') : Cx K d F0 H0 Z s σ F' H' := by
  obtain ⟨g, dn, own, w1, w2, sl⟩ := c
  have hh : ∀ b o, H b = some o → H' b = some o := fun b o => g'.hh b o fun z => z
  refine ⟨g.trans (g'.imp fun _ z => z.elim), dn, own, fun a j e => g'.dm a (w1 a j e), fun a u e => ?_, ?_⟩
  · obtain ⟨q1, q2, q3⟩ := w2 a u e
    exact ⟨hh _ _ q1, g'.fr a q2 (by rw [q1]; simp), q3⟩
  · refine Slots.grow sl (L := fun _ => True) ⟨g'.ff, fun j a _ e f n => ⟨e, g'.fr a f n, ?_⟩⟩ fun _ _ => trivial
    cases q : H a with
    | none => exact absurd q n
    | some o => exact hh a o q
/-- the held thing changes: a list that a comprehension fills -/
theorem Cx.held (c : Cx K d F0 H0 Z s σ F H) {p : Addr} {o : HO} (hz : Z p = some o) (o' : HO) : Cx K d F0 H0 (upd Z p o') s σ F (upd H p o') := by
  obtain ⟨g, dn, own, w1, w2, sl⟩ := c
  obtain ⟨p1, p2, p3, p4, p5⟩ := w2 p o hz
  have hp : H p ≠ none := by rw [p1]; simp
  have no : ∀ b, b ≠ p → upd H p o' b = H b := fun b n => upd_ne n
  refine ⟨⟨g.ff, fun b u e => ?_, fun b u n e => ?_, g.fr, fun b n => ?_⟩, dn, own, fun a j e => ?_, fun a u e => ?_, ?_⟩
  · rw [upd_ne (fun z => by subst z; rw [p2] at e; cases e)]
    exact g.fh b u e
  · rw [upd_ne (fun z => by subst z; rw [p5] at e; cases e)]
    exact g.hh b u n e
  · by_cases h : b = p
    · subst h; rw [upd_same]; simp
    · rw [upd_ne h]; exact g.dm b n
  · rw [upd_ne (fun z => by subst z; rw [p3] at e; cases e)]
    exact w1 a j e
  · by_cases h : a = p
    · subst h
      rw [upd_same] at e
      cases e
      exact ⟨upd_same, p2, p3, p4, p5⟩
    · rw [upd_ne h] at e
      obtain ⟨q1, q2, q3⟩ := w2 a u e
      rw [upd_ne h]
      exact ⟨q1, q2, q3⟩
  · refine Slots.grow sl (L := fun _ => True) ⟨Same.refl _, fun j a _ e f n => ⟨e, f, ?_⟩⟩ fun _ _ => trivial
    rw [upd_ne (fun z => by subst z; rw [p3] at e; cases e)]
theorem set_same {σ : L2.St} {k : Nat} {ov : Option V} (h : σ[k]? = some ov) : σ.set k ov = σ := by
  refine List.ext_getElem? fun j => ?_
  by_cases e : k = j
  · subst e
    rw [List.getElem?_set_self (List.getElem?_eq_some_iff.mp h).1, h]
  · rw [List.getElem?_set_ne e]
/-- a cell changes -/
theorem Cx.mut {χ : Type} [Cell χ] [Frz χ] {k : Nat} (c : Cx K d F0 H0 Z s σ F H) (p : Pos S (Own χ) k) {x : χ} (e : p.get s = .mine x) :
    ∃ a o, σ[k]? = some (some (.ref a)) ∧ H a = some o ∧ cel K F o x ∧ F a = none ∧ ∀ o' x', cel K F o' x' → Cx K d F0 H0 Z (p.put s (.mine x')) σ F (upd H a o') := by
  obtain ⟨g, dn, own, w1, w2, sl⟩ := c
  obtain ⟨ov, h1, h2⟩ := p.rd sl
  rw [e] at h2
  obtain ⟨a, o, rfl, w, pa, fa, ha, ce⟩ := h2
  have pa : H0 a = none := pa
  refine ⟨a, o, h1, ha, ce, fa, fun o' x' ce' => ?_⟩
  refine ⟨⟨g.ff, fun b u q => ?_, fun b u n q => ?_, g.fr, fun b n => ?_⟩, dn, own, fun b j q => ?_, fun b u q => ?_, ?_⟩
  · rw [upd_ne (fun z => by subst z; rw [fa] at q; cases q)]
    exact g.fh b u q
  · rw [upd_ne (fun z => by subst z; rw [pa] at q; cases q)]
    exact g.hh b u n q
  · by_cases h : b = a
    · subst h; rw [upd_same]; simp
    · rw [upd_ne h]; exact g.dm b n
  · by_cases h : b = a
    · subst h; rw [upd_same]; simp
    · rw [upd_ne h]; exact w1 b j q
  · obtain ⟨q1, q2, q3, q4⟩ := w2 b u q
    rw [upd_ne (fun z => by subst z; rw [w] at q3; cases q3)]
    exact ⟨q1, q2, q3, q4⟩
  · have r := p.wr (own' := own) (F' := F) (H' := upd H a o') (ov := some (.ref a)) (x := Own.mine x') sl ⟨Same.refl _, fun j b l q f n => ⟨q, f, ?_⟩⟩ ⟨a, o', rfl, w, pa, fa, upd_same, ce'⟩
    · rw [set_same h1] at r
      exact r
    · rw [upd_ne (fun z => by subst z; rw [w] at q; exact l (Option.some.inj q).symm)]
/-- a cell is given away: from now on it stays as it is -/
theorem Cx.give {α : Type} [Enc α] {k : Nat} (c : Cx K d F0 H0 Z s σ F H) (p : Pos S (Own (List α)) k) {x : List α} (e : p.get s = .mine x) :
    ∃ a F', σ[k]? = some (some (.ref a)) ∧ Same F F' ∧ rel K F' (.ref a) x ∧ Cx K d F0 H0 Z (p.put s (.gone x)) σ F' H := by
  obtain ⟨g, dn, own, w1, w2, sl⟩ := c
  obtain ⟨ov, h1, h2⟩ := p.rd sl
  rw [e] at h2
  obtain ⟨a, o, rfl, w, pa, fa, ha, vs, rfl, pr⟩ := h2
  have pa : H0 a = none := pa
  have sf : Same F (upd F a (.lst vs)) := Same.new fa
  have rl : rel K (upd F a (.lst vs)) (.ref a) x := rel_newl fa pr
  refine ⟨a, upd F a (.lst vs), h1, sf, rl, ⟨g.ff.trans sf, fun b u q => ?_, g.hh, fun b q n => ?_, g.dm⟩, dn, own, w1, fun b u q => ?_, ?_⟩
  · by_cases h : b = a
    · subst h; rw [upd_same] at q; rw [← q]; exact ha
    · rw [upd_ne h] at q; exact g.fh b u q
  · rw [upd_ne (fun z => by subst z; exact n pa)]
    exact g.fr b q n
  · obtain ⟨q1, q2, q3, q4⟩ := w2 b u q
    refine ⟨q1, ?_, q3, q4⟩
    rw [upd_ne (fun z => by subst z; rw [w] at q3; cases q3)]
    exact q2
  · have r := p.wr (own' := own) (F' := upd F a (.lst vs)) (H' := H) (ov := some (.ref a)) (x := Own.gone x) sl ⟨sf, fun j b l q f n => ⟨q, ?_, rfl⟩⟩ ⟨_, rfl, rl⟩
    · rw [set_same h1] at r
      exact r
    · rw [upd_ne (fun z => by subst z; rw [w] at q; exact l (Option.some.inj q).symm)]
      exact f
/-- a variable takes a new object as its own -/
theorem Cx.own {χ : Type} [Cell χ] [Frz χ] {k : Nat} (c : Cx K d F0 H0 Z s σ F H) (p : Pos S (Own χ) k) {a : Addr} {o : HO} {x : χ} (ha : H a = none) (ce : cel K F o x) :
    Cx K d F0 H0 Z (p.put s (.mine x)) (σ.set k (some (.ref a))) F (upd H a o) := by
  obtain ⟨g, dn, own, w1, w2, sl⟩ := c
  have fa : F a = none := g.fh.free ha
  have h0 : H0 a = none := by
    cases q : H0 a with
    | none => rfl
    | some z => exact absurd ha (g.dm a (by rw [q]; simp))
  have ne : ∀ b, H b ≠ none → b ≠ a := fun b n z => n (by rw [z]; exact ha)
  have oa : own a = none := by
    cases q : own a with
    | none => rfl
    | some j => exact absurd ha (w1 a j q)
  refine ⟨⟨g.ff, fun b u q => ?_, fun b u n q => ?_, g.fr, fun b n => ?_⟩, dn, (fun b => if b = a then some k else own b), fun b j q => ?_, fun b u q => ?_, ?_⟩
  · rw [upd_ne (fun z => by subst z; rw [fa] at q; cases q)]
    exact g.fh b u q
  · rw [upd_ne (fun z => by subst z; rw [h0] at q; cases q)]
    exact g.hh b u n q
  · rw [upd_ne (ne b (g.dm b n))]
    exact g.dm b n
  · by_cases h : b = a
    · subst h; rw [upd_same]; simp
    · rw [upd_ne h]
      simp [h] at q
      exact w1 b j q
  · obtain ⟨q1, q2, q3, q4⟩ := w2 b u q
    have n : b ≠ a := ne_of_none q1 ha
    rw [upd_ne n]
    exact ⟨q1, q2, by simp [n, q3], q4⟩
  · refine p.wr (own' := fun b => if b = a then some k else own b) sl ⟨Same.refl _, fun j b l q f n => ?_⟩ ⟨a, o, rfl, by simp, h0, fa, upd_same, ce⟩
    have z := ne b n
    exact ⟨by simp [z, q], f, upd_ne z⟩
/-- a variable takes a value that stays as it is -/
theorem Cx.set {α : Type} [Enc α] {k : Nat} (c : Cx K d F0 H0 Z s σ F H) (p : Pos S (Dt α) k) {v : V} {x : α} (r : rel K F v x) : Cx K d F0 H0 Z (p.put s (.is x)) (σ.set k (some v)) F H := by
  obtain ⟨g, dn, own, w1, w2, sl⟩ := c
  exact ⟨g, dn, own, w1, w2, p.wr sl ⟨Same.refl _, fun j b l q f n => ⟨q, f, rfl⟩⟩ ⟨v, rfl, r⟩⟩
/-- the source is lent on and comes back -/
theorem Cx.src {b : Bool} {k : Nat} (c : Cx K d F0 H0 Z s σ F H) (p : Pos S (Src b) k) {zs0 : List Int} (e : p.get s = .at zs0) : ∃ a, σ[k]? = some (some (.ref a)) ∧ F a = none ∧ H a = some (.lst (zs0.map V.int)) ∧
    ∀ F' H' zs, Gr (· = a) F H F' H' → H' a = some (.lst (zs.map V.int)) → Cx K d F0 H0 Z (p.put s (.at zs)) σ F' H' := by
  obtain ⟨g, dn, own, w1, w2, sl⟩ := c
  obtain ⟨ov, h1, h2⟩ := p.rd sl
  rw [e] at h2
  obtain ⟨a, rfl, w, pa, fa, ha⟩ := h2
  have pd : d a ∨ H0 a = none := by
    cases b with
    | true => exact .inl pa
    | false => exact .inr pa
  refine ⟨a, h1, fa, ha, fun F' H' zs gr ha' => ?_⟩
  have fa' : F' a = none := gr.fr a fa (by rw [ha]; simp)
  have g2 : Gr d F0 H0 F' H' := by
    refine ⟨g.ff.trans gr.ff, gr.fh, fun b o nb e0 => ?_, fun b e0 n0 => gr.fr b (g.fr b e0 n0) (g.dm b n0), fun b n0 => gr.dm b (g.dm b n0)⟩
    refine gr.hh b o (fun z => ?_) (g.hh b o nb e0)
    subst z
    rcases pd with pd | pd
    · exact nb pd
    · rw [pd] at e0; cases e0
  refine ⟨g2, dn, own, fun b j q => gr.dm b (w1 b j q), fun b u q => ?_, ?_⟩
  · obtain ⟨q1, q2, q3, q4, q5⟩ := w2 b u q
    exact ⟨gr.hh b u (fun z => by subst z; rw [w] at q3; cases q3) q1, gr.fr b q2 (by rw [q1]; simp), q3, q4, q5⟩
  · have r := p.wr (own' := own) (F' := F') (H' := H') (ov := some (.ref a)) (x := Src.at zs) sl ⟨gr.ff, fun j b l q f n => ⟨q, gr.fr b f n, ?_⟩⟩ ⟨a, rfl, w, pa, fa', ha'⟩
    · rw [set_same h1] at r
      exact r
    · cases e : H b with
      | none => exact absurd e n
      | some u => exact gr.hh b u (fun z => by subst z; rw [w] at q; exact l (Option.some.inj q).symm) e
/-- a variable takes a new list as its source -/
theorem Cx.srcNew {k : Nat} (c : Cx K d F0 H0 Z s σ F H) (p : Pos S (Src false) k) {a : Addr} {zs : List Int} (ha : H a = none) :
    Cx K d F0 H0 Z (p.put s (.at zs)) (σ.set k (some (.ref a))) F (upd H a (.lst (zs.map V.int))) := by
  obtain ⟨g, dn, own, w1, w2, sl⟩ := c
  have fa : F a = none := g.fh.free ha
  have h0 : H0 a = none := by
    cases q : H0 a with
    | none => rfl
    | some z => exact absurd ha (g.dm a (by rw [q]; simp))
  have ne : ∀ b, H b ≠ none → b ≠ a := fun b n z => n (by rw [z]; exact ha)
  refine ⟨⟨g.ff, fun b u q => ?_, fun b u n q => ?_, g.fr, fun b n => ?_⟩, dn, (fun b => if b = a then some k else own b), fun b j q => ?_, fun b u q => ?_, ?_⟩
  · rw [upd_ne (fun z => by subst z; rw [fa] at q; cases q)]
    exact g.fh b u q
  · rw [upd_ne (fun z => by subst z; rw [h0] at q; cases q)]
    exact g.hh b u n q
  · rw [upd_ne (ne b (g.dm b n))]
    exact g.dm b n
  · by_cases h : b = a
    · subst h; rw [upd_same]; simp
    · rw [upd_ne h]
      simp [h] at q
      exact w1 b j q
  · obtain ⟨q1, q2, q3, q4⟩ := w2 b u q
    have n : b ≠ a := ne_of_none q1 ha
    rw [upd_ne n]
    exact ⟨q1, q2, by simp [n, q3], q4⟩
  · refine p.wr (own' := fun b => if b = a then some k else own b) sl ⟨Same.refl _, fun j b l q f n => ?_⟩ ⟨a, rfl, by simp, h0, fa, upd_same⟩
    have z := ne b n
    exact ⟨by simp [z, q], f, upd_ne z⟩
end
end Rm
namespace Rm
open PySem PySem.Spec PyProof.Rows L2 Rg
open Enc (rel)
open Cell (cel)
open Slot (srel)
open Slots (srels)
/-! ### mirrors -/
abbrev M (S α : Type) := S → Option (α × S)
def pur {S α : Type} (x : α) : M S α := fun s => some (x, s)
def bnd {S α β : Type} (m : M S α) (f : α → M S β) : M S β := fun s => (m s).bind fun p => f p.1 p.2
def lft {S α : Type} (o : Option α) : M S α := fun s => o.bind fun x => some (x, s)
theorem bnd_some {S α β : Type} {m : M S α} {f : α → M S β} {s s2 : S} {y : β} (h : bnd m f s = some (y, s2)) : ∃ x s1, m s = some (x, s1) ∧ f x s1 = some (y, s2) := by
  unfold bnd at h
  cases e : m s with
  | none => rw [e] at h; cases h
  | some p => rw [e] at h; exact ⟨p.1, p.2, rfl, h⟩
theorem lft_some {S α : Type} {o : Option α} {s s2 : S} {y : α} (h : lft o s = some (y, s2)) : o = some y ∧ s2 = s := by
  cases o with
  | none => cases h
  | some x => cases h; exact ⟨rfl, rfl⟩
def rdv {S α : Type} [Slots S] [Slot (Dt α)] {k : Nat} (p : Pos S (Dt α) k) : M S α := fun s => match p.get s with | .is x => some (x, s) | .no => none
def op2 {S α β γ : Type} (f : α → β → Option γ) (ma : M S α) (mb : M S β) : M S γ := bnd ma fun x => bnd mb fun y => lft (f x y)
def op1 {S α γ : Type} (f : α → Option γ) (ma : M S α) : M S γ := bnd ma fun x => lft (f x)
/-! ### judgements -/
section
variable (K : PySem.W.Frag) (d : Addr → Prop) (F0 H0 : Hp) (S : Type) [Slots S]
def J {β α : Type} (R : Hp → β → α → Prop) (t : L2.St → Hp → (β → Hp → Prop) → Prop) (m : M S α) : Prop :=
  ∀ (Z : Hp) (s : S) (σ : L2.St) (F H : Hp), Cx K d F0 H0 Z s σ F H → ∀ (x : α) (s' : S), m s = some (x, s') → ∀ Q : β → Hp → Prop,
    (∀ v F' H', Cx K d F0 H0 Z s' σ F' H' → Same F F' → R F' v x → Q v H') → t σ H Q
abbrev JE {α : Type} [Enc α] (t : TE) (m : M S α) : Prop := J K d F0 H0 S (rel K) t m
abbrev JT (t : TT) (m : M S Bool) : Prop := J K d F0 H0 S (fun _ (b : Bool) (x : Bool) => b = x) t m
/-- a new list as it comes -/
def JF {α : Type} [Enc α] (t : TE) (m : M S (List α)) : Prop :=
  ∀ (Z : Hp) (s : S) (σ : L2.St) (F H : Hp), Cx K d F0 H0 Z s σ F H → ∀ (x : List α) (s' : S), m s = some (x, s') → ∀ Q : V → Hp → Prop,
    (∀ vs p F' H', Cx K d F0 H0 Z s' σ F' H' → Same F F' → H' p = none → Paired (rel K F') vs x → Q (.ref p) (upd H' p (.lst vs))) → t σ H Q
/-- an operator's rule -/
def RJ2 {α β γ : Type} [Enc α] [Enc β] [Enc γ] (r : R2) (f : α → β → Option γ) : Prop :=
  ∀ (Z : Hp) (s : S) (σ : L2.St) (F H : Hp), Cx K d F0 H0 Z s σ F H → ∀ v u x y z, rel K F v x → rel K F u y → f x y = some z → ∀ Q : VK,
    (∀ w F' H', Cx K d F0 H0 Z s σ F' H' → Same F F' → rel K F' w z → Q w H') → r v u H Q
def RF2 {α β γ : Type} [Enc α] [Enc β] [Enc γ] (r : R2) (f : α → β → Option (List γ)) : Prop :=
  ∀ (Z : Hp) (s : S) (σ : L2.St) (F H : Hp), Cx K d F0 H0 Z s σ F H → ∀ v u x y z, rel K F v x → rel K F u y → f x y = some z → ∀ Q : VK,
    (∀ vs p F' H', Cx K d F0 H0 Z s σ F' H' → Same F F' → H' p = none → Paired (rel K F') vs z → Q (.ref p) (upd H' p (.lst vs))) → r v u H Q
class EncA (A : Type) where
  rels : PySem.W.Frag → Hp → List V → A → Prop
  mono : ∀ {K : PySem.W.Frag} {F F' : Hp} {v : List V} {x : A}, Same F F' → rels K F v x → rels K F' v x
instance : EncA Unit := ⟨fun _ _ vs _ => vs = [], fun _ h => h⟩
instance {α A : Type} [Enc α] [EncA A] : EncA (α × A) := ⟨fun K F vs x => ∃ v ws, vs = v :: ws ∧ rel K F v x.1 ∧ EncA.rels K F ws x.2, fun s ⟨v, ws, e, r, t⟩ => ⟨v, ws, e, Enc.mono s r, EncA.mono s t⟩⟩
abbrev JA {A : Type} [EncA A] (t : TA) (m : M S A) : Prop := J K d F0 H0 S (EncA.rels K) t m
/-- a built-in's rule -/
def RB {A γ : Type} [EncA A] [Enc γ] (r : List V → Hp → VK → Prop) (f : A → Option γ) : Prop :=
  ∀ (Z : Hp) (s : S) (σ : L2.St) (F H : Hp), Cx K d F0 H0 Z s σ F H → ∀ vs x z, EncA.rels K F vs x → f x = some z → ∀ Q : VK,
    (∀ w F' H', Cx K d F0 H0 Z s σ F' H' → Same F F' → rel K F' w z → Q w H') → r vs H Q
def RBF {A γ : Type} [EncA A] [Enc γ] (r : List V → Hp → VK → Prop) (f : A → Option (List γ)) : Prop :=
  ∀ (Z : Hp) (s : S) (σ : L2.St) (F H : Hp), Cx K d F0 H0 Z s σ F H → ∀ vs x z, EncA.rels K F vs x → f x = some z → ∀ Q : VK,
    (∀ ws p F' H', Cx K d F0 H0 Z s σ F' H' → Same F F' → H' p = none → Paired (rel K F') ws z → Q (.ref p) (upd H' p (.lst ws))) → r vs H Q
end
section
variable {K : PySem.W.Frag} {d : Addr → Prop} {F0 H0 : Hp} {S : Type} [Slots S]
theorem rel_new {α : Type} [Enc α] {F : Hp} {p : Addr} {vs : List V} {xs : List α} (hp : F p = none) (h : Paired (rel K F) vs xs) : rel K (upd F p (.lst vs)) (.ref p) xs :=
  ⟨p, vs, rfl, .inl (.inl upd_same), Paired.imp (fun _ _ => Enc.mono (Same.new hp)) h⟩
theorem JF.e {α : Type} [Enc α] {t : TE} {m : M S (List α)} (h : JF K d F0 H0 S t m) : JE K d F0 H0 S t m := by
  intro Z s σ F H c x s' e Q q
  refine h Z s σ F H c x s' e Q fun vs p F' H' c' sf hp r => ?_
  have n := c'.new hp (.lst vs)
  exact q _ _ _ n.1 (sf.trans n.2) (rel_new (c'.fh.free hp) r)
theorem RF2.r {α β γ : Type} [Enc α] [Enc β] [Enc γ] {r : R2} {f : α → β → Option (List γ)} (h : RF2 K d F0 H0 S r f) : RJ2 K d F0 H0 S r f := by
  intro Z s σ F H c v u x y z r1 r2 e Q q
  refine h Z s σ F H c v u x y z r1 r2 e Q fun vs p F' H' c' sf hp r => ?_
  have n := c'.new hp (.lst vs)
  exact q _ _ _ n.1 (sf.trans n.2) (rel_new (c'.fh.free hp) r)
theorem RBF.r {A γ : Type} [EncA A] [Enc γ] {r : List V → Hp → VK → Prop} {f : A → Option (List γ)} (h : RBF K d F0 H0 S r f) : RB K d F0 H0 S r f := by
  intro Z s σ F H c vs x z r1 e Q q
  refine h Z s σ F H c vs x z r1 e Q fun vs p F' H' c' sf hp r => ?_
  have n := c'.new hp (.lst vs)
  exact q _ _ _ n.1 (sf.trans n.2) (rel_new (c'.fh.free hp) r)
/-! ### names, constants -/
theorem j_c {α : Type} [Enc α] {v : V} {x : α} (h : ∀ F, rel K F v x) : JE K d F0 H0 S (tC v) (pur x) := by
  intro Z s σ F H c y s' e Q q
  cases e
  exact q _ _ _ c (Same.refl _) (h _)
theorem j_int (i : Int) : JE K d F0 H0 S (tC (.int i)) (pur i) := j_c fun _ => rfl
theorem j_bl (b : Bool) : JE K d F0 H0 S (tC (.bl b)) (pur b) := j_c fun _ => rfl
theorem j_non : JE K d F0 H0 S (tC .non) (pur ()) := j_c fun _ => rfl
theorem j_str (x : Str) : JE K d F0 H0 S (tC (.str x)) (pur x) := j_c fun _ => rfl
theorem j_var {α : Type} [Enc α] {k : Nat} (p : Pos S (Dt α) k) : JE K d F0 H0 S (tVar k) (rdv p) := by
  intro Z s σ F H c y s' e Q q
  obtain ⟨g, dn, own, w1, w2, sl⟩ := id c
  obtain ⟨ov, h1, h2⟩ := p.rd sl
  unfold rdv at e
  cases h : p.get s with
  | no => rw [h] at e; cases e
  | «is» x =>
    rw [h] at e h2
    cases e
    obtain ⟨v, rfl, r⟩ := h2
    exact ⟨v, h1, q v _ _ c (Same.refl _) r⟩
/-! ### operators -/
theorem j_op {α β γ : Type} [Enc α] [Enc β] [Enc γ] {r : R2} {f : α → β → Option γ} {ta tb : TE} {ma : M S α} {mb : M S β} (h : RJ2 K d F0 H0 S r f) (ha : JE K d F0 H0 S ta ma) (hb : JE K d F0 H0 S tb mb) : JE K d F0 H0 S (tOp r ta tb) (op2 f ma mb) := by
  intro Z s σ F H c x s' e Q q
  obtain ⟨y1, s1, e1, e⟩ := bnd_some e
  obtain ⟨y2, s2, e2, e⟩ := bnd_some e
  obtain ⟨e3, rfl⟩ := lft_some e
  exact ha _ _ _ _ _ c _ _ e1 _ fun v F1 H1 c1 q1 r1 => hb _ _ _ _ _ c1 _ _ e2 _ fun u F2 H2 c2 q2 r2 => h _ _ _ _ _ c2 v u _ _ _ (Enc.mono q2 r1) r2 e3 Q fun w F' H' c' s' r' => q w F' H' c' (q1.trans (q2.trans s')) r'
theorem jf_op {α β γ : Type} [Enc α] [Enc β] [Enc γ] {r : R2} {f : α → β → Option (List γ)} {ta tb : TE} {ma : M S α} {mb : M S β} (h : RF2 K d F0 H0 S r f) (ha : JE K d F0 H0 S ta ma) (hb : JE K d F0 H0 S tb mb) : JF K d F0 H0 S (tOp r ta tb) (op2 f ma mb) := by
  intro Z s σ F H c x s' e Q q
  obtain ⟨y1, s1, e1, e⟩ := bnd_some e
  obtain ⟨y2, s2, e2, e⟩ := bnd_some e
  obtain ⟨e3, rfl⟩ := lft_some e
  exact ha _ _ _ _ _ c _ _ e1 _ fun v F1 H1 c1 q1 r1 => hb _ _ _ _ _ c1 _ _ e2 _ fun u F2 H2 c2 q2 r2 => h _ _ _ _ _ c2 v u _ _ _ (Enc.mono q2 r1) r2 e3 Q fun w p F' H' c' s' r' => q w p F' H' c' (q1.trans (q2.trans s')) r'
theorem rj_I0 {γ : Type} [Enc γ] {G : Int → Int → V} {g : Int → Int → γ} (h : ∀ F i j, rel K F (G i j) (g i j)) : RJ2 K d F0 H0 S (rI0 G) (fun x y => some (g x y)) := by
  intro Z s σ F H c v u x y z r1 r2 e Q q
  cases r1
  cases r2
  cases e
  exact ⟨_, _, rfl, rfl, q _ _ _ c (Same.refl _) (h _ _ _)⟩
theorem rj_I {γ : Type} [Enc γ] {C : Int → Int → Prop} {G : Int → Int → V} {g : Int → Int → Option γ} (h : ∀ F i j z, g i j = some z → C i j ∧ rel K F (G i j) z) : RJ2 K d F0 H0 S (rI C G) g := by
  intro Z s σ F H c v u x y z r1 r2 e Q q
  cases r1
  cases r2
  have k := h F _ _ _ e
  exact ⟨_, _, rfl, rfl, k.1, q _ _ _ c (Same.refl _) k.2⟩
@[irreducible] def gMul (x y : Int) : Option Int := if x.natAbs < 2 ^ 50000 ∧ y.natAbs < 2 ^ 50000 then some (x * y) else none
@[irreducible] def gDiv (x y : Int) : Option Int := if 0 < y ∧ y.natAbs < 2 ^ 8000 then some (x / y) else none
def gMod (x y : Int) : Option Int := if 0 < y then some (x % y) else none
@[irreducible] def gPow (x y : Int) : Option Int := if 0 ≤ y ∧ y ≤ 1000 ∧ x.natAbs < 2 ^ 100000 then some (x ^ y.toNat) else none
theorem rj_add : RJ2 K d F0 H0 S (rI0 fun i j => .int (i + j)) (fun x y : Int => some (x + y)) := rj_I0 fun _ _ _ => rfl
theorem rj_sub : RJ2 K d F0 H0 S (rI0 fun i j => .int (i - j)) (fun x y : Int => some (x - y)) := rj_I0 fun _ _ _ => rfl
theorem ite_some {α : Type} {c : Prop} [Decidable c] {x z : α} (h : (if c then some x else none) = some z) : c ∧ x = z := by
  by_cases k : c
  · rw [if_pos k] at h
    exact ⟨k, Option.some.inj h⟩
  · rw [if_neg k] at h
    cases h
theorem rj_mul : RJ2 K d F0 H0 S (rI CMulW fun i j => .int (i * j)) gMul := rj_I fun F i j z h => by
  unfold gMul at h
  obtain ⟨k, rfl⟩ := ite_some h
  exact ⟨wide_mul k.1 k.2 (by decide) (by decide) (by decide), rfl⟩
theorem rj_div : RJ2 K d F0 H0 S (rI CDivW fun i j => .int (i / j)) gDiv := rj_I fun F i j z h => by
  unfold gDiv at h
  obtain ⟨k, rfl⟩ := ite_some h
  exact ⟨wide_div k.1 k.2 (by decide) (by decide), rfl⟩
theorem rj_mod : RJ2 K d F0 H0 S (rI (fun _ j => 0 < j) fun i j => .int (i % j)) gMod := rj_I fun F i j z h => by
  obtain ⟨k, rfl⟩ := ite_some h
  exact ⟨k, rfl⟩
theorem rj_pow : RJ2 K d F0 H0 S (rI CPowW fun i j => .int (i ^ j.toNat)) gPow := rj_I fun F i j z h => by
  unfold gPow at h
  obtain ⟨k, rfl⟩ := ite_some h
  exact ⟨k, rfl⟩
theorem rj_lt : RJ2 K d F0 H0 S (rI0 fun i j => .bl (decide (i < j))) (fun x y : Int => some (decide (x < y))) := rj_I0 fun _ _ _ => rfl
theorem rj_le : RJ2 K d F0 H0 S (rI0 fun i j => .bl (decide (i ≤ j))) (fun x y : Int => some (decide (x ≤ y))) := rj_I0 fun _ _ _ => rfl
theorem rj_gt : RJ2 K d F0 H0 S (rI0 fun i j => .bl (decide (j < i))) (fun x y : Int => some (decide (y < x))) := rj_I0 fun _ _ _ => rfl
theorem rj_ge : RJ2 K d F0 H0 S (rI0 fun i j => .bl (decide (j ≤ i))) (fun x y : Int => some (decide (y ≤ x))) := rj_I0 fun _ _ _ => rfl
theorem rj_eqI : RJ2 K d F0 H0 S rEq (fun x y : Int => some (decide (x = y))) := by
  intro Z s σ F H c v u x y z r1 r2 e Q q
  cases r1; cases r2; cases e
  exact r_eqI (q _ _ _ c (Same.refl _) rfl)
theorem rj_neI : RJ2 K d F0 H0 S rNe (fun x y : Int => some (!decide (x = y))) := by
  intro Z s σ F H c v u x y z r1 r2 e Q q
  cases r1; cases r2; cases e
  exact r_neI (q _ _ _ c (Same.refl _) rfl)
theorem rj_neS : RJ2 K d F0 H0 S rNe (fun x y : Str => some (!decide (x = y))) := by
  intro Z s σ F H c v u x y z r1 r2 e Q q
  cases r1; cases r2; cases e
  exact r_neS (q _ _ _ c (Same.refl _) rfl)
theorem rj_eqS : RJ2 K d F0 H0 S rEq (fun x y : Str => some (decide (x = y))) := by
  intro Z s σ F H c v u x y z r1 r2 e Q q
  cases r1; cases r2; cases e
  refine ⟨rfl, ?_⟩
  have e : decide (V.str x = V.str y) = decide (x = y) := by
    by_cases h : x = y
    · subst h; simp
    · rw [decide_eq_false h, decide_eq_false]; intro e; exact h (V.str.inj e)
  rw [e]
  exact q _ _ _ c (Same.refl _) rfl
/-- == of data -/
@[irreducible] def eqD {α β : Type} [Enc α] [Enc β] [EncD α] [EncD β] (x : α) (y : β) : Option Bool := if SeqAt.shaped (EncD.d x) = true ∧ SeqAt.shaped (EncD.d y) = true then some (PyData.eqv (EncD.d x) (EncD.d y)) else none
@[irreducible] def neD {α β : Type} [Enc α] [Enc β] [EncD α] [EncD β] (x : α) (y : β) : Option Bool := if SeqAt.shaped (EncD.d x) = true ∧ SeqAt.shaped (EncD.d y) = true then some (!PyData.eqv (EncD.d x) (EncD.d y)) else none
theorem eqD_some {α β : Type} [Enc α] [Enc β] [EncD α] [EncD β] {x : α} {y : β} {z : Bool} (h : eqD x y = some z) : (SeqAt.shaped (EncD.d x) = true ∧ SeqAt.shaped (EncD.d y) = true) ∧ PyData.eqv (EncD.d x) (EncD.d y) = z := by
  unfold eqD at h
  exact ite_some h
theorem neD_some {α β : Type} [Enc α] [Enc β] [EncD α] [EncD β] {x : α} {y : β} {z : Bool} (h : neD x y = some z) : (SeqAt.shaped (EncD.d x) = true ∧ SeqAt.shaped (EncD.d y) = true) ∧ (!PyData.eqv (EncD.d x) (EncD.d y)) = z := by
  unfold neD at h
  exact ite_some h
theorem rj_eqD {α β : Type} [Enc α] [Enc β] [EncD α] [EncD β] : RJ2 K d F0 H0 S (rEqD K) (eqD (α := α) (β := β)) := by
  intro Z s σ F H c v u x y z r1 r2 e Q q
  obtain ⟨k, rfl⟩ := eqD_some e
  exact ⟨_, _, Dp.same c.fh (EncD.dp r1), Dp.same c.fh (EncD.dp r2), k.1, k.2, q _ _ _ c (Same.refl _) rfl⟩
theorem rj_neD {α β : Type} [Enc α] [Enc β] [EncD α] [EncD β] : RJ2 K d F0 H0 S (rNeD K) (neD (α := α) (β := β)) := by
  intro Z s σ F H c v u x y z r1 r2 e Q q
  obtain ⟨k, rfl⟩ := neD_some e
  exact ⟨_, _, Dp.same c.fh (EncD.dp r1), Dp.same c.fh (EncD.dp r2), k.1, k.2, q _ _ _ c (Same.refl _) rfl⟩
def gCat {α : Type} (x y : List α) : Option (List α) := if x.length + y.length ≤ 100000 then some (x ++ y) else none
theorem rj_cat {α : Type} [Enc α] : RF2 K d F0 H0 S (rCatR K) (gCat (α := α)) := by
  intro Z s σ F H c v u x y z r1 r2 e Q q
  obtain ⟨k, rfl⟩ := ite_some e
  obtain ⟨a, vs, rfl, hs, p1⟩ := r1
  obtain ⟨b, ws, rfl, ht, p2⟩ := r2
  exact r_catR (Same.seq c.fh hs) (Same.seq c.fh ht) (by rw [Paired.length p1, Paired.length p2]; exact k) fun p hp => q _ _ _ _ c (Same.refl _) hp (Paired.append p1 p2)
/-- an item of a list, of a tuple -/
theorem atI_par {α : Type} {R : V → α → Prop} {vs : List V} {xs : List α} (p : Paired R vs xs) {i : Int} {y : α} (h : atI xs i = some y) : ∃ v, atI vs i = some v ∧ R v y := by
  unfold atI at h ⊢
  rw [Paired.length p]
  cases e : ixN xs.length i with
  | none => rw [e] at h; cases h
  | some j =>
    rw [e] at h
    exact Paired.getR p h
theorem rj_ixL {α : Type} [Enc α] : RJ2 K d F0 H0 S (rIxL K) (fun (x : List α) (i : Int) => atI x i) := by
  intro Z s σ F H c v u x y z r1 r2 e Q q
  obtain ⟨a, vs, rfl, hs, p1⟩ := r1
  cases r2
  obtain ⟨w, h1, h2⟩ := atI_par p1 e
  exact r_ixL (Same.seq c.fh hs) h1 (q _ _ _ c (Same.refl _) h2)
theorem j_ix0 {α β : Type} [Enc α] [Enc β] {ta : TE} {ma : M S (α × β)} (ha : JE K d F0 H0 S ta ma) : JE K d F0 H0 S (tOp (rIxT K) ta (tC (.int 0))) (op1 (fun p => some p.1) ma) := by
  intro Z s σ F H c x s' e Q q
  obtain ⟨y1, s1, e1, e⟩ := bnd_some e
  obtain ⟨e3, rfl⟩ := lft_some e
  cases e3
  exact ha _ _ _ _ _ c _ _ e1 _ fun v F1 H1 c1 q1 ⟨a, x, y, e, h, r1, r2⟩ => by
    subst e
    exact r_ixT (SqT.same h c1.fh) (atI_nat (j := 0) rfl) (q _ _ _ c1 q1 r1)
theorem j_ix1 {α β : Type} [Enc α] [Enc β] {ta : TE} {ma : M S (α × β)} (ha : JE K d F0 H0 S ta ma) : JE K d F0 H0 S (tOp (rIxT K) ta (tC (.int 1))) (op1 (fun p => some p.2) ma) := by
  intro Z s σ F H c x s' e Q q
  obtain ⟨y1, s1, e1, e⟩ := bnd_some e
  obtain ⟨e3, rfl⟩ := lft_some e
  cases e3
  exact ha _ _ _ _ _ c _ _ e1 _ fun v F1 H1 c1 q1 ⟨a, x, y, e, h, r1, r2⟩ => by
    subst e
    exact r_ixT (SqT.same h c1.fh) (atI_nat (j := 1) rfl) (q _ _ _ c1 q1 r2)
theorem j_ix3 {α β γ : Type} [Enc α] [Enc β] [Enc γ] {ta : TE} {ma : M S (Tri α β γ)} (ha : JE K d F0 H0 S ta ma) :
    JE K d F0 H0 S (tOp (rIxT K) ta (tC (.int 0))) (op1 (fun p => some p.a) ma) ∧ JE K d F0 H0 S (tOp (rIxT K) ta (tC (.int 1))) (op1 (fun p => some p.b) ma) ∧ JE K d F0 H0 S (tOp (rIxT K) ta (tC (.int 2))) (op1 (fun p => some p.c) ma) := by
  refine ⟨?_, ?_, ?_⟩ <;>
  · intro Z s σ F H c x s' e Q q
    obtain ⟨y1, s1, e1, e⟩ := bnd_some e
    obtain ⟨e3, rfl⟩ := lft_some e
    cases e3
    exact ha _ _ _ _ _ c _ _ e1 _ fun v F1 H1 c1 q1 ⟨a, x, y, z, e, h, r1, r2, r3⟩ => by
      subst e
      first
      | exact r_ixT (SqT.same h c1.fh) (atI_nat (j := 0) rfl) (q _ _ _ c1 q1 r1)
      | exact r_ixT (SqT.same h c1.fh) (atI_nat (j := 1) rfl) (q _ _ _ c1 q1 r2)
      | exact r_ixT (SqT.same h c1.fh) (atI_nat (j := 2) rfl) (q _ _ _ c1 q1 r3)
theorem j_neg {ta : TE} {ma : M S Int} (ha : JE K d F0 H0 S ta ma) : JE K d F0 H0 S (tUn (rU fun i => .int (-i)) ta) (op1 (fun x : Int => some (-x)) ma) := by
  intro Z s σ F H c x s' e Q q
  obtain ⟨y1, s1, e1, e⟩ := bnd_some e
  obtain ⟨e3, rfl⟩ := lft_some e
  cases e3
  exact ha _ _ _ _ _ c _ _ e1 _ fun v F1 H1 c1 q1 r1 => by
    cases r1
    exact r_rU (q _ _ _ c1 q1 rfl)
/-! ### lists, tuples, parts of lists -/
abbrev JL (K : PySem.W.Frag) (d : Addr → Prop) (F0 H0 : Hp) (S : Type) [Slots S] {α : Type} [Enc α] (t : TA) (m : M S (List α)) : Prop := J K d F0 H0 S (fun F vs xs => Paired (rel K F) vs xs) t m
def nilM {S α : Type} : M S (List α) := pur []
def consM {S α : Type} (ma : M S α) (mb : M S (List α)) : M S (List α) := bnd ma fun x => bnd mb fun y => pur (x :: y)
theorem jl_nil {α : Type} [Enc α] : JL K d F0 H0 S tNil (nilM (α := α)) := by
  intro Z s σ F H c x s' e Q q
  cases e
  exact r_nil (q _ _ _ c (Same.refl _) .nil)
theorem jl_cons {α : Type} [Enc α] {ta : TE} {tb : TA} {ma : M S α} {mb : M S (List α)} (ha : JE K d F0 H0 S ta ma) (hb : JL K d F0 H0 S tb mb) : JL K d F0 H0 S (tCons ta tb) (consM ma mb) := by
  intro Z s σ F H c x s' e Q q
  obtain ⟨y1, s1, e1, e⟩ := bnd_some e
  obtain ⟨y2, s2, e2, e⟩ := bnd_some e
  cases e
  refine r_cons (ha _ _ _ _ _ c _ _ e1 _ fun v F1 H1 c1 q1 r1 => hb _ _ _ _ _ c1 _ _ e2 _ fun u F2 H2 c2 q2 r2 => q _ _ _ c2 (q1.trans q2) (.cons (Enc.mono q2 r1) r2))
def shortL {α : Type} (xs : List α) : Option (List α) := if xs.length ≤ 100000 then some xs else none
theorem jf_lst {α : Type} [Enc α] {t : TA} {m : M S (List α)} (h : JL K d F0 H0 S t m) : JF K d F0 H0 S (tLst t) (op1 shortL m) := by
  intro Z s σ F H c x s' e Q q
  obtain ⟨y1, s1, e1, e⟩ := bnd_some e
  obtain ⟨e3, rfl⟩ := lft_some e
  obtain ⟨k, rfl⟩ := ite_some e3
  refine r_lst (h _ _ _ _ _ c _ _ e1 _ fun v F1 H1 c1 q1 r1 => ⟨?_, fun p hp => q _ _ _ _ c1 q1 hp r1⟩)
  rw [Paired.length r1]
  exact Nat.le_trans k (by decide)
def nilA {S : Type} : M S Unit := pur ()
def consA {S α A : Type} (ma : M S α) (mb : M S A) : M S (α × A) := bnd ma fun x => bnd mb fun y => pur (x, y)
theorem ja_nil : JA K d F0 H0 S tNil (nilA) := by
  intro Z s σ F H c x s' e Q q
  cases e
  exact r_nil (q _ _ _ c (Same.refl _) rfl)
theorem ja_cons {α A : Type} [Enc α] [EncA A] {ta : TE} {tb : TA} {ma : M S α} {mb : M S A} (ha : JE K d F0 H0 S ta ma) (hb : JA K d F0 H0 S tb mb) : JA K d F0 H0 S (tCons ta tb) (consA ma mb) := by
  intro Z s σ F H c x s' e Q q
  obtain ⟨y1, s1, e1, e⟩ := bnd_some e
  obtain ⟨y2, s2, e2, e⟩ := bnd_some e
  cases e
  refine r_cons (ha _ _ _ _ _ c _ _ e1 _ fun v F1 H1 c1 q1 r1 => hb _ _ _ _ _ c1 _ _ e2 _ fun u F2 H2 c2 q2 r2 => q _ _ _ c2 (q1.trans q2) ⟨_, _, rfl, Enc.mono q2 r1, r2⟩)
theorem j_tup2 {α β : Type} [Enc α] [Enc β] {t : TA} {m : M S (α × β × Unit)} (h : JA K d F0 H0 S t m) : JE K d F0 H0 S (tTup t) (op1 (fun x => some (x.1, x.2.1)) m) := by
  intro Z s σ F H c x s' e Q q
  obtain ⟨y1, s1, e1, e⟩ := bnd_some e
  obtain ⟨e3, rfl⟩ := lft_some e
  cases e3
  refine r_tup (h _ _ _ _ _ c _ _ e1 _ fun vs F1 H1 c1 q1 r1 => ?_)
  obtain ⟨v, ws, rfl, r1, w, us, rfl, r2, rfl⟩ := r1
  refine ⟨by show 2 ≤ sizeLine; decide, fun p hp => ?_⟩
  have n := c1.new hp (.tup [v, w])
  exact q _ _ _ n.1 (q1.trans n.2) ⟨p, v, w, rfl, .inl (.inl upd_same), Enc.mono n.2 r1, Enc.mono n.2 r2⟩
theorem j_tup3 {α β γ : Type} [Enc α] [Enc β] [Enc γ] {t : TA} {m : M S (α × β × γ × Unit)} (h : JA K d F0 H0 S t m) : JE K d F0 H0 S (tTup t) (op1 (fun x => some (Tri.mk x.1 x.2.1 x.2.2.1)) m) := by
  intro Z s σ F H c x s' e Q q
  obtain ⟨y1, s1, e1, e⟩ := bnd_some e
  obtain ⟨e3, rfl⟩ := lft_some e
  cases e3
  refine r_tup (h _ _ _ _ _ c _ _ e1 _ fun vs F1 H1 c1 q1 r1 => ?_)
  obtain ⟨v, ws, rfl, r1, w, us, rfl, r2, u, us, rfl, r3, rfl⟩ := r1
  refine ⟨by show 3 ≤ sizeLine; decide, fun p hp => ?_⟩
  have n := c1.new hp (.tup [v, w, u])
  exact q _ _ _ n.1 (q1.trans n.2) ⟨p, v, w, u, rfl, .inl (.inl upd_same), Enc.mono n.2 r1, Enc.mono n.2 r2, Enc.mono n.2 r3⟩
abbrev JO (K : PySem.W.Frag) (d : Addr → Prop) (F0 H0 : Hp) (S : Type) [Slots S] (t : TO) (m : M S (Option Int)) : Prop := J K d F0 H0 S (fun _ v x => v = x) t m
theorem jo_no : JO K d F0 H0 S tNoPart (pur none) := by
  intro Z s σ F H c x s' e Q q
  cases e
  exact q _ _ _ c (Same.refl _) rfl
theorem jo_is {ta : TE} {ma : M S Int} (ha : JE K d F0 H0 S ta ma) : JO K d F0 H0 S (tPart ta) (op1 (fun x => some (some x)) ma) := by
  intro Z s σ F H c x s' e Q q
  obtain ⟨y1, s1, e1, e⟩ := bnd_some e
  obtain ⟨e3, rfl⟩ := lft_some e
  cases e3
  refine r_part (ha _ _ _ _ _ c _ _ e1 _ fun v F1 H1 c1 q1 r1 => ?_)
  cases r1
  exact ⟨_, rfl, q _ _ _ c1 q1 rfl⟩
def cutL {α : Type} (xs : List α) (lo hi : Option Int) : List α := (xs.drop (HT.sIx xs.length 0 lo)).take (HT.sIx xs.length xs.length hi - HT.sIx xs.length 0 lo)
def sliceM {S α : Type} (ma : M S (List α)) (ml mh : M S (Option Int)) : M S (List α) := bnd ma fun x => bnd ml fun l => bnd mh fun h => pur (cutL x l h)
theorem jf_slice {α : Type} [Enc α] {ta : TE} {tl th : TO} {ma : M S (List α)} {ml mh : M S (Option Int)} (ha : JE K d F0 H0 S ta ma) (hl : JO K d F0 H0 S tl ml) (hh : JO K d F0 H0 S th mh) : JF K d F0 H0 S (tSl (rSlL K) ta tl th) (sliceM ma ml mh) := by
  intro Z s σ F H c x s' e Q q
  obtain ⟨y1, s1, e1, e⟩ := bnd_some e
  obtain ⟨y2, s2, e2, e⟩ := bnd_some e
  obtain ⟨y3, s3, e3, e⟩ := bnd_some e
  cases e
  refine r_sl (ha _ _ _ _ _ c _ _ e1 _ fun v F1 H1 c1 q1 r1 => hl _ _ _ _ _ c1 _ _ e2 _ fun l F2 H2 c2 q2 r2 => hh _ _ _ _ _ c2 _ _ e3 _ fun h F3 H3 c3 q3 r3 => ?_)
  subst r2 r3
  obtain ⟨a, vs, rfl, hs, p1⟩ := Enc.mono (q2.trans q3) r1
  refine r_slL (Same.seq c3.fh hs) fun p hp => q _ _ _ _ c3 (q1.trans (q2.trans q3)) hp ?_
  unfold cutV cutL
  rw [Paired.length p1]
  exact Paired.take _ (Paired.drop _ p1)
theorem jf_rev0 {α : Type} [Enc α] {ta : TE} {ma : M S (List α)} (ha : JE K d F0 H0 S ta ma) : JF K d F0 H0 S (tRev0 K ta) (op1 (fun x => some (x.drop 1).reverse) ma) := by
  intro Z s σ F H c x s' e Q q
  obtain ⟨y1, s1, e1, e⟩ := bnd_some e
  obtain ⟨e3, rfl⟩ := lft_some e
  cases e3
  refine r_rev0 (ha _ _ _ _ _ c _ _ e1 _ fun v F1 H1 c1 q1 r1 => ?_)
  obtain ⟨a, vs, rfl, hs, p1⟩ := r1
  exact ⟨a, vs, rfl, Same.seq c1.fh hs, fun p hp => q _ _ _ _ c1 q1 hp (Paired.rev (Paired.drop 1 p1))⟩
theorem jf_revL {α : Type} [Enc α] {ta : TE} {ma : M S (List α)} (ha : JE K d F0 H0 S ta ma) : JF K d F0 H0 S (tRevL K ta) (op1 (fun x => some x.reverse) ma) := by
  intro Z s σ F H c x s' e Q q
  obtain ⟨y1, s1, e1, e⟩ := bnd_some e
  obtain ⟨e3, rfl⟩ := lft_some e
  cases e3
  refine r_revL (ha _ _ _ _ _ c _ _ e1 _ fun v F1 H1 c1 q1 r1 => ?_)
  obtain ⟨a, vs, rfl, hs, p1⟩ := r1
  exact ⟨a, vs, rfl, Same.seq c1.fh hs, fun p hp => q _ _ _ _ c1 q1 hp (Paired.rev p1)⟩
/-! ### tests -/
theorem jt_test {t : TE} {m : M S Bool} (h : JE K d F0 H0 S t m) : JT K d F0 H0 S (tTest t) m := by
  intro Z s σ F H c x s' e Q q
  refine r_test (h _ _ _ _ _ c _ _ e _ fun v F1 H1 c1 q1 r1 => ?_)
  cases r1
  exact ⟨_, rfl, q _ _ _ c1 q1 rfl⟩
theorem jt_B {t : TE} {m : M S Bool} (h : JE K d F0 H0 S t m) : JT K d F0 H0 S (tB t) m := jt_test h
def andM {S : Type} (ma mb : M S Bool) : M S Bool := bnd ma fun b => if b = true then mb else pur false
def orM {S : Type} (ma mb : M S Bool) : M S Bool := bnd ma fun b => if b = true then pur true else mb
def ifM {S α : Type} (mc : M S Bool) (ma mb : M S α) : M S α := bnd mc fun b => if b = true then ma else mb
theorem jt_and {ta tb : TT} {ma mb : M S Bool} (ha : JT K d F0 H0 S ta ma) (hb : JT K d F0 H0 S tb mb) : JT K d F0 H0 S (tAnd ta tb) (andM ma mb) := by
  intro Z s σ F H c x s' e Q q
  obtain ⟨y1, s1, e1, e⟩ := bnd_some e
  refine r_and (ha _ _ _ _ _ c _ _ e1 _ fun v F1 H1 c1 q1 r1 => ?_)
  subst r1
  cases v with
  | true => exact hb _ _ _ _ _ c1 _ _ e _ fun w F2 H2 c2 q2 r2 => q _ _ _ c2 (q1.trans q2) r2
  | false => cases e; exact q _ _ _ c1 q1 rfl
theorem jt_or {ta tb : TT} {ma mb : M S Bool} (ha : JT K d F0 H0 S ta ma) (hb : JT K d F0 H0 S tb mb) : JT K d F0 H0 S (tOr ta tb) (orM ma mb) := by
  intro Z s σ F H c x s' e Q q
  obtain ⟨y1, s1, e1, e⟩ := bnd_some e
  refine r_or (ha _ _ _ _ _ c _ _ e1 _ fun v F1 H1 c1 q1 r1 => ?_)
  subst r1
  cases v with
  | false => exact hb _ _ _ _ _ c1 _ _ e _ fun w F2 H2 c2 q2 r2 => q _ _ _ c2 (q1.trans q2) r2
  | true => cases e; exact q _ _ _ c1 q1 rfl
theorem jt_not {ta : TT} {ma : M S Bool} (ha : JT K d F0 H0 S ta ma) : JT K d F0 H0 S (tNot ta) (op1 (fun b : Bool => some (!b)) ma) := by
  intro Z s σ F H c x s' e Q q
  obtain ⟨y1, s1, e1, e⟩ := bnd_some e
  obtain ⟨e3, rfl⟩ := lft_some e
  cases e3
  refine r_not (ha _ _ _ _ _ c _ _ e1 _ fun v F1 H1 c1 q1 r1 => ?_)
  subst r1
  exact q _ _ _ c1 q1 rfl
theorem j_and {ta tb : TE} {ma mb : M S Bool} (ha : JE K d F0 H0 S ta ma) (hb : JE K d F0 H0 S tb mb) : JE K d F0 H0 S (tAndV ta tb) (andM ma mb) := by
  intro Z s σ F H c x s' e Q q
  obtain ⟨y1, s1, e1, e⟩ := bnd_some e
  refine r_andV (ha _ _ _ _ _ c _ _ e1 _ fun v F1 H1 c1 q1 r1 => ?_)
  cases r1
  refine ⟨_, rfl, ?_⟩
  cases y1 with
  | true => exact hb _ _ _ _ _ c1 _ _ e _ fun w F2 H2 c2 q2 r2 => q _ _ _ c2 (q1.trans q2) r2
  | false => cases e; exact q _ _ _ c1 q1 rfl
theorem j_or {ta tb : TE} {ma mb : M S Bool} (ha : JE K d F0 H0 S ta ma) (hb : JE K d F0 H0 S tb mb) : JE K d F0 H0 S (tOrV ta tb) (orM ma mb) := by
  intro Z s σ F H c x s' e Q q
  obtain ⟨y1, s1, e1, e⟩ := bnd_some e
  refine r_orV (ha _ _ _ _ _ c _ _ e1 _ fun v F1 H1 c1 q1 r1 => ?_)
  cases r1
  refine ⟨_, rfl, ?_⟩
  cases y1 with
  | false => exact hb _ _ _ _ _ c1 _ _ e _ fun w F2 H2 c2 q2 r2 => q _ _ _ c2 (q1.trans q2) r2
  | true => cases e; exact q _ _ _ c1 q1 rfl
theorem j_not {ta : TE} {ma : M S Bool} (ha : JE K d F0 H0 S ta ma) : JE K d F0 H0 S (tNotV ta) (op1 (fun b : Bool => some (!b)) ma) := by
  intro Z s σ F H c x s' e Q q
  obtain ⟨y1, s1, e1, e⟩ := bnd_some e
  obtain ⟨e3, rfl⟩ := lft_some e
  cases e3
  refine r_notV (ha _ _ _ _ _ c _ _ e1 _ fun v F1 H1 c1 q1 r1 => ?_)
  cases r1
  exact ⟨_, rfl, q _ _ _ c1 q1 rfl⟩
theorem j_if {α : Type} [Enc α] {tc : TT} {ta tb : TE} {mc : M S Bool} {ma mb : M S α} (hc : JT K d F0 H0 S tc mc) (ha : JE K d F0 H0 S ta ma) (hb : JE K d F0 H0 S tb mb) : JE K d F0 H0 S (tIf tc ta tb) (ifM mc ma mb) := by
  intro Z s σ F H c x s' e Q q
  obtain ⟨y1, s1, e1, e⟩ := bnd_some e
  refine r_ifE (hc _ _ _ _ _ c _ _ e1 _ fun v F1 H1 c1 q1 r1 => ?_)
  subst r1
  cases v with
  | true => exact ha _ _ _ _ _ c1 _ _ e _ fun w F2 H2 c2 q2 r2 => q _ _ _ c2 (q1.trans q2) r2
  | false => exact hb _ _ _ _ _ c1 _ _ e _ fun w F2 H2 c2 q2 r2 => q _ _ _ c2 (q1.trans q2) r2
def chainM {S α β γ : Type} (f : α → β → Option Bool) (g : β → γ → Option Bool) (ma : M S α) (mb : M S β) (mc : M S γ) : M S Bool := bnd ma fun x => bnd mb fun y => bnd (lft (f x y)) fun b => if b = true then bnd mc fun z => lft (g y z) else pur false
theorem j_chain {α β γ : Type} [Enc α] [Enc β] [Enc γ] {r r' : R2} {f : α → β → Option Bool} {g : β → γ → Option Bool} {ta tb tc : TE} {ma : M S α} {mb : M S β} {mc : M S γ} (h : RJ2 K d F0 H0 S r f) (h' : RJ2 K d F0 H0 S r' g) (ha : JE K d F0 H0 S ta ma) (hb : JE K d F0 H0 S tb mb) (hc : JE K d F0 H0 S tc mc) :
    JE K d F0 H0 S (tChain r r' ta tb tc) (chainM f g ma mb mc) := by
  intro Z s σ F H c x s' e Q q
  obtain ⟨y1, s1, e1, e⟩ := bnd_some e
  obtain ⟨y2, s2, e2, e⟩ := bnd_some e
  obtain ⟨b, s3, e0, e⟩ := bnd_some e
  obtain ⟨e3, rfl⟩ := lft_some e0
  refine r_chain (ha _ _ _ _ _ c _ _ e1 _ fun v F1 H1 c1 q1 r1 => hb _ _ _ _ _ c1 _ _ e2 _ fun u F2 H2 c2 q2 r2 => h _ _ _ _ _ c2 v u _ _ _ (Enc.mono q2 r1) r2 e3 _ fun w F3 H3 c3 q3 r3 => ?_)
  cases r3
  refine ⟨_, rfl, ?_⟩
  cases b with
  | false => cases e; exact q _ _ _ c3 (q1.trans (q2.trans q3)) rfl
  | true =>
    have e : bnd mc (fun z => lft (g y2 z)) s3 = some (x, s') := e
    obtain ⟨y4, s4, e4, e⟩ := bnd_some e
    obtain ⟨e5, rfl⟩ := lft_some e
    exact hc _ _ _ _ _ c3 _ _ e4 _ fun w' F4 H4 c4 q4 r4 => h' _ _ _ _ _ c4 u w' _ _ _ (Enc.mono (q3.trans q4) r2) r4 e5 _ fun w5 F5 H5 c5 q5 r5 => q _ _ _ c5 (q1.trans (q2.trans (q3.trans (q4.trans q5)))) r5
/-! ### built-ins and defs of the text -/
theorem j_cb {A γ : Type} [EncA A] [Enc γ] {r : List V → Hp → VK → Prop} {f : A → Option γ} {t : TA} {m : M S A} (h : RB K d F0 H0 S r f) (ha : JA K d F0 H0 S t m) : JE K d F0 H0 S (tCB r t) (op1 f m) := by
  intro Z s σ F H c x s' e Q q
  obtain ⟨y1, s1, e1, e⟩ := bnd_some e
  obtain ⟨e3, rfl⟩ := lft_some e
  exact r_cb (ha _ _ _ _ _ c _ _ e1 _ fun v F1 H1 c1 q1 r1 => h _ _ _ _ _ c1 _ _ _ r1 e3 _ fun w F2 H2 c2 q2 r2 => q _ _ _ c2 (q1.trans q2) r2)
theorem jf_cb {A γ : Type} [EncA A] [Enc γ] {r : List V → Hp → VK → Prop} {f : A → Option (List γ)} {t : TA} {m : M S A} (h : RBF K d F0 H0 S r f) (ha : JA K d F0 H0 S t m) : JF K d F0 H0 S (tCB r t) (op1 f m) := by
  intro Z s σ F H c x s' e Q q
  obtain ⟨y1, s1, e1, e⟩ := bnd_some e
  obtain ⟨e3, rfl⟩ := lft_some e
  exact r_cb (ha _ _ _ _ _ c _ _ e1 _ fun v F1 H1 c1 q1 r1 => h _ _ _ _ _ c1 _ _ _ r1 e3 _ fun w p F2 H2 c2 q2 hp r2 => q _ _ _ _ c2 (q1.trans q2) hp r2)
/-- the promise of a def that changes nothing; of one that hands back a new list; of one that draws from the source -/
def spP (K : PySem.W.Frag) {A γ : Type} [EncA A] [Enc γ] (f : A → Option γ) : Sp := fun vs H Q _ => ∃ (F : Hp) (x : A) (z : γ), Same F H ∧ EncA.rels K F vs x ∧ f x = some z ∧ ∀ v F' H', Gr (fun _ => False) F H F' H' → rel K F' v z → Q v H'
def spN (K : PySem.W.Frag) {A γ : Type} [EncA A] [Enc γ] (f : A → Option (List γ)) : Sp := fun vs H Q _ => ∃ (F : Hp) (x : A) (z : List γ), Same F H ∧ EncA.rels K F vs x ∧ f x = some z ∧ ∀ ws p F' H', Gr (fun _ => False) F H F' H' → H' p = none → Paired (rel K F') ws z → Q (.ref p) (upd H' p (.lst ws))
def spS (K : PySem.W.Frag) {A γ : Type} [EncA A] [Enc γ] (f : List Int → A → Option (γ × List Int)) : Sp := fun vs H Q _ => ∃ (F : Hp) (a : Addr) (zs zs' : List Int) (ws : List V) (x : A) (z : γ), vs = .ref a :: ws ∧ Same F H ∧ F a = none ∧ H a = some (.lst (zs.map V.int)) ∧ EncA.rels K F ws x ∧ f zs x = some (z, zs') ∧
  ∀ v F' H', Gr (· = a) F H F' H' → H' a = some (.lst (zs'.map V.int)) → rel K F' v z → Q v H'
theorem j_call {A γ : Type} [EncA A] [Enc γ] {f : A → Option γ} {E : XK} {t : TA} {m : M S A} (ha : JA K d F0 H0 S t m) : JE K d F0 H0 S (tCall (spP K f) [] E t) (op1 f m) := by
  intro Z s σ F H c x s' e Q q
  obtain ⟨y1, s1, e1, e⟩ := bnd_some e
  obtain ⟨e3, rfl⟩ := lft_some e
  exact r_call (ha _ _ _ _ _ c _ _ e1 _ fun vs F1 H1 c1 q1 r1 => ⟨F1, y1, x, c1.fh, r1, e3, fun v F2 H2 g r => q _ _ _ (c1.call g) (q1.trans g.ff) r⟩)
theorem jf_call {A γ : Type} [EncA A] [Enc γ] {f : A → Option (List γ)} {E : XK} {t : TA} {m : M S A} (ha : JA K d F0 H0 S t m) : JF K d F0 H0 S (tCall (spN K f) [] E t) (op1 f m) := by
  intro Z s σ F H c x s' e Q q
  obtain ⟨y1, s1, e1, e⟩ := bnd_some e
  obtain ⟨e3, rfl⟩ := lft_some e
  exact r_call (ha _ _ _ _ _ c _ _ e1 _ fun vs F1 H1 c1 q1 r1 => ⟨F1, y1, x, c1.fh, r1, e3, fun ws p F2 H2 g hp r => q _ _ _ _ (c1.call g) (q1.trans g.ff) hp r⟩)
theorem jf_callK {A γ B : Type} [EncA A] [Enc γ] [EncA B] {f : A → Option (List γ)} {gV : List V → List V} {gA : B → A} {E : XK} {t : TA} {m : M S B} (hg : ∀ F vs x, EncA.rels K F vs x → EncA.rels K F (gV vs) (gA x)) (ha : JA K d F0 H0 S t m) : JF K d F0 H0 S (tKw (spN K f) gV E t) (op1 (fun x => f (gA x)) m) := by
  intro Z s σ F H c x s' e Q q
  obtain ⟨y1, s1, e1, e⟩ := bnd_some e
  obtain ⟨e3, rfl⟩ := lft_some e
  exact r_kw (ha _ _ _ _ _ c _ _ e1 _ fun vs F1 H1 c1 q1 r1 => ⟨F1, gA y1, x, c1.fh, hg _ _ _ r1, e3, fun ws p F2 H2 g hp r => q _ _ _ _ (c1.call g) (q1.trans g.ff) hp r⟩)
theorem j_callK {A γ B : Type} [EncA A] [Enc γ] [EncA B] {f : A → Option γ} {gV : List V → List V} {gA : B → A} {E : XK} {t : TA} {m : M S B} (hg : ∀ F vs x, EncA.rels K F vs x → EncA.rels K F (gV vs) (gA x)) (ha : JA K d F0 H0 S t m) : JE K d F0 H0 S (tKw (spP K f) gV E t) (op1 (fun x => f (gA x)) m) := by
  intro Z s σ F H c x s' e Q q
  obtain ⟨y1, s1, e1, e⟩ := bnd_some e
  obtain ⟨e3, rfl⟩ := lft_some e
  exact r_kw (ha _ _ _ _ _ c _ _ e1 _ fun vs F1 H1 c1 q1 r1 => ⟨F1, gA y1, x, c1.fh, hg _ _ _ r1, e3, fun v F2 H2 g r => q _ _ _ (c1.call g) (q1.trans g.ff) r⟩)
def srcM {S A γ : Type} [Slots S] {b : Bool} {k : Nat} (p : Pos S (Src b) k) (f : List Int → A → Option (γ × List Int)) (m : M S A) : M S γ := fun s => match p.get s with
  | .at _ => (bnd m fun x => fun s => match p.get s with | .at zs => (f zs x).bind fun r => some (r.1, p.put s (.at r.2)) | .no => none) s
  | .no => none
theorem j_callS {A γ : Type} [EncA A] [Enc γ] {f : List Int → A → Option (γ × List Int)} {E : XK} {b : Bool} {k : Nat} (p : Pos S (Src b) k) {t : TA} {m : M S A} (ha : JA K d F0 H0 S t m) : JE K d F0 H0 S (tCall (spS K f) [] E (tCons (tVar k) t)) (srcM p f m) := by
  intro Z s σ F H c x s' e Q q
  unfold srcM at e
  cases e0 : p.get s with
  | no => rw [e0] at e; cases e
  | «at» zs0 =>
    rw [e0] at e
    obtain ⟨y1, s1, e1, e⟩ := bnd_some e
    obtain ⟨a, ha0, _, _, _⟩ := c.src p e0
    refine r_call (r_cons ⟨.ref a, ha0, ha _ _ _ _ _ c _ _ e1 _ fun vs F1 H1 c1 q1 r1 => ?_⟩)
    cases e5 : p.get s1 with
    | no => rw [e5] at e; cases e
    | «at» zs =>
      rw [e5] at e
      obtain ⟨a', ha1, fa, hh, k⟩ := c1.src p e5
      rw [ha0] at ha1
      cases ha1
      have e : (f zs y1).bind (fun r => some (r.1, p.put s1 (.at r.2))) = some (x, s') := e
      cases e2 : f zs y1 with
      | none => rw [e2] at e; cases e
      | some r =>
        rw [e2] at e
        cases e
        exact ⟨F1, a, _, r.2, vs, y1, r.1, rfl, c1.fh, fa, hh, r1, e2, fun v F2 H2 g h2 rl => q _ _ _ (k _ _ _ g h2) (q1.trans g.ff) rl⟩
end
end Rm
namespace Rm
open PySem PySem.Spec PyProof.Rows L2 Rg
open Enc (rel)
open Cell (cel)
open Slot (srel)
open Slots (srels)
/-! ### what is gone over -/
structure ItOk (K : PySem.W.Frag) {α : Type} [Enc α] (J : It) (F : Hp) (xs : List α) : Prop where
  stop : ∀ F2 H2, Same F F2 → Same F2 H2 → J.stop xs.length H2
  go : ∀ i F2 H2, i < xs.length → Same F F2 → Same F2 H2 → J.go i H2
  yld : ∀ i x F2 H2 v H3, xs[i]? = some x → Same F F2 → Same F2 H2 → J.yld i H2 v H3 → (H3 = H2 ∧ rel K F2 v x) ∨ ∃ p o, H2 p = none ∧ H3 = upd H2 p o ∧ rel K (upd F2 p o) v x
def JI (K : PySem.W.Frag) (d : Addr → Prop) (F0 H0 : Hp) (S : Type) [Slots S] {α : Type} [Enc α] (t : TI) (m : M S (List α)) : Prop :=
  ∀ (Z : Hp) (s : S) (σ : L2.St) (F H : Hp), Cx K d F0 H0 Z s σ F H → ∀ (xs : List α) (s' : S), m s = some (xs, s') → ∀ R : It → Hp → Prop,
    (∀ J F' H', Cx K d F0 H0 Z s' σ F' H' → Same F F' → ItOk K J F' xs → R J H') → t σ H R
def rgL (lo : Int) (n : Nat) : List Int := (List.range n).map fun i : Nat => lo + i
@[irreducible] def gRg1 (j : Int) : Option (List Int) := if -(2 ^ 62) ≤ j ∧ j < 2 ^ 62 then some (rgL 0 j.toNat) else none
@[irreducible] def gRg2 (i j : Int) : Option (List Int) := if (-(2 ^ 62) ≤ i ∧ i < 2 ^ 62) ∧ -(2 ^ 62) ≤ j ∧ j < 2 ^ 62 then some (rgL i (j - i).toNat) else none
def enumL {α : Type} (xs : List α) : List (Int × α) := (rgL 0 xs.length).zip xs
def wp1 {S α : Type} (m : M S (α × Unit)) : M S α := op1 (fun x => some x.1) m
theorem rgL_get {lo : Int} {n i : Nat} {x : Int} (h : (rgL lo n)[i]? = some x) : i < n ∧ x = lo + i := by
  unfold rgL at h
  rw [List.getElem?_map] at h
  by_cases k : i < n
  · rw [List.getElem?_range k] at h
    exact ⟨k, (Option.some.inj h).symm⟩
  · rw [List.getElem?_eq_none (by rw [List.length_range]; omega)] at h
    cases h
theorem rgL_len {lo : Int} {n : Nat} : (rgL lo n).length = n := by unfold rgL; simp
theorem it_range {K : PySem.W.Frag} {F : Hp} {lo : Int} {n : Nat} : ItOk K (Itr lo n) F (rgL lo n) where
  stop := fun _ _ _ _ => by rw [rgL_len]; exact Nat.le_refl _
  go := fun i _ _ h _ _ => by rw [rgL_len] at h; exact h
  yld := fun i x F2 H2 v H3 e _ _ y => by
    obtain ⟨rfl, rfl⟩ := y
    obtain ⟨_, rfl⟩ := rgL_get e
    exact .inl ⟨rfl, rfl⟩
section
variable {K : PySem.W.Frag} {d : Addr → Prop} {F0 H0 : Hp} {S : Type} [Slots S]
theorem it_list {α : Type} [Enc α] {F : Hp} {a : Addr} {vs : List V} {xs : List α} (h : SqL K F a vs) (p : Paired (rel K F) vs xs) : ItOk K (Itl K a) F xs where
  stop := fun F2 H2 s1 s2 => ⟨vs, Same.seq s2 (Same.seq s1 h), by rw [Paired.length p]; exact Nat.le_refl _⟩
  go := fun i F2 H2 hi s1 s2 => go_list (Same.seq s2 (Same.seq s1 h)) (by rw [Paired.length p]; exact hi)
  yld := fun i x F2 H2 v H3 e s1 s2 y => by
    obtain ⟨rfl, y⟩ := y
    obtain ⟨w, h1, h2⟩ := Paired.getR p e
    have q := y _ (Same.seq s2 (Same.seq s1 h))
    rw [h1] at q
    cases q
    exact .inl ⟨rfl, Enc.mono s1 h2⟩
theorem it_enum {α : Type} [Enc α] {F : Hp} {a : Addr} {vs : List V} {xs : List α} (h : SqL K F a vs) (p : Paired (rel K F) vs xs) : ItOk K (Ite K a) F (enumL xs) where
  stop := fun F2 H2 s1 s2 => ⟨vs, Same.seq s2 (Same.seq s1 h), by rw [Paired.length p]; simp [enumL, rgL_len]⟩
  go := fun i F2 H2 hi s1 s2 => go_enum (Same.seq s2 (Same.seq s1 h)) (by rw [Paired.length p]; simpa [enumL, rgL_len] using hi)
  yld := fun i x F2 H2 v H3 e s1 s2 y => by
    obtain ⟨T, w, rfl, hT, rfl, y⟩ := y
    unfold enumL at e
    rw [List.getElem?_zip_eq_some] at e
    obtain ⟨e1, e2⟩ := e
    obtain ⟨_, e1⟩ := rgL_get e1
    obtain ⟨w', h1, h2⟩ := Paired.getR p e2
    have q := y _ (Same.seq s2 (Same.seq s1 h))
    rw [h1] at q
    cases q
    have n : Same F2 (upd F2 T (.tup [.int (i : Nat), w])) := Same.new (s2.free hT)
    exact .inr ⟨T, _, hT, rfl, T, .int i, w, rfl, .inl (.inl upd_same), by rw [e1]; show V.int _ = V.int _; rw [Int.zero_add], Enc.mono (s1.trans n) h2⟩
theorem it_zip {α β : Type} [Enc α] [Enc β] {F : Hp} {a b : Addr} {vs ws : List V} {xs : List α} {ys : List β} (h : SqL K F a vs) (p : Paired (rel K F) vs xs) (h' : SqL K F b ws) (p' : Paired (rel K F) ws ys) : ItOk K (Itz K a b) F (xs.zip ys) where
  stop := fun F2 H2 s1 s2 => ⟨vs, ws, Same.seq s2 (Same.seq s1 h), Same.seq s2 (Same.seq s1 h'), by rw [Paired.length p, Paired.length p', List.length_zip]; omega⟩
  go := fun i F2 H2 hi s1 s2 => go_zip (Same.seq s2 (Same.seq s1 h)) (Same.seq s2 (Same.seq s1 h')) (by rw [Paired.length p]; rw [List.length_zip] at hi; omega) (by rw [Paired.length p']; rw [List.length_zip] at hi; omega)
  yld := fun i x F2 H2 v H3 e s1 s2 y => by
    obtain ⟨T, w, u, rfl, hT, rfl, y1, y2⟩ := y
    rw [List.getElem?_zip_eq_some] at e
    obtain ⟨e1, e2⟩ := e
    obtain ⟨w', h1, h2⟩ := Paired.getR p e1
    obtain ⟨u', h3, h4⟩ := Paired.getR p' e2
    have q := y1 _ (Same.seq s2 (Same.seq s1 h))
    have q' := y2 _ (Same.seq s2 (Same.seq s1 h'))
    rw [h1] at q
    rw [h3] at q'
    cases q
    cases q'
    have n : Same F2 (upd F2 T (.tup [w, u])) := Same.new (s2.free hT)
    exact .inr ⟨T, _, hT, rfl, T, w, u, rfl, .inl (.inl upd_same), Enc.mono (s1.trans n) h2, Enc.mono (s1.trans n) h4⟩
theorem ji_list {α : Type} [Enc α] {t : TE} {m : M S (List α)} (h : JE K d F0 H0 S t m) : JI K d F0 H0 S (iList K t) m := by
  intro Z s σ F H c xs s' e R q
  refine r_ilist (h _ _ _ _ _ c _ _ e _ fun v F1 H1 c1 q1 r1 => ?_)
  obtain ⟨a, vs, rfl, hs, p⟩ := r1
  exact ⟨a, rfl, ⟨vs, Same.seq c1.fh hs⟩, q _ _ _ c1 q1 (it_list hs p)⟩
theorem ji_enum {α : Type} [Enc α] {t : TA} {m : M S (List α × Unit)} (h : JA K d F0 H0 S t m) : JI K d F0 H0 S (iEnum K t) (op1 (fun x => some (enumL x.1)) m) := by
  intro Z s σ F H c xs s' e R q
  obtain ⟨y1, s1, e1, e⟩ := bnd_some e
  obtain ⟨e3, rfl⟩ := lft_some e
  cases e3
  refine r_ienum (h _ _ _ _ _ c _ _ e1 _ fun v F1 H1 c1 q1 r1 => ?_)
  obtain ⟨v, ws, rfl, ⟨a, vs, rfl, hs, p⟩, rfl⟩ := r1
  exact ⟨a, vs, rfl, Same.seq c1.fh hs, q _ _ _ c1 q1 (it_enum hs p)⟩
theorem ji_zip {α β : Type} [Enc α] [Enc β] {t : TA} {m : M S (List α × List β × Unit)} (h : JA K d F0 H0 S t m) : JI K d F0 H0 S (iZip K t) (op1 (fun x => some (x.1.zip x.2.1)) m) := by
  intro Z s σ F H c xs s' e R q
  obtain ⟨y1, s1, e1, e⟩ := bnd_some e
  obtain ⟨e3, rfl⟩ := lft_some e
  cases e3
  refine r_izip (h _ _ _ _ _ c _ _ e1 _ fun v F1 H1 c1 q1 r1 => ?_)
  obtain ⟨v, ws, rfl, ⟨a, vs, rfl, hs, p⟩, w, us, rfl, ⟨b, vs', rfl, hs', p'⟩, rfl⟩ := r1
  exact ⟨a, b, vs, vs', rfl, Same.seq c1.fh hs, Same.seq c1.fh hs', q _ _ _ c1 q1 (it_zip hs p hs' p')⟩
theorem ji_rng1 {t : TA} {m : M S (Int × Unit)} (h : JA K d F0 H0 S t m) : JI K d F0 H0 S (iRng1 t) (op1 (fun x => gRg1 x.1) m) := by
  intro Z s σ F H c xs s' e R q
  obtain ⟨y1, s1, e1, e⟩ := bnd_some e
  obtain ⟨e3, rfl⟩ := lft_some e
  unfold gRg1 at e3
  obtain ⟨k, rfl⟩ := ite_some e3
  refine r_irng1 (h _ _ _ _ _ c _ _ e1 _ fun v F1 H1 c1 q1 r1 => ?_)
  obtain ⟨v, ws, rfl, r1, rfl⟩ := r1
  cases r1
  exact ⟨_, rfl, k.1, k.2, q _ _ _ c1 q1 it_range⟩
theorem ji_rng2 {t : TA} {m : M S (Int × Int × Unit)} (h : JA K d F0 H0 S t m) : JI K d F0 H0 S (iRng2 t) (op1 (fun x => gRg2 x.1 x.2.1) m) := by
  intro Z s σ F H c xs s' e R q
  obtain ⟨y1, s1, e1, e⟩ := bnd_some e
  obtain ⟨e3, rfl⟩ := lft_some e
  unfold gRg2 at e3
  obtain ⟨k, rfl⟩ := ite_some e3
  refine r_irng2 (h _ _ _ _ _ c _ _ e1 _ fun v F1 H1 c1 q1 r1 => ?_)
  obtain ⟨v, ws, rfl, r1, w, us, rfl, r2, rfl⟩ := r1
  cases r1
  cases r2
  exact ⟨_, _, rfl, ⟨k.1.1, k.1.2, k.2.1, k.2.2⟩, q _ _ _ c1 q1 it_range⟩
/-! ### targets -/
def JG (K : PySem.W.Frag) (d : Addr → Prop) (F0 H0 : Hp) (S : Type) [Slots S] {α : Type} [Enc α] (is : List Nat) (g : TG) (put : α → S → Option S) : Prop :=
  ∀ (Z : Hp) (s : S) (σ : L2.St) (F H : Hp), Cx K d F0 H0 Z s σ F H → ∀ v x s', rel K F v x → put x s = some s' → ∀ Q : L2.St → Hp → Prop,
    (∀ σ', Cx K d F0 H0 Z s' σ' F H → (∀ vs : List Nat, (∀ i ∈ is, i ∈ vs) → wipe σ' vs = wipe σ vs) → Q σ' H) → g v σ H Q
def pName {S α : Type} [Slots S] [Enc α] {k : Nat} (p : Pos S (Dt α) k) : α → S → Option S := fun x s => some (p.put s (.is x))
def pTwo {S α β : Type} (f : α → S → Option S) (g : β → S → Option S) : α × β → S → Option S := fun x s => (f x.1 s).bind (g x.2)
def pTri {S α β γ : Type} (f : α → S → Option S) (g : β → S → Option S) (h : γ → S → Option S) : Tri α β γ → S → Option S := fun x s => ((f x.a s).bind (g x.b)).bind (h x.c)
theorem wipe_set {σ : L2.St} {k : Nat} {v : Option V} : ∀ {vs : List Nat}, k ∈ vs → wipe (σ.set k v) vs = wipe σ vs
  | [], h => by cases h
  | j :: vs, h => by
    unfold wipe
    by_cases e : k ∈ vs
    · rw [wipe_set e]
    · rcases List.mem_cons.mp h with rfl | h
      · have go : ∀ ws : List Nat, k ∉ ws → wipe (σ.set k v) ws = (wipe σ ws).set k v := by
          intro ws
          induction ws with
          | nil => intro _; rfl
          | cons w ws ih =>
            intro h
            rw [List.mem_cons, not_or] at h
            unfold wipe
            rw [ih h.2, List.set_comm _ _ (fun z => h.1 z)]
        rw [go vs e, List.set_set]
      · exact absurd h e
theorem jg_name {α : Type} [Enc α] {k : Nat} (p : Pos S (Dt α) k) : JG K d F0 H0 S [k] (gName k) (pName p) := by
  intro Z s σ F H c v x s' r e Q q
  cases e
  exact r_name (q _ (c.set p r) fun vs h => wipe_set (h k (List.mem_singleton.mpr rfl)))
theorem jg_two {α β : Type} [Enc α] [Enc β] {is js : List Nat} {g h : TG} {pg : α → S → Option S} {ph : β → S → Option S} (hg : JG K d F0 H0 S is g pg) (hh : JG K d F0 H0 S js h ph) : JG K d F0 H0 S (is ++ js) (gTup K 2 (gCons g (gCons h gNil))) (pTwo pg ph) := by
  intro Z s σ F H c v x s' r e Q q
  obtain ⟨a, u, w, rfl, hs, r1, r2⟩ := r
  unfold pTwo at e
  cases e1 : pg x.1 s with
  | none => rw [e1] at e; cases e
  | some s1 =>
    rw [e1] at e
    refine r_gtup (SqT.same hs c.fh) rfl (r_gcons (hg _ _ _ _ _ c _ _ _ r1 e1 _ fun σ1 c1 w1 => r_gcons (hh _ _ _ _ _ c1 _ _ _ r2 e _ fun σ2 c2 w2 => r_gnil (q _ c2 fun vs h => ?_))))
    rw [w2 vs fun i hi => h i (List.mem_append_right _ hi), w1 vs fun i hi => h i (List.mem_append_left _ hi)]
theorem jg_tri {α β γ : Type} [Enc α] [Enc β] [Enc γ] {is js ks : List Nat} {g h l : TG} {pg : α → S → Option S} {ph : β → S → Option S} {pl : γ → S → Option S} (hg : JG K d F0 H0 S is g pg) (hh : JG K d F0 H0 S js h ph) (hl : JG K d F0 H0 S ks l pl) :
    JG K d F0 H0 S (is ++ (js ++ ks)) (gTup K 3 (gCons g (gCons h (gCons l gNil)))) (pTri pg ph pl) := by
  intro Z s σ F H c v x s' r e Q q
  obtain ⟨a, u, w, t, rfl, hs, r1, r2, r3⟩ := r
  unfold pTri at e
  cases e1 : pg x.a s with
  | none => rw [e1] at e; cases e
  | some s1 =>
    rw [e1] at e
    cases e2 : ph x.b s1 with
    | none => rw [show (some s1).bind (ph x.b) = none from e2] at e; cases e
    | some s2 =>
      rw [show (some s1).bind (ph x.b) = some s2 from e2] at e
      refine r_gtup (SqT.same hs c.fh) rfl (r_gcons (hg _ _ _ _ _ c _ _ _ r1 e1 _ fun σ1 c1 w1 => r_gcons (hh _ _ _ _ _ c1 _ _ _ r2 e2 _ fun σ2 c2 w2 => r_gcons (hl _ _ _ _ _ c2 _ _ _ r3 e _ fun σ3 c3 w3 => r_gnil (q _ c3 fun vs h => ?_)))))
      rw [w3 vs fun i hi => h i (by simp [hi]), w2 vs fun i hi => h i (by simp [hi]), w1 vs fun i hi => h i (by simp [hi])]
/-! ### statements -/
inductive Fl (S ρ : Type) | nx (s : S) | rt (r : ρ) (s : S) | bk (s : S) | ct (s : S)
abbrev MS (S ρ : Type) := S → Option (Fl S ρ)
abbrev Z0 : Hp := fun _ => none
def FlOk (K : PySem.W.Frag) (d : Addr → Prop) (F0 H0 : Hp) {S ρ : Type} [Slots S] (RT : S → Hp → VK → ρ → Prop) (f : Fl S ρ) (F : Hp) (D : Ends) : Prop := match f with
  | .nx s' => ∀ σ' F' H', Cx K d F0 H0 Z0 s' σ' F' H' → Same F F' → D.nx σ' H'
  | .bk s' => ∀ σ' F' H', Cx K d F0 H0 Z0 s' σ' F' H' → Same F F' → D.bk σ' H'
  | .ct s' => ∀ σ' F' H', Cx K d F0 H0 Z0 s' σ' F' H' → Same F F' → D.ct σ' H'
  | .rt r s' => RT s' F D.rt r
def JS (K : PySem.W.Frag) (d : Addr → Prop) (F0 H0 : Hp) (S : Type) [Slots S] {ρ : Type} (RT : S → Hp → VK → ρ → Prop) (t : TS) (m : MS S ρ) : Prop :=
  ∀ (s : S) (σ : L2.St) (F H : Hp), Cx K d F0 H0 Z0 s σ F H → ∀ f, m s = some f → ∀ D : Ends, FlOk K d F0 H0 RT f F D → t D σ H
/-- what is wanted of a result: a value; a new list -/
def RTn (K : PySem.W.Frag) (d : Addr → Prop) (F0 H0 : Hp) (S : Type) [Slots S] {ρ : Type} [Enc ρ] : S → Hp → VK → ρ → Prop := fun s F rt r => ∀ v σ' F' H', Cx K d F0 H0 Z0 s σ' F' H' → Same F F' → rel K F' v r → rt v H'
def RTf (K : PySem.W.Frag) (d : Addr → Prop) (F0 H0 : Hp) (S : Type) [Slots S] {ρ : Type} [Enc ρ] : S → Hp → VK → List ρ → Prop := fun s F rt r => ∀ vs p σ' F' H', Cx K d F0 H0 Z0 s σ' F' H' → Same F F' → H' p = none → Paired (rel K F') vs r → rt (.ref p) (upd H' p (.lst vs))
class RTm {S ρ : Type} (RT : S → Hp → VK → ρ → Prop) : Prop where
  mono : ∀ {s F F' rt r}, Same F F' → RT s F rt r → RT s F' rt r
instance {ρ : Type} [Enc ρ] : RTm (RTn K d F0 H0 S (ρ := ρ)) := ⟨fun s h v σ' F' H' c q r => h v σ' F' H' c (s.trans q) r⟩
instance {ρ : Type} [Enc ρ] : RTm (RTf K d F0 H0 S (ρ := ρ)) := ⟨fun s h vs p σ' F' H' c q n r => h vs p σ' F' H' c (s.trans q) n r⟩
variable {ρ : Type} {RT : S → Hp → VK → ρ → Prop} [RTm RT]
theorem FlOk.mono {f : Fl S ρ} {F F' : Hp} {D : Ends} (s : Same F F') (h : FlOk K d F0 H0 RT f F D) : FlOk K d F0 H0 RT f F' D := by
  cases f with
  | nx s' => exact fun σ' F2 H' c q => h σ' F2 H' c (s.trans q)
  | bk s' => exact fun σ' F2 H' c q => h σ' F2 H' c (s.trans q)
  | ct s' => exact fun σ' F2 H' c q => h σ' F2 H' c (s.trans q)
  | rt r s' => exact RTm.mono s h
def bindS {S α ρ : Type} (m : M S α) (f : α → MS S ρ) : MS S ρ := fun s => (m s).bind fun p => f p.1 p.2
theorem bindS_some {S α ρ : Type} {m : M S α} {f : α → MS S ρ} {s : S} {y : Fl S ρ} (h : bindS m f s = some y) : ∃ x s1, m s = some (x, s1) ∧ f x s1 = some y := by
  unfold bindS at h
  cases e : m s with
  | none => rw [e] at h; cases h
  | some p => rw [e] at h; exact ⟨p.1, p.2, rfl, h⟩
def nextM {S ρ : Type} : MS S ρ := fun s => some (.nx s)
def seqM {S ρ : Type} (a b : MS S ρ) : MS S ρ := fun s => (a s).bind fun f => match f with | .nx s' => b s' | .rt r s' => some (.rt r s') | .bk s' => some (.bk s') | .ct s' => some (.ct s')
def retM {S ρ : Type} (m : M S ρ) : MS S ρ := bindS m fun x s => some (.rt x s)
def dropM {S α ρ : Type} (m : M S α) : MS S ρ := bindS m fun _ s => some (.nx s)
def ifS {S ρ : Type} (c : M S Bool) (a b : MS S ρ) : MS S ρ := bindS c fun x => if x = true then a else b
def asgM {S α ρ : Type} (m : M S α) (put : α → S → Option S) : MS S ρ := bindS m fun x s => (put x s).map .nx
theorem js_next : JS K d F0 H0 S RT tNext nextM := by
  intro s σ F H c f e D q
  cases e
  exact q _ _ _ c (Same.refl _)
theorem js_seq {t u : TS} {a b : MS S ρ} (ha : JS K d F0 H0 S RT t a) (hb : JS K d F0 H0 S RT u b) : JS K d F0 H0 S RT (tSeq t u) (seqM a b) := by
  intro s σ F H c f e D q
  unfold seqM at e
  cases e1 : a s with
  | none => rw [e1] at e; cases e
  | some g =>
    rw [e1] at e
    refine ha s σ F H c g e1 { D with nx := u D } ?_
    cases g with
    | nx s' => exact fun σ' F' H' c' s1 => hb _ _ _ _ c' _ e D (q.mono s1)
    | bk s' => cases e; exact q
    | ct s' => cases e; exact q
    | rt r s' => cases e; exact q
theorem js_pass : JS K d F0 H0 S RT tNext nextM := js_next
theorem js_ret {ρ : Type} [Enc ρ] {t : TE} {m : M S ρ} (h : JE K d F0 H0 S t m) : JS K d F0 H0 S (RTn K d F0 H0 S) (tRet t) (retM m) := by
  intro s σ F H c f e D q
  obtain ⟨x, s1, e1, e⟩ := bindS_some e
  cases e
  exact h _ _ _ _ _ c _ _ e1 _ fun v F' H' c' sf r => q v σ F' H' c' sf r
theorem js_retF {ρ : Type} [Enc ρ] {t : TE} {m : M S (List ρ)} (h : JF K d F0 H0 S t m) : JS K d F0 H0 S (RTf K d F0 H0 S) (tRet t) (retM m) := by
  intro s σ F H c f e D q
  obtain ⟨x, s1, e1, e⟩ := bindS_some e
  cases e
  exact h _ _ _ _ _ c _ _ e1 _ fun vs p F' H' c' sf hp r => q vs p σ F' H' c' sf hp r
theorem js_drop {α : Type} [Enc α] {t : TE} {m : M S α} (h : JE K d F0 H0 S t m) : JS K d F0 H0 S RT (tDrop t) (dropM m) := by
  intro s σ F H c f e D q
  obtain ⟨x, s1, e1, e⟩ := bindS_some e
  cases e
  exact r_drop (h _ _ _ _ _ c _ _ e1 _ fun v F' H' c' sf r => q σ F' H' c' sf)
theorem js_if {t : TT} {u w : TS} {m : M S Bool} {a b : MS S ρ} (h : JT K d F0 H0 S t m) (ha : JS K d F0 H0 S RT u a) (hb : JS K d F0 H0 S RT w b) : JS K d F0 H0 S RT (tIfS t u w) (ifS m a b) := by
  intro s σ F H c f e D q
  obtain ⟨x, s1, e1, e⟩ := bindS_some e
  refine r_if (h _ _ _ _ _ c _ _ e1 _ fun v F' H' c' sf r => ?_)
  subst r
  cases v with
  | true => exact ha _ _ _ _ c' _ e D (q.mono sf)
  | false => exact hb _ _ _ _ c' _ e D (q.mono sf)
theorem js_asg {α : Type} [Enc α] {is : List Nat} {t : TE} {g : TG} {m : M S α} {put : α → S → Option S} (h : JE K d F0 H0 S t m) (hg : JG K d F0 H0 S is g put) : JS K d F0 H0 S RT (tAsg t g) (asgM m put) := by
  intro s σ F H c f e D q
  obtain ⟨x, s1, e1, e⟩ := bindS_some e
  cases e2 : put x s1 with
  | none => rw [e2] at e; cases e
  | some s2 =>
    rw [e2] at e
    cases e
    exact r_asg (h _ _ _ _ _ c _ _ e1 _ fun v F' H' c' sf r => hg _ _ _ _ _ c' _ _ _ r e2 _ fun σ' c2 _ => q σ' F' H' c2 sf)
def pOwn {S χ : Type} [Slots S] [Slot (Own χ)] {k : Nat} (p : Pos S (Own χ) k) : χ → S → Option S := fun x s => some (p.put s (.mine x))
/-- a variable that may change what it holds takes a new list -/
theorem js_own {α : Type} [Enc α] {k : Nat} (p : Pos S (Own (List α)) k) {t : TE} {m : M S (List α)} (h : JF K d F0 H0 S t m) : JS K d F0 H0 S RT (tAsg t (gName k)) (asgM m (pOwn p)) := by
  intro s σ F H c f e D q
  obtain ⟨x, s1, e1, e⟩ := bindS_some e
  cases e
  exact r_asg (h _ _ _ _ _ c _ _ e1 _ fun vs a F' H' c' sf hp r => r_name (q _ F' _ (c'.own p hp ⟨vs, rfl, r⟩) sf))
/-- two variables at once -/
def parM {S α β ρ : Type} (m : M S (α × β × Unit)) (f : α → S → Option S) (g : β → S → Option S) : MS S ρ := bindS m fun x s => ((f x.1 s).bind (g x.2.1)).map .nx
theorem js_par {α β : Type} [Enc α] [Enc β] {i j : Nat} (p : Pos S (Dt α) i) (p' : Pos S (Dt β) j) {t : TA} {m : M S (α × β × Unit)} (h : JA K d F0 H0 S t m) : JS K d F0 H0 S RT (tPar i j t) (parM m (pName p) (pName p')) := by
  intro s σ F H c f e D q
  obtain ⟨x, s1, e1, e⟩ := bindS_some e
  cases e
  refine r_par (h _ _ _ _ _ c _ _ e1 _ fun vs F' H' c' sf r => ?_)
  obtain ⟨v, ws, rfl, r1, w, us, rfl, r2, rfl⟩ := r
  exact ⟨v, w, rfl, q _ F' H' ((c'.set p r1).set p' r2) sf⟩
def par3M {S α β γ ρ : Type} (m : M S (α × β × γ × Unit)) (f : α → S → Option S) (g : β → S → Option S) (h : γ → S → Option S) : MS S ρ := bindS m fun x s => (((f x.1 s).bind (g x.2.1)).bind (h x.2.2.1)).map .nx
theorem js_par3 {α β γ : Type} [Enc α] [Enc β] [Enc γ] {i j l : Nat} (p : Pos S (Dt α) i) (p' : Pos S (Dt β) j) (p'' : Pos S (Dt γ) l) {t : TA} {m : M S (α × β × γ × Unit)} (h : JA K d F0 H0 S t m) : JS K d F0 H0 S RT (tPar3 i j l t) (par3M m (pName p) (pName p') (pName p'')) := by
  intro s σ F H c f e D q
  obtain ⟨x, s1, e1, e⟩ := bindS_some e
  cases e
  refine r_par3 (h _ _ _ _ _ c _ _ e1 _ fun vs F' H' c' sf r => ?_)
  obtain ⟨v, ws, rfl, r1, w, us, rfl, r2, u, us, rfl, r3, rfl⟩ := r
  exact ⟨v, w, u, rfl, q _ F' H' (((c'.set p r1).set p' r2).set p'' r3) sf⟩
def augM {S α β ρ : Type} [Slots S] [Slot (Dt α)] {k : Nat} (p : Pos S (Dt α) k) (m : M S β) (f : α → β → α) : MS S ρ := fun s => match p.get s with | .is x => (m s).map fun y => .nx (p.put y.2 (.is (f x y.1))) | .no => none
theorem js_aug {k : Nat} (p : Pos S (Dt Int) k) {t : TE} {m : M S Int} {g : Int → Int → Int} (h : JE K d F0 H0 S t m) : JS K d F0 H0 S RT (tAug k t (ipI g)) (augM p m g) := by
  intro s σ F H c f e D q
  unfold augM at e
  obtain ⟨gg, dn, own, w1, w2, sl⟩ := id c
  obtain ⟨ov, h1, h2⟩ := p.rd sl
  cases e0 : p.get s with
  | no => rw [e0] at e; cases e
  | «is» x =>
    rw [e0] at e h2
    obtain ⟨v, rfl, r⟩ := h2
    cases r
    cases e1 : m s with
    | none => simp [e1] at e
    | some y =>
      simp [e1] at e
      subst e
      refine r_aug h1 (h _ _ _ _ _ c _ _ e1 _ fun w F' H' c' sf r => ?_)
      cases r
      exact r_ip (q _ F' H' (c'.set p rfl) sf)
/-! ### loops -/
def forL {S α ρ : Type} (put : α → S → Option S) (b : MS S ρ) : List α → MS S ρ
  | [], s => some (.nx s)
  | x :: xs, s => (put x s).bind fun s1 => (b s1).bind fun f => match f with
    | .nx s' => forL put b xs s'
    | .ct s' => forL put b xs s'
    | .bk s' => some (.nx s')
    | .rt r s' => some (.rt r s')
def forM {S α ρ : Type} (m : M S (List α)) (put : α → S → Option S) (b : MS S ρ) : MS S ρ := bindS m fun xs => forL put b xs
theorem js_for {α : Type} [Enc α] {is : List Nat} {ti : TI} {g : TG} {tb : TS} {m : M S (List α)} {put : α → S → Option S} {b : MS S ρ} (hi : JI K d F0 H0 S ti m) (hg : JG K d F0 H0 S is g put) (hb : JS K d F0 H0 S RT tb b) : JS K d F0 H0 S RT (tFor ti g tb) (forM m put b) := by
  intro s σ F H c f e D q
  obtain ⟨xs, s1, e1, e⟩ := bindS_some e
  refine r_for (hi _ _ _ _ _ c _ _ e1 _ fun J F1 H1 c1 sf1 it => ?_)
  refine ⟨fun i m σ H => i + m = xs.length ∧ ∃ s F, Cx K d F0 H0 Z0 s σ F H ∧ Same F1 F ∧ forL put b (xs.drop i) s = some f, ⟨xs.length, by omega, s1, F1, c1, Same.refl _, e⟩, fun i m σ2 H2 hw => ?_⟩
  obtain ⟨em, s2, F2, c2, sf2, e2⟩ := hw
  cases m with
  | zero =>
    have ei : i = xs.length := by omega
    subst ei
    rw [List.drop_length] at e2
    cases e2
    exact .inl ⟨it.stop _ _ sf2 c2.fh, q _ _ _ c2 (sf1.trans sf2)⟩
  | succ m =>
    have hi : i < xs.length := by omega
    have gx : xs[i]? = some xs[i] := List.getElem?_eq_getElem hi
    rw [List.drop_eq_getElem_cons hi] at e2
    unfold forL at e2
    refine .inr ⟨it.go _ _ _ hi sf2 c2.fh, fun σ' H' => i + 1 + m = xs.length ∧ ∃ s F, Cx K d F0 H0 Z0 s σ' F H' ∧ Same F1 F ∧ forL put b (xs.drop (i + 1)) s = some f, fun σ' H' w => ⟨m, Nat.lt_succ_self m, w⟩, fun x H3 y => ?_⟩
    cases e3 : put xs[i] s2 with
    | none => rw [e3] at e2; cases e2
    | some s3 =>
      rw [e3] at e2
      have fin : ∀ F3, Cx K d F0 H0 Z0 s2 σ2 F3 H3 → Same F2 F3 → rel K F3 x xs[i] → g x σ2 H3 fun σ2 H2 => tb ⟨fun σ' H' => i + 1 + m = xs.length ∧ ∃ s F, Cx K d F0 H0 Z0 s σ' F H' ∧ Same F1 F ∧ forL put b (xs.drop (i + 1)) s = some f, D.rt, D.nx, fun σ' H' => i + 1 + m = xs.length ∧ ∃ s F, Cx K d F0 H0 Z0 s σ' F H' ∧ Same F1 F ∧ forL put b (xs.drop (i + 1)) s = some f⟩ σ2 H2 := by
        intro F3 c3 sf3 r3
        refine hg _ _ _ _ _ c3 _ _ _ r3 e3 _ fun σ4 c4 _ => ?_
        cases e4 : b s3 with
        | none => rw [show (some s3).bind (fun s1 => (b s1).bind _) = (b s3).bind _ from rfl, e4] at e2; cases e2
        | some fl =>
          rw [show (some s3).bind (fun s1 => (b s1).bind _) = (b s3).bind _ from rfl, e4] at e2
          refine hb _ _ _ _ c4 _ e4 _ ?_
          have s13 := sf2.trans sf3
          cases fl with
          | nx s' => exact fun σ' F' H' c' sf' => ⟨by omega, s', F', c', s13.trans sf', e2⟩
          | ct s' => exact fun σ' F' H' c' sf' => ⟨by omega, s', F', c', s13.trans sf', e2⟩
          | bk s' => cases e2; exact fun σ' F' H' c' sf' => q _ _ _ c' (sf1.trans (s13.trans sf'))
          | rt r s' => cases e2; exact RTm.mono (sf1.trans s13) q
      rcases it.yld i _ _ _ _ _ gx sf2 c2.fh y with ⟨rfl, r⟩ | ⟨p, o, hp, rfl, r⟩
      · exact fin _ c2 (Same.refl _) r
      · have n := c2.new hp o
        exact fin _ n.1 n.2 r
def whileL {S ρ : Type} (c : M S Bool) (b : MS S ρ) : Nat → MS S ρ
  | 0, _ => none
  | n + 1, s => (c s).bind fun p => if p.1 = true then (b p.2).bind fun f => match f with
    | .nx s' => whileL c b n s'
    | .ct s' => whileL c b n s'
    | .bk s' => some (.nx s')
    | .rt r s' => some (.rt r s') else some (.nx p.2)
theorem js_while {n : Nat} {tc : TT} {tb : TS} {m : M S Bool} {b : MS S ρ} (hc : JT K d F0 H0 S tc m) (hb : JS K d F0 H0 S RT tb b) : JS K d F0 H0 S RT (tWhile tc tb) (whileL m b n) := by
  intro s σ F H c f e D q
  refine ⟨fun n σ H => ∃ s F1, Cx K d F0 H0 Z0 s σ F1 H ∧ Same F F1 ∧ whileL m b n s = some f, ⟨n, s, F, c, Same.refl _, e⟩, fun n σ2 H2 hw => ?_⟩
  obtain ⟨s2, F2, c2, sf2, e2⟩ := hw
  cases n with
  | zero => cases e2
  | succ n =>
    unfold whileL at e2
    cases e3 : m s2 with
    | none => rw [e3] at e2; cases e2
    | some p =>
      rw [e3] at e2
      have e2 : (if p.1 = true then (b p.2).bind fun f => match f with
        | .nx s' => whileL m b n s'
        | .ct s' => whileL m b n s'
        | .bk s' => some (.nx s')
        | .rt r s' => some (.rt r s') else some (.nx p.2)) = some f := e2
      refine hc _ _ _ _ _ c2 p.1 p.2 e3 _ fun v F3 H3 c3 sf3 r3 => ?_
      subst r3
      cases hv : p.1 with
      | false =>
        rw [hv] at e2
        cases e2
        exact q _ _ _ c3 (sf2.trans sf3)
      | true =>
        rw [hv] at e2
        refine ⟨fun σ' H' => ∃ s F1, Cx K d F0 H0 Z0 s σ' F1 H' ∧ Same F F1 ∧ whileL m b n s = some f, fun σ' H' w => ⟨n, Nat.lt_succ_self n, w⟩, ?_⟩
        cases e4 : b p.2 with
        | none => rw [if_pos rfl, e4] at e2; cases e2
        | some fl =>
          rw [if_pos rfl, e4] at e2
          refine hb _ _ _ _ c3 _ e4 _ ?_
          have s13 := sf2.trans sf3
          cases fl with
          | nx s' => exact fun σ' F' H' c' sf' => ⟨s', F', c', s13.trans sf', e2⟩
          | ct s' => exact fun σ' F' H' c' sf' => ⟨s', F', c', s13.trans sf', e2⟩
          | bk s' => cases e2; exact fun σ' F' H' c' sf' => q _ _ _ c' (s13.trans sf')
          | rt r s' => cases e2; exact RTm.mono s13 q
end
end Rm
namespace Rm
open PySem PySem.Spec PyProof.Rows L2 Rg
open Enc (rel)
open Cell (cel)
open Slot (srel)
open Slots (srels)
section
variable {K : PySem.W.Frag} {d : Addr → Prop} {F0 H0 : Hp} {S : Type} [Slots S]
/-! ### comprehensions -/
/-- the slots of a comprehension's names forgotten -/
structure Wp (S : Type) [Slots S] (vs : List Nat) where
  wp : S → S
  w1 : ∀ {K : PySem.W.Frag} {P : Bool → Addr → Prop} {own : Addr → Option Nat} {F H : Hp} {σ : L2.St} {s : S}, srels K P own F H 0 σ s → srels K P own F H 0 (wipe σ vs) (wp s)
  w2 : ∀ {K : PySem.W.Frag} {P : Bool → Addr → Prop} {own : Addr → Option Nat} {F H : Hp} {σ : L2.St} {s : S}, srels K P own F H 0 (wipe σ vs) (wp s) → srels K P own F H 0 σ (wp s)
def Wp.nil : Wp S [] := ⟨fun s => s, fun h => h, fun h => h⟩
def Wp.cons {α : Type} [Enc α] {k : Nat} {vs : List Nat} (p : Pos S (Dt α) k) (w : Wp S vs) (h : ∀ s, p.get (w.wp (p.put s .no)) = .no) : Wp S (k :: vs) where
  wp := fun s => w.wp (p.put s .no)
  w1 := fun {K P own F H σ s} q => by
    obtain ⟨ov, h1, h2⟩ := p.rd q
    have q2 := p.wr (own' := own) (F' := F) (H' := H) (ov := ov) (x := Dt.no) q ⟨Same.refl _, fun j a _ e f _ => ⟨e, f, rfl⟩⟩ trivial
    rw [set_same h1] at q2
    have q3 := w.w1 q2
    unfold wipe
    exact p.ov none q3 (by rw [h]; trivial)
  w2 := fun {K P own F H σ s} q => by
    unfold wipe at q
    refine w.w2 ?_
    have hk : k < (wipe σ vs).length ∨ ¬ k < (wipe σ vs).length := Nat.lt_or_ge _ _ |>.imp id fun z => by omega
    rcases hk with hk | hk
    · have q2 := p.ov (wipe σ vs)[k] q (by rw [h]; trivial)
      rw [List.set_set] at q2
      rw [set_same (List.getElem?_eq_getElem hk)] at q2
      exact q2
    · rw [List.set_eq_of_length_le (by omega)] at q
      exact q
theorem Cx.wipe {Z : Hp} {s : S} {σ : L2.St} {F H : Hp} {vs : List Nat} (w : Wp S vs) (c : Cx K d F0 H0 Z s σ F H) : Cx K d F0 H0 Z (w.wp s) (L2.wipe σ vs) F H := by
  obtain ⟨g, dn, own, w1, w2, sl⟩ := c
  exact ⟨g, dn, own, w1, w2, w.w1 sl⟩
theorem Cx.unwipe {Z : Hp} {s : S} {σ : L2.St} {F H : Hp} {vs : List Nat} (w : Wp S vs) (c : Cx K d F0 H0 Z (w.wp s) (L2.wipe σ vs) F H) : Cx K d F0 H0 Z (w.wp s) σ F H := by
  obtain ⟨g, dn, own, w1, w2, sl⟩ := c
  exact ⟨g, dn, own, w1, w2, w.w2 sl⟩
/-- the items one by one; s is forgotten of the names at each turn -/
def lcL {S α β : Type} (wp : S → S) (put : α → S → Option S) (mt : M S Bool) (me : M S β) : List α → S → Option (List β × S)
  | [], s => some ([], wp s)
  | x :: xs, s => (put x (wp s)).bind fun s1 => (mt s1).bind fun p => if p.1 = true then (me p.2).bind fun q => (lcL wp put mt me xs q.2).map fun r => (q.1 :: r.1, r.2) else lcL wp put mt me xs p.2
def lcM {S α β : Type} (mi : M S (List α)) (wp : S → S) (put : α → S → Option S) (mt : M S Bool) (me : M S β) : M S (List β) := bnd mi fun xs => if xs.length ≤ 100000 then lcL wp put mt me xs else fun _ => none
theorem jt_yes : JT K d F0 H0 S tYes (pur true) := by
  intro Z s σ F H c x s' e Q q
  cases e
  exact q _ _ _ c (Same.refl _) rfl
theorem Cx.hz {Z : Hp} {s : S} {σ : L2.St} {F H : Hp} (c : Cx K d F0 H0 Z s σ F H) {a : Addr} {o : HO} (h : Z a = some o) : H a = some o ∧ F a = none := by
  obtain ⟨g, dn, own, w1, w2, sl⟩ := c
  exact ⟨(w2 a o h).1, (w2 a o h).2.1⟩
theorem Cx.lessZ {Z Z' : Hp} {s : S} {σ : L2.St} {F H : Hp} (c : Cx K d F0 H0 Z s σ F H) (h : ∀ a o, Z' a = some o → Z a = some o) : Cx K d F0 H0 Z' s σ F H := by
  obtain ⟨g, dn, own, w1, w2, sl⟩ := c
  exact ⟨g, dn, own, w1, fun a o e => w2 a o (h a o e), sl⟩
/-- a held new thing is taken out again -/
theorem Cx.back {Z : Hp} {s : S} {σ : L2.St} {F H : Hp} {D : Addr} {o : HO} (c : Cx K d F0 H0 (upd Z D o) s σ F H) (hz : Z D = none) : ∃ H1, H1 D = none ∧ H = upd H1 D o ∧ Cx K d F0 H0 Z s σ F H1 := by
  obtain ⟨g, dn, own, w1, w2, sl⟩ := c
  obtain ⟨z1, z2, z3, z4, z5⟩ := w2 D o upd_same
  refine ⟨fun b => if b = D then none else H b, by simp, ?_, ⟨g.ff, fun b u e => ?_, fun b u n e => ?_, g.fr, fun b n => ?_⟩, dn, own, fun a j e => ?_, fun a u e => ?_, ?_⟩
  · funext b
    by_cases h : b = D
    · subst h; rw [upd_same]; exact z1
    · rw [upd_ne h]; simp [h]
  · have n : b ≠ D := fun z => by subst z; rw [z2] at e; cases e
    simp [n]
    exact g.fh b u e
  · have n' : b ≠ D := fun z => by subst z; rw [z5] at e; cases e
    simp [n']
    exact g.hh b u n e
  · have n' : b ≠ D := fun z => by subst z; exact n z5
    simp [n']
    exact g.dm b n
  · have n' : a ≠ D := fun z => by subst z; rw [z3] at e; cases e
    simp [n']
    exact w1 a j e
  · have n' : a ≠ D := fun z => by subst z; rw [hz] at e; cases e
    have q := w2 a u (by rw [upd_ne n']; exact e)
    simp [n']
    exact q
  · refine Slots.grow sl (L := fun _ => True) ⟨Same.refl _, fun j a _ e f n => ⟨e, f, ?_⟩⟩ fun _ _ => trivial
    have n' : a ≠ D := fun z => by subst z; rw [z3] at e; cases e
    simp [n']
theorem jf_lc {α β : Type} [Enc α] [Enc β] {is vs : List Nat} {ti : TI} {g : TG} {tt : TT} {te : TE} {mi : M S (List α)} {put : α → S → Option S} {mt : M S Bool} {me : M S β} (w : Wp S vs) (hi : JI K d F0 H0 S ti mi) (hg : JG K d F0 H0 S is g put) (hv : ∀ i ∈ is, i ∈ vs)
    (ht : JT K d F0 H0 S tt mt) (he : JE K d F0 H0 S te me) : JF K d F0 H0 S (tLc ti g tt te vs) (lcM mi w.wp put mt me) := by
  intro Z s σ F H c ys s' e Q q
  obtain ⟨xs, s1, e1, e⟩ := bnd_some e
  by_cases hl : xs.length ≤ 100000
  · rw [if_pos hl] at e
    show ti σ H _
    refine hi _ _ _ _ _ c _ _ e1 _ fun J F1 H1 c1 sf1 it D hD => ?_
    have ZD : Z D = none := by
      cases z : Z D with
      | none => rfl
      | some o => have := (c1.hz z).1; rw [hD] at this; cases this
    let W : Nat → Nat → Hp → Prop := fun i m h => i + m = xs.length ∧ ∃ s F acc zs pre, Cx K d F0 H0 (upd Z D (.lst acc)) (w.wp s) (wipe σ vs) F h ∧ Same F1 F ∧ acc.length ≤ i ∧ Paired (rel K F) acc pre ∧ lcL w.wp put mt me (xs.drop i) s = some (zs, s') ∧ pre ++ zs = ys
    refine ⟨W, ⟨xs.length, by omega, s1, F1, [], ys, [], (c1.junk hD _).wipe w, Same.refl _, Nat.zero_le _, .nil, e, rfl⟩, fun i m h hw => ?_⟩
    obtain ⟨em, s2, F2, acc, zs, pre, c2, sf2, la, pa, e2, ey⟩ := hw
    cases m with
    | zero =>
      have ei : i = xs.length := by omega
      subst ei
      rw [List.drop_length] at e2
      cases e2
      refine .inl ⟨it.stop _ _ sf2 c2.fh, ?_⟩
      rw [List.append_nil] at ey
      subst ey
      obtain ⟨H3, h3, rfl, c3⟩ := (c2.unwipe w).back ZD
      exact q acc D F2 H3 c3 (sf1.trans sf2) h3 pa
    | succ m =>
      have hi : i < xs.length := by omega
      have gx : xs[i]? = some xs[i] := List.getElem?_eq_getElem hi
      rw [List.drop_eq_getElem_cons hi] at e2
      unfold lcL at e2
      refine .inr ⟨it.go _ _ _ hi sf2 c2.fh, W (i + 1) m, fun H' w => ⟨m, Nat.lt_succ_self m, w⟩, fun x H3 y => ?_⟩
      cases e3 : put xs[i] (w.wp s2) with
      | none => rw [e3] at e2; cases e2
      | some s3 =>
        rw [e3] at e2
        cases e4 : mt s3 with
        | none => rw [show (some s3).bind (fun s1 => (mt s1).bind _) = (mt s3).bind _ from rfl, e4] at e2; cases e2
        | some p4 =>
          rw [show (some s3).bind (fun s1 => (mt s1).bind _) = (mt s3).bind _ from rfl, e4] at e2
          have e2 : (if p4.1 = true then (me p4.2).bind fun q => (lcL w.wp put mt me (xs.drop (i + 1)) q.2).map fun r => (q.1 :: r.1, r.2) else lcL w.wp put mt me (xs.drop (i + 1)) p4.2) = some (zs, s') := e2
          have fin : ∀ F3, Cx K d F0 H0 (upd Z D (.lst acc)) (w.wp s2) (wipe σ vs) F3 H3 → Same F2 F3 → rel K F3 x xs[i] → g x (wipe σ vs) H3 fun σ2 H2 => wipe σ2 vs = wipe σ vs ∧ tt σ2 H2 fun b H3 =>
              if b = true then te σ2 H3 fun y H4 => ∃ acc, H4 D = some (.lst acc) ∧ acc.length < sizeLine ∧ W (i + 1) m (upd H4 D (.lst (acc ++ [y]))) else W (i + 1) m H3 := by
            intro F3 c3 sf3 r3
            refine hg _ _ _ _ _ c3 _ _ _ r3 e3 _ fun σ4 c4 wi => ?_
            have wi := wi vs hv
            have wi2 : wipe σ4 vs = wipe σ vs := by
              rw [wi]
              have go : ∀ us : List Nat, wipe (wipe σ us) us = wipe σ us := by
                intro us
                have key : ∀ (ws : List Nat) (τ : L2.St), (∀ u ∈ ws, ∀ z, τ[u]? = some z → z = none) → wipe τ ws = τ := by
                  intro ws
                  induction ws with
                  | nil => intro τ _; rfl
                  | cons u ws ih =>
                    intro τ hτ
                    unfold wipe
                    rw [ih τ fun v hv => hτ v (List.mem_cons_of_mem _ hv)]
                    by_cases hu : u < τ.length
                    · have z := hτ u (List.mem_cons_self ..) _ (List.getElem?_eq_getElem hu)
                      exact set_same (by rw [List.getElem?_eq_getElem hu, z])
                    · exact List.set_eq_of_length_le (by omega)
                refine key us _ fun u hu z hz => ?_
                cases z with
                | none => rfl
                | some z => exact absurd hu (wipe_some hz).2
              exact go vs
            refine ⟨wi2, ht _ _ _ _ _ c4 p4.1 p4.2 e4 _ fun b F5 H5 c5 sf5 r5 => ?_⟩
            subst r5
            have s15 := sf2.trans (sf3.trans sf5)
            cases hb : p4.1 with
            | false =>
              rw [hb] at e2
              show W (i + 1) m H5
              refine ⟨by omega, p4.2, F5, acc, zs, pre, ?_, s15, by omega, Paired.imp (fun _ _ => Enc.mono (sf3.trans sf5)) pa, e2, ey⟩
              have c6 := c5.wipe w
              rw [wi2] at c6
              exact c6
            | true =>
              rw [hb] at e2
              cases e6 : me p4.2 with
              | none => rw [if_pos rfl, e6] at e2; cases e2
              | some q6 =>
                rw [if_pos rfl, e6] at e2
                have e2 : (lcL w.wp put mt me (xs.drop (i + 1)) q6.2).map (fun r => (q6.1 :: r.1, r.2)) = some (zs, s') := e2
                cases e7 : lcL w.wp put mt me (xs.drop (i + 1)) q6.2 with
                | none => rw [e7] at e2; cases e2
                | some r7 =>
                  rw [e7] at e2
                  cases e2
                  show te σ4 H5 _
                  refine he _ _ _ _ _ c5 q6.1 q6.2 e6 _ fun y F6 H6 c6 sf6 r6 => ?_
                  have hz := c6.hz (upd_same (H := Z) (a := D))
                  refine ⟨acc, hz.1, Nat.lt_of_le_of_lt la (Nat.lt_of_lt_of_le (show i < 100001 by omega) (by decide)), by omega, q6.2, F6, acc ++ [y], r7.1, pre ++ [q6.1], ?_, s15.trans sf6, by rw [List.length_append, List.length_singleton]; omega, Paired.append (Paired.imp (fun _ _ => Enc.mono (sf3.trans (sf5.trans sf6))) pa) (.cons r6 .nil), e7, by rw [List.append_assoc]; exact ey⟩
                  have c7 := (c6.held (upd_same (H := Z) (a := D)) (.lst (acc ++ [y]))).wipe w
                  rw [wi2, upd_upd] at c7
                  exact c7
          rcases it.yld i _ _ _ _ _ gx sf2 c2.fh y with ⟨rfl, r⟩ | ⟨p, o, hp, rfl, r⟩
          · exact fin _ c2 (Same.refl _) r
          · have n := c2.new hp o
            exact fin _ n.1 n.2 r
  · rw [if_neg hl] at e
    cases e
/-! ### what a variable's own object is asked -/
def rdo {S χ : Type} [Slots S] [Slot (Own χ)] {k : Nat} (p : Pos S (Own χ) k) : M S χ := fun s => match p.get s with | .mine x => some (x, s) | _ => none
theorem rdo_some {χ : Type} [Cell χ] [Frz χ] {k : Nat} {p : Pos S (Own χ) k} {s s' : S} {x : χ} (h : rdo p s = some (x, s')) : p.get s = .mine x ∧ s' = s := by
  unfold rdo at h
  cases e : p.get s with
  | no => rw [e] at h; cases h
  | mine y => rw [e] at h; cases h; exact ⟨rfl, rfl⟩
  | gone y => rw [e] at h; cases h
/-- as a value: it changes no more -/
def giv {S α : Type} [Slots S] [Slot (Own (List α))] {k : Nat} (p : Pos S (Own (List α)) k) : M S (List α) := fun s => match p.get s with | .mine x => some (x, p.put s (.gone x)) | .gone x => some (x, s) | .no => none
theorem j_giv {α : Type} [Enc α] {k : Nat} (p : Pos S (Own (List α)) k) : JE K d F0 H0 S (tVar k) (giv p) := by
  intro Z s σ F H c x s' e Q q
  unfold giv at e
  cases h : p.get s with
  | no => rw [h] at e; cases e
  | mine y =>
    rw [h] at e
    cases e
    obtain ⟨a, F', h1, sf, r, c'⟩ := c.give p h
    exact ⟨_, h1, q _ _ _ c' sf r⟩
  | gone y =>
    rw [h] at e
    cases e
    obtain ⟨g, dn, own, w1, w2, sl⟩ := id c
    obtain ⟨ov, h1, h2⟩ := p.rd sl
    rw [h] at h2
    obtain ⟨v, rfl, r⟩ := h2
    exact ⟨v, h1, q v _ _ c (Same.refl _) r⟩
theorem Cx.peek {α : Type} [Enc α] {Z : Hp} {s : S} {σ : L2.St} {F H : Hp} {k : Nat} (c : Cx K d F0 H0 Z s σ F H) (p : Pos S (Own (List α)) k) {x : List α} (e : p.get s = .mine x) : ∃ a vs, σ[k]? = some (some (.ref a)) ∧ H a = some (.lst vs) ∧ Paired (rel K F) vs x := by
  obtain ⟨a, o, h1, ha, ⟨vs, rfl, r⟩, _⟩ := c.mut p e
  exact ⟨a, vs, h1, ha, r⟩
theorem j_lenO {α : Type} [Enc α] {k : Nat} (p : Pos S (Own (List α)) k) : JE K d F0 H0 S (tCB (rLen2 K) (tCons (tVar k) tNil)) (op1 (fun x : List α => some (x.length : Int)) (rdo p)) := by
  intro Z s σ F H c x s' e Q q
  obtain ⟨y1, s1, e1, e⟩ := bnd_some e
  obtain ⟨e3, rfl⟩ := lft_some e
  cases e3
  obtain ⟨e1, rfl⟩ := rdo_some e1
  obtain ⟨a, vs, h1, ha, r⟩ := c.peek p e1
  refine r_cb (r_cons ⟨.ref a, h1, r_nil ⟨a, vs, rfl, .inl (sqe ha), ?_⟩⟩)
  rw [Paired.length r]
  exact q _ _ _ c (Same.refl _) rfl
def ixO {S α β γ : Type} [Slots S] [Slot (Own (List α))] {k : Nat} (p : Pos S (Own (List α)) k) (m : M S β) (f : List α → β → Option γ) : M S γ := bnd (rdo p) fun _ => bnd m fun i => bnd (rdo p) fun x => lft (f x i)
theorem ixO_some {α β γ : Type} [Enc α] {k : Nat} {p : Pos S (Own (List α)) k} {m : M S β} {f : List α → β → Option γ} {s s' : S} {z : γ} (h : ixO p m f s = some (z, s')) : ∃ x0 i x, p.get s = .mine x0 ∧ m s = some (i, s') ∧ p.get s' = .mine x ∧ f x i = some z := by
  obtain ⟨y0, s0, e0, e⟩ := bnd_some h
  obtain ⟨e0, rfl⟩ := rdo_some e0
  obtain ⟨y1, s1, e1, e⟩ := bnd_some e
  obtain ⟨y2, s2, e2, e⟩ := bnd_some e
  obtain ⟨e3, rfl⟩ := lft_some e
  obtain ⟨e2, rfl⟩ := rdo_some e2
  exact ⟨y0, y1, y2, e0, e1, e2, e3⟩
theorem j_ixO {α : Type} [Enc α] {k : Nat} (p : Pos S (Own (List α)) k) {t : TE} {m : M S Int} (h : JE K d F0 H0 S t m) : JE K d F0 H0 S (tOp (rIxL K) (tVar k) t) (ixO p m fun x i => atI x i) := by
  intro Z s σ F H c x s' e Q q
  obtain ⟨x0, i, y, e0, e1, e2, e3⟩ := ixO_some e
  obtain ⟨a, vs, h1, _, _⟩ := c.peek p e0
  refine r_op ⟨.ref a, h1, h _ _ _ _ _ c _ _ e1 _ fun v F' H' c' sf r => ?_⟩
  cases r
  obtain ⟨a', vs, h1', ha, r⟩ := c'.peek p e2
  rw [h1] at h1'
  cases h1'
  obtain ⟨w, h2, h3⟩ := atI_par r e3
  exact r_ixL (sqe ha) h2 (q _ _ _ c' sf h3)
/-- a part of it -/
theorem jf_sliceO {α : Type} [Enc α] {k : Nat} (p : Pos S (Own (List α)) k) {tl th : TO} {ml mh : M S (Option Int)} (hl : JO K d F0 H0 S tl ml) (hh : JO K d F0 H0 S th mh) : JF K d F0 H0 S (tSl (rSlL K) (tVar k) tl th) (ixO p (bnd ml fun l => bnd mh fun h => pur (l, h)) fun x i => some (cutL x i.1 i.2)) := by
  intro Z s σ F H c x s' e Q q
  obtain ⟨x0, i, y, e0, e1, e2, e3⟩ := ixO_some e
  obtain ⟨y2, s2, e4, e1⟩ := bnd_some e1
  obtain ⟨y3, s3, e5, e1⟩ := bnd_some e1
  cases e1
  cases e3
  obtain ⟨a, vs, h1, _, _⟩ := c.peek p e0
  refine r_sl ⟨.ref a, h1, hl _ _ _ _ _ c _ _ e4 _ fun l F2 H2 c2 q2 r2 => hh _ _ _ _ _ c2 _ _ e5 _ fun h F3 H3 c3 q3 r3 => ?_⟩
  subst r2 r3
  obtain ⟨a', vs, h1', ha, r⟩ := c3.peek p e2
  rw [h1] at h1'
  cases h1'
  refine r_slL (sqe ha) fun p hp => q _ _ _ _ c3 (q2.trans q3) hp ?_
  unfold cutV cutL
  rw [Paired.length r]
  exact Paired.take _ (Paired.drop _ r)
/-- in, not in, of ints -/
def inL (xs : List Int) (x : Int) : Bool := xs.any fun y => decide (y = x)
theorem inV_ints {x : Int} : ∀ {ns : List Int}, inV (.int x) (ns.map V.int) = inL ns x := by
  intro ns
  unfold inV inL
  rw [List.any_map]
  refine congrArg (List.any ns) (funext fun y => ?_)
  show eqV (.int y) (.int x) = decide (y = x)
  by_cases h : y = x
  · subst h; simp [eqV]
  · simp [eqV, h]
theorem rj_in : RJ2 K d F0 H0 S (rIn K false) (fun (x : Int) (xs : List Int) => some (inL xs x)) := by
  intro Z s σ F H c v u x y z r1 r2 e Q q
  cases r1
  cases e
  obtain ⟨a, vs, rfl, hs, p1⟩ := r2
  have e := paired_ints p1
  subst e
  refine ⟨a, _, rfl, .inl (Same.seq c.fh hs), rfl, ?_, ?_⟩
  · rw [List.all_eq_true]
    intro w hw
    obtain ⟨i, _, rfl⟩ := List.mem_map.mp hw
    rfl
  · show Q (.bl (inV (.int x) (y.map V.int))) H
    rw [inV_ints]
    exact q _ _ _ c (Same.refl _) rfl
theorem rj_notIn : RJ2 K d F0 H0 S (rIn K true) (fun (x : Int) (xs : List Int) => some (!inL xs x)) := by
  intro Z s σ F H c v u x y z r1 r2 e Q q
  cases r1
  cases e
  obtain ⟨a, vs, rfl, hs, p1⟩ := r2
  have e := paired_ints p1
  subst e
  refine ⟨a, _, rfl, .inl (Same.seq c.fh hs), rfl, ?_, ?_⟩
  · rw [List.all_eq_true]
    intro w hw
    obtain ⟨i, _, rfl⟩ := List.mem_map.mp hw
    rfl
  · show Q (.bl (!inV (.int x) (y.map V.int))) H
    rw [inV_ints]
    exact q _ _ _ c (Same.refl _) rfl
/-- .. of a variable's own list -/
theorem j_inO {neg : Bool} {k : Nat} (p : Pos S (Own (List Int)) k) {t : TE} {m : M S Int} (h : JE K d F0 H0 S t m) : JE K d F0 H0 S (tOp (rIn K neg) t (tVar k)) (bnd m fun x => op1 (fun xs : List Int => some (if neg then !inL xs x else inL xs x)) (rdo p)) := by
  intro Z s σ F H c x s' e Q q
  obtain ⟨y1, s1, e1, e⟩ := bnd_some e
  obtain ⟨y2, s2, e2, e⟩ := bnd_some e
  obtain ⟨e3, rfl⟩ := lft_some e
  cases e3
  obtain ⟨e2, rfl⟩ := rdo_some e2
  refine r_op (h _ _ _ _ _ c _ _ e1 _ fun v F' H' c' sf r => ?_)
  cases r
  obtain ⟨a, vs, h1, ha, r⟩ := c'.peek p e2
  have e := paired_ints r
  subst e
  refine ⟨.ref a, h1, a, _, rfl, .inl (sqe ha), rfl, ?_, ?_⟩
  · rw [List.all_eq_true]
    intro w hw
    obtain ⟨i, _, rfl⟩ := List.mem_map.mp hw
    rfl
  · rw [inV_ints]
    exact q _ _ _ c' sf rfl
/-! ### changes of a variable's own list -/
def appM {S α ρ : Type} [Slots S] [Slot (Own (List α))] {k : Nat} (p : Pos S (Own (List α)) k) (m : M S α) : MS S ρ := bindS (rdo p) fun _ => bindS m fun y => bindS (rdo p) fun xs s => if xs.length < 100000 then some (.nx (p.put s (.mine (xs ++ [y])))) else none
variable {ρ : Type} {RT : S → Hp → VK → ρ → Prop} [RTm RT]
theorem js_app {α : Type} [Enc α] {k : Nat} (p : Pos S (Own (List α)) k) {t : TE} {m : M S α} (h : JE K d F0 H0 S t m) : JS K d F0 H0 S RT (tDrop (tBM K "list" rAppend (tVar k) (tCons t tNil))) (appM p m) := by
  intro s σ F H c f e D q
  obtain ⟨x0, s0, ea, eb⟩ := bindS_some e
  obtain ⟨e0, es⟩ := rdo_some ea
  rw [es] at eb
  obtain ⟨y, s1, e1, ec⟩ := bindS_some eb
  obtain ⟨xs, s2, ed, ef⟩ := bindS_some ec
  obtain ⟨e2, es2⟩ := rdo_some ed
  rw [es2] at ef
  obtain ⟨hl, rfl⟩ := ite_some ef
  obtain ⟨a, vs, h1, ha, _⟩ := c.peek p e0
  refine r_drop (r_bm ⟨.ref a, h1, .inl ⟨rfl, _, sqe ha⟩, r_cons (h _ _ _ _ _ c _ _ e1 _ fun v F' H' c' sf r => r_nil ?_)⟩)
  obtain ⟨a', o, h1', ha', ⟨vs', rfl, pr⟩, _, k⟩ := c'.mut p e2
  rw [h1] at h1'
  cases h1'
  exact r_app ha' (by rw [Paired.length pr]; exact hl) (q _ _ _ (k _ (xs ++ [y]) ⟨_, rfl, Paired.append pr (.cons r .nil)⟩) sf)
def setM {S α ρ : Type} [Slots S] [Slot (Own (List α))] {k : Nat} (p : Pos S (Own (List α)) k) (mv : M S α) (mi : M S Int) : MS S ρ := bindS mv fun y => bindS (rdo p) fun _ => bindS mi fun i => bindS (rdo p) fun xs s => (ixN xs.length i).map fun j => .nx (p.put s (.mine (xs.set j y)))
theorem js_setO {α : Type} [Enc α] {k : Nat} (p : Pos S (Own (List α)) k) {t ti : TE} {mv : M S α} {mi : M S Int} (h : JE K d F0 H0 S t mv) (hi : JE K d F0 H0 S ti mi) : JS K d F0 H0 S RT (tAsg t (gSub (tVar k) ti rSetL)) (setM p mv mi) := by
  intro s σ F H c f e D q
  obtain ⟨y, s1, e1, ea⟩ := bindS_some e
  obtain ⟨x0, s0, eb, ec⟩ := bindS_some ea
  obtain ⟨e0, es⟩ := rdo_some eb
  rw [es] at ec
  obtain ⟨i, s2, e2, ed⟩ := bindS_some ec
  obtain ⟨xs, s3, ef, eg⟩ := bindS_some ed
  obtain ⟨e3, es3⟩ := rdo_some ef
  rw [es3] at eg
  cases e4 : ixN xs.length i with
  | none => rw [e4] at eg; cases eg
  | some j =>
    rw [e4] at eg
    cases eg
    refine r_asg (h _ _ _ _ _ c _ _ e1 _ fun v F' H' c' sf r => ?_)
    obtain ⟨a, vs, h1, ha, _⟩ := c'.peek p e0
    refine r_sub ⟨.ref a, h1, hi _ _ _ _ _ c' _ _ e2 _ fun w F2 H2 c2 sf2 r2 => ?_⟩
    cases r2
    obtain ⟨a', o, h1', ha', ⟨vs', rfl, pr⟩, _, k⟩ := c2.mut p e3
    rw [h1] at h1'
    cases h1'
    exact r_setL ha' (by rw [Paired.length pr]; exact e4) (q _ _ _ (k _ (xs.set j y) ⟨_, rfl, Paired.set (Enc.mono sf2 r) j pr⟩) (sf.trans sf2))
/-- a new list as the result: a variable's own -/
theorem js_retO {ρ : Type} [Enc ρ] {k : Nat} (p : Pos S (Own (List ρ)) k) : JS K d F0 H0 S (RTn K d F0 H0 S) (tRet (tVar k)) (retM (giv p)) := js_ret (j_giv p)
end
end Rm
namespace Rg
open PySem PySem.Spec PyProof.Rows L2
/-! ### min of a list of tuples of ints -/
section
variable {pr : Program} {wo : World} {Ar : Around} {Rs : Result → Shared → Prop} {Ia : Addr} {fq wq : List Addr} {nn : Nat} {Pv : Nat → Value → Prop} {Sv : Nat → Heap → Prop}
/-- a comparison that holds while the heap is as Od says -/
def CmpH (pr : Program) (wo : World) (Ar : Around) (Od : Heap → Prop) (Pv : Nat → Value → Prop) (lt : Nat → Nat → Bool) : Prop :=
  ∀ i j vi vj (sh : Shared) (Qv : Value → Shared → Prop) (Ev : Value → Shared → Prop), Od sh.heap → Pv i vi → Pv j vj → Qv (.bool (lt i j)) sh → wpAny (model pr wo) Ar (richCompare .Lt vi vj) Qv Ev sh
theorem minH_loop (Wk : Walks pr wo Ar.in1 Ia fq wq nn Pv Sv) (lt : Nat → Nat → Bool) {Od : Heap → Prop} (cmp : CmpH pr wo Ar.in1 Od Pv lt) (Sa : Addr) (nf : Sa ∉ fq)
    (old : ∀ h h' : Heap, Od h → (∀ b o, b ∉ wq → b ≠ Sa → h.get? b = some o → h'.get? b = some o) → Od h') :
    ∀ (r j : Nat) (sh : Shared) (vb : Value) (ca : Nat), nn - (j + 1) = r → j + 1 ≤ nn → Sv (j + 1) sh.heap → Od sh.heap → Pv (argBest lt j) vb →
    sh.heap.get? Sa = some { cls := .type "list", dict := none, data := .seq #[vb, vb] ca, slots := #[] } →
    (∀ v h' tk, Pv (argBest lt (nn - 1)) v → (∀ b o, b ∉ wq → b ≠ Sa → sh.heap.get? b = some o → h'.get? b = some o) → Rs (.ok (.ret v)) { sh with heap := h', toks := tk }) →
    codeAny (model pr wo) Ar (.builtin "min.loop" ⟨[.ref Ia, .none, .ref Sa], []⟩) Rs sh := by
  have nw : Sa ∉ wq := fun z => nf (Wk.sub _ z)
  have nm : (toString "min" ++ toString ".loop" : String) = "min.loop" := by decide
  intro r
  induction r with
  | zero =>
    intro j sh vb ca hr hj st od pb gS fin
    have en : j + 1 = nn := by omega
    refine codeAny_builtin PySem.F.entry_min_loop ?_; rw [Around.under_plainId PySem.F.plain_min_loop _]
    show wpAny _ Ar.in1 (seqItems? (.ref Sa) >>= _) _ _ sh
    refine wpAny_bind (wpAny_seqItems gS rfl ?_); show wpAny _ Ar.in1 (tryCatch (pyNext (.ref Ia)) _ >>= _) _ _ sh
    refine wpAny_bind (wpAny_tryCatch (Wk.done sh _ _ (en ▸ st) fun h' tk kp => ?_))
    have gS' := kp Sa _ nw gS
    show wpAny _ Ar.in1 (updateSeq Sa (fun _ => #[]) >>= _) _ _ _; refine wpAny_bind ?_
    refine wpAny_updateSeq gS' rfl (wpAny_bind (wpAny_letGo (wpAny_pure (fin vb _ tk (by rw [← en]; exact pb) fun b o nb ne e => ?_))))
    exact (Heap.get?_update_other _ _ (Ne.symm ne)).trans (kp b o nb e)
  | succ r ih =>
    intro j sh vb ca hr hj st od pb gS fin
    have lj : j + 1 < nn := by omega
    refine codeAny_builtin PySem.F.entry_min_loop ?_; rw [Around.under_plainId PySem.F.plain_min_loop _]
    show wpAny _ Ar.in1 (seqItems? (.ref Sa) >>= _) _ _ sh
    refine wpAny_bind (wpAny_seqItems gS rfl ?_); show wpAny _ Ar.in1 (tryCatch (pyNext (.ref Ia)) _ >>= _) _ _ sh
    refine wpAny_bind (wpAny_tryCatch (Wk.item (j + 1) sh _ _ lj st fun v h' tk pv st' kp => ?_))
    have gS' := kp Sa _ nw gS
    have od' : Od h' := old _ _ od fun b o nb _ e => kp b o nb e
    show wpAny _ Ar.in1 (tryCatch (holding [v, v] (richCompare .Lt v vb >>= _)) _ >>= _) _ _ _
    refine wpAny_bind (wpAny_tryCatch (wpAny_holding (wpAny_bind (cmp (j + 1) (argBest lt j) v vb _ _ _ od' pv pb ?_)))); refine wpAny_bind (wpAny_holding (wpAny_truthy_bool ?_))
    refine wpAny_bind (wpAny_letGo (wpAny_pure ?_)); cases hb : lt (j + 1) (argBest lt j) with
    | true =>
      simp only [if_true]; refine wpAny_bind ?_
      refine wpAny_updateSeq gS' rfl (wpAny_bind (wpAny_letGo ?_)); rw [nm]
      have cut : ∀ b o, b ≠ Sa → h'.get? b = some o → (h'.update Sa (Obj.mapSeq fun _ => #[v, v])).get? b = some o := fun b o nb e => (Heap.get?_update_other _ _ (Ne.symm nb)).trans e
      refine wpAny_pure ⟨plainId_quiet PySem.F.plain_min_loop _, ih (j + 1) _ v _ (by omega) lj (Wk.frame _ _ _ st' fun b hf o e => cut b o (fun z => nf (z ▸ hf)) e) (old _ _ od' fun b o _ ne e => cut b o ne e) (by simp only [argBest, hb, if_true]; exact pv)
        (Heap.get?_update_self _ gS' rfl) fun v2 h2 tk2 p2 k2 => fin v2 h2 tk2 p2 fun b o nb ne e => k2 b o nb ne (cut b o ne (kp b o nb e))⟩
    | false =>
      simp only [Bool.false_eq_true, if_false]; refine wpAny_bind (wpAny_letGo ?_)
      rw [nm]; refine wpAny_pure ⟨plainId_quiet PySem.F.plain_min_loop _, ih (j + 1) _ vb ca (by omega) lj st' od' (by simp only [argBest, hb, Bool.false_eq_true, if_false]; exact pb) gS' fun v2 h2 tk2 p2 k2 => ?_⟩
      exact fin v2 h2 tk2 p2 fun b o nb ne e => k2 b o nb ne (kp b o nb e)
theorem minH_first (Wk : Walks pr wo Ar.in1 Ia fq wq nn Pv Sv) (lt : Nat → Nat → Bool) {Od : Heap → Prop} (cmp : CmpH pr wo Ar.in1 Od Pv lt) (Sa : Addr) (nf : Sa ∉ fq) (old : ∀ h h' : Heap, Od h → (∀ b o, b ∉ wq → b ≠ Sa → h.get? b = some o → h'.get? b = some o) → Od h')
    (h0 : 0 < nn) {sh : Shared} {ca : Nat} (st : Sv 0 sh.heap) (od : Od sh.heap) (gS : sh.heap.get? Sa = some { cls := .type "list", dict := none, data := .seq #[] ca, slots := #[] })
    (fin : ∀ v h' tk, Pv (argBest lt (nn - 1)) v → (∀ b o, b ∉ wq → b ≠ Sa → sh.heap.get? b = some o → h'.get? b = some o) → Rs (.ok (.ret v)) { sh with heap := h', toks := tk }) :
    codeAny (model pr wo) Ar (.builtin "min.loop" ⟨[.ref Ia, .none, .ref Sa], []⟩) Rs sh := by
  have nw : Sa ∉ wq := fun z => nf (Wk.sub _ z)
  have nm : (toString "min" ++ toString ".loop" : String) = "min.loop" := by decide
  refine codeAny_builtin PySem.F.entry_min_loop ?_; rw [Around.under_plainId PySem.F.plain_min_loop _]
  show wpAny _ Ar.in1 (seqItems? (.ref Sa) >>= _) _ _ sh
  refine wpAny_bind (wpAny_seqItems gS rfl ?_); show wpAny _ Ar.in1 (tryCatch (pyNext (.ref Ia)) _ >>= _) _ _ sh
  refine wpAny_bind (wpAny_tryCatch (Wk.item 0 sh _ _ h0 st fun v h' tk pv st' kp => ?_))
  have gS' := kp Sa _ nw gS
  have od' : Od h' := old _ _ od fun b o nb _ e => kp b o nb e
  have cut : ∀ b o, b ≠ Sa → h'.get? b = some o → (h'.update Sa (Obj.mapSeq fun _ => #[v, v])).get? b = some o := fun b o nb e => (Heap.get?_update_other _ _ (Ne.symm nb)).trans e
  show wpAny _ Ar.in1 (updateSeq Sa (fun _ => #[v, v]) >>= _) _ _ _; refine wpAny_bind ?_
  refine wpAny_updateSeq gS' rfl ?_; rw [nm]
  exact wpAny_pure ⟨plainId_quiet PySem.F.plain_min_loop _, minH_loop Wk lt cmp Sa nf old _ 0 _ v _ rfl h0 (Wk.frame _ _ _ st' fun b hf o e => cut b o (fun z => nf (z ▸ hf)) e) (old _ _ od' fun b o _ ne e => cut b o ne e) pv (Heap.get?_update_self _ gS' rfl) fun v2 h2 tk2 p2 k2 => fin v2 h2 tk2 p2 fun b o nb ne e => k2 b o nb ne (cut b o ne (kp b o nb e))⟩
theorem minH_walk {Ev : Value → Shared → Prop} {sh : Shared} {x : Value} {Qv : Value → Shared → Prop}
    (h : wpAny (model pr wo) Ar.in1 (pyIter x) (fun it s2 => ∃ Ia fq wq nn Pv Sv lt Od, it = .ref Ia ∧ Walks pr wo Ar.in1 Ia fq wq nn Pv Sv ∧ Sv 0 s2.heap ∧ (∀ b ∈ fq, b < s2.heap.objs.size) ∧ 0 < nn ∧ CmpH pr wo Ar.in1 Od Pv lt ∧ Od s2.heap ∧
      (∀ h h' : Heap, Od h → (∀ b o, b ∉ wq → b < s2.heap.objs.size → h.get? b = some o → h'.get? b = some o) → Od h') ∧
      ∀ v h' tk, Pv (argBest lt (nn - 1)) v → (∀ b o, b ∉ wq → s2.heap.get? b = some o → h'.get? b = some o) → Qv v { s2 with heap := h', toks := tk }) Ev sh) : wpAny (model pr wo) Ar (call (.builtin "min") [x]) Qv Ev sh := by
  have nm : (toString "min" ++ toString ".loop" : String) = "min.loop" := by decide
  refine call_function_tree PySem.F.kind_min PySem.F.plain_min PySem.F.entry_min (PySem.F.args_min1 _) ?_
  show wpAny _ Ar.in1 (Builtin.Builtins.bindParams "min" ["key", "default"] 0 ⟨[], []⟩ >>= _) _ _ sh
  refine wpAny_bind (wpAny_of_eq (show Builtin.Builtins.bindParams "min" ["key", "default"] 0 ⟨[], []⟩ = pure [none, none] from rfl) ?_); refine wpAny_bind (wpAny_pure ?_)
  refine wpAny_bind (wpAny_mono h (fun it s2 h2 => ?_) fun _ _ e => e)
  obtain ⟨Ia, fq, wq, nn, Pv, Sv, lt, Od, rfl, Wk, st, hf, h0, cmp, od, old, fin⟩ := h2
  refine wpAny_bind (wpAny_newObj_type ?_)
  have nf : s2.heap.objs.size ∉ fq := fun m => Nat.lt_irrefl _ (hf _ m)
  rw [nm]
  refine wpAny_pure ⟨plainId_quiet PySem.F.plain_min_loop _, minH_first Wk lt cmp s2.heap.objs.size nf (fun h h' o k => old h h' o fun b u nb lb e => k b u nb (Nat.ne_of_lt lb) e) h0 (Wk.frame _ _ _ st fun b _ o e => Heap.get?_push_of_some _ e) (old _ _ od fun b o _ _ e => Heap.get?_push_of_some _ e) (Heap.get?_push_size _ rfl) fun v h' tk hp hk => ?_⟩
  exact fin v h' tk hp fun b o nb e => hk b o nb (Nat.ne_of_lt (Heap.lt_size e)) (Heap.get?_push_of_some _ e)
end
section
variable {X : Cx}
/-- min(xs) of a list of tuples of ints: the first of the least -/
def rMinTu (K : PySem.W.Frag) : List V → Hp → VK → Prop := fun vs H Q => ∃ (a : Addr) (xs : List V) (nss : List (List Int)), vs = [V.ref a] ∧ SqL K H a xs ∧ Paired (fun v ns => ∃ t, v = V.ref t ∧ SqT K H t (ns.map V.int)) xs nss ∧ 0 < xs.length ∧
  ∀ v, xs[argBest (fun i j => HT.lexLt (nss.getD i []) (nss.getD j [])) (xs.length - 1)]? = some v → Q v H
theorem cr_minTu (hc : X.calm = true) (hu : X.A.units + 64 < cLine) : CallR X (.builtin "min") (rMinTu X.K) := by
  intro pins s σ H vs us Q I r h
  obtain ⟨a, xs, nss, rfl, hs, pt, h0, q⟩ := h
  obtain ⟨its, rv, pl, hz⟩ := I.list hs
  rw [Vals.ref1 r]
  have hl : s.heap.IsList a its.toArray := pl.isList
  have hlt : a < s.heap.objs.size := by obtain ⟨_, e, _⟩ := hl; exact Heap.lt_size e
  have lv := rv.length
  let Od : Heap → Prop := fun h => ∀ i v, its[i]? = some v → ∃ t its2, v = .ref t ∧ t < s.heap.objs.size ∧ IsTup h t its2 ∧ IntsAre its2.toList (nss.getD i [])
  have od0 : Od s.heap := by
    intro i v e
    have li : i < xs.length := by rw [lv]; exact (List.getElem?_eq_some_iff.mp e).1
    have ex : xs[i]? = some xs[i] := List.getElem?_eq_getElem li
    have key : ∀ {l1 : List V} {l2 : List (List Int)} {i : Nat} {x : V}, Paired (fun v ns => ∃ t, v = V.ref t ∧ SqT X.K H t (ns.map V.int)) l1 l2 → l1[i]? = some x → ∃ t, x = V.ref t ∧ SqT X.K H t ((l2.getD i []).map V.int) := by
      intro l1 l2 i x p
      induction p generalizing i with
      | nil => intro z; simp at z
      | cons a t ih =>
        intro z
        cases i with
        | zero => simp at z; subst z; simpa using a
        | succ i => simpa using ih (by simpa using z)
    obtain ⟨t, et, ht⟩ := key pt ex
    obtain ⟨u, hu1, hr⟩ := Vals.get rv ex
    rw [e] at hu1
    cases hu1
    rw [et] at hr
    have hr : v = Value.ref t := hr
    obtain ⟨its2, r2, p2, _⟩ := I.tuple ht
    refine ⟨t, its2.toArray, hr, ?_, p2, intsAre_of r2⟩
    obtain ⟨o, eo, _⟩ := p2
    exact Heap.lt_size eo
  obtain ⟨ol, eol, _⟩ := id hl
  refine minH_walk (wpAny_pyIter_list hl ?_)
  let s2 : Shared := { s with heap := s.heap.push { cls := .type "list_iterator", data := .fields #[.ref a, .int 0 0] } }
  have keep2 : ∀ b o, s.heap.get? b = some o → s2.heap.get? b = some o := fun b o e => Heap.get?_push_of_some _ e
  refine ⟨s.heap.objs.size, _, _, _, _, _, (fun i j => HT.lexLt (nss.getD i []) (nss.getD j [])), Od, rfl, Walks.list (A := X.A.in1) (I.ok.hd hc) _ a (Nat.ne_of_lt hlt) its.toArray, ⟨⟨_, Heap.get?_push_size _ rfl, rfl, rfl⟩, hl.push _⟩, fun b hb => ?_, by simp; omega, fun i j vi vj sh Qv Ev od pi pj hq => ?_, ?_, fun h h' od kp => ?_, fun v h' tk hp hk => ?_⟩
  · show b < (s.heap.push _).objs.size
    rw [Heap.size_push]
    simp at hb
    rcases hb with rfl | rfl
    · exact Nat.lt_succ_self _
    · exact Nat.lt_succ_of_lt hlt
  · obtain ⟨t1, i1, rfl, _, p1, q1⟩ := od i vi (by simpa using pi)
    obtain ⟨t2, i2, rfl, _, p2, q2⟩ := od j vj (by simpa using pj)
    exact HT.lt_tupInts p1 p2 q1 q2 (by show X.A.units + 1 < cLine; omega) hq
  · intro i v e
    obtain ⟨t, i2, rfl, lt, p, q⟩ := od0 i v e
    obtain ⟨o, eo, r⟩ := p
    exact ⟨t, i2, rfl, lt, ⟨o, keep2 _ _ eo, r⟩, q⟩
  · intro i v e
    obtain ⟨t, i2, rfl, lt, p, q⟩ := od i v e
    obtain ⟨o, eo, r⟩ := p
    refine ⟨t, i2, rfl, lt, ⟨o, kp t o (by simp; exact Nat.ne_of_lt lt) ?_ eo, r⟩, q⟩
    show t < (s.heap.push _).objs.size
    rw [Heap.size_push]
    exact Nat.lt_succ_of_lt lt
  · have hk2 : ∀ b o, s.heap.get? b = some o → h'.get? b = some o := fun b o e => hk b o (by have := Heap.lt_size e; simp; exact Nat.ne_of_lt this) (keep2 b o e)
    have hp : its[argBest (fun i j => HT.lexLt (nss.getD i []) (nss.getD j [])) (its.length - 1)]? = some v := by simpa using hp
    have lx : argBest (fun i j => HT.lexLt (nss.getD i []) (nss.getD j [])) (its.length - 1) < xs.length := by rw [lv]; exact (List.getElem?_eq_some_iff.mp hp).1
    obtain ⟨u, hu1, hr⟩ := Vals.get rv (List.getElem?_eq_getElem lx)
    rw [hp] at hu1
    cases hu1
    refine ⟨_, H, I.kept hk2, hr, q _ ?_⟩
    rw [lv]
    exact List.getElem?_eq_getElem lx
end
end Rg
namespace Rm
open PySem PySem.Spec PyProof.Rows L2 Rg
open Enc (rel)
open Cell (cel)
open Slot (srel)
open Slots (srels)
section
variable {K : PySem.W.Frag} {d : Addr → Prop} {F0 H0 : Hp} {S : Type} [Slots S]
/-! ### built-ins -/
theorem rb_len {α : Type} [Enc α] : RB K d F0 H0 S (rLen2 K) (fun x : List α × Unit => some (x.1.length : Int)) := by
  intro Z s σ F H c vs x z r e Q q
  cases e
  obtain ⟨v, ws, rfl, ⟨a, us, rfl, hs, p⟩, rfl⟩ := r
  refine ⟨a, us, rfl, .inl (Same.seq c.fh hs), ?_⟩
  rw [Paired.length p]
  exact q _ _ _ c (Same.refl _) rfl
theorem rb_int : RB K d F0 H0 S rIntI (fun x : Int × Unit => some x.1) := by
  intro Z s σ F H c vs x z r e Q q
  cases e
  obtain ⟨v, ws, rfl, r, rfl⟩ := r
  cases r
  exact ⟨_, rfl, q _ _ _ c (Same.refl _) rfl⟩
theorem rb_intB : RB K d F0 H0 S rIntB (fun x : Bool × Unit => some (if x.1 then (1 : Int) else 0)) := by
  intro Z s σ F H c vs x z r e Q q
  cases e
  obtain ⟨v, ws, rfl, r, rfl⟩ := r
  cases r
  exact ⟨_, rfl, q _ _ _ c (Same.refl _) rfl⟩
theorem rb_abs : RB K d F0 H0 S rAbs2 (fun x : Int × Unit => some (if x.1 < 0 then -x.1 else x.1)) := by
  intro Z s σ F H c vs x z r e Q q
  cases e
  obtain ⟨v, ws, rfl, r, rfl⟩ := r
  cases r
  exact ⟨_, rfl, q _ _ _ c (Same.refl _) rfl⟩
theorem rb_max2 : RB K d F0 H0 S rMx2 (fun x : Int × Int × Unit => some (if x.2.1 > x.1 then x.2.1 else x.1)) := by
  intro Z s σ F H c vs x z r e Q q
  cases e
  obtain ⟨v, ws, rfl, r, w, us, rfl, r2, rfl⟩ := r
  cases r
  cases r2
  exact ⟨_, _, rfl, q _ _ _ c (Same.refl _) rfl⟩
theorem rb_min2 : RB K d F0 H0 S rMn2 (fun x : Int × Int × Unit => some (if x.2.1 < x.1 then x.2.1 else x.1)) := by
  intro Z s σ F H c vs x z r e Q q
  cases e
  obtain ⟨v, ws, rfl, r, w, us, rfl, r2, rfl⟩ := r
  cases r
  cases r2
  exact ⟨_, _, rfl, q _ _ _ c (Same.refl _) rfl⟩
theorem rb_sum : RB K d F0 H0 S (rSum K) (fun x : List Int × Unit => some x.1.sum) := by
  intro Z s σ F H c vs x z r e Q q
  cases e
  obtain ⟨v, ws, rfl, ⟨a, us, rfl, hs, p⟩, rfl⟩ := r
  have e := paired_ints p
  subst e
  exact ⟨a, _, rfl, Same.seq c.fh hs, q _ _ _ c (Same.refl _) rfl⟩
theorem rb_sumT : RB K d F0 H0 S (rSumT K) (fun x : (Int × Int) × Unit => some (x.1.1 + x.1.2)) := by
  intro Z s σ F H c vs x z r e Q q
  cases e
  obtain ⟨v, ws, rfl, ⟨a, x1, y1, rfl, hs, p1, p2⟩, rfl⟩ := r
  cases p1
  cases p2
  refine ⟨a, [_, _], rfl, SqT.same hs c.fh, ?_⟩
  have e : ([x.1.1, x.1.2] : List Int).sum = x.1.1 + x.1.2 := by simp
  rw [e]
  exact q _ _ _ c (Same.refl _) rfl
theorem max?_of {ns : List Int} {m : Int} (h1 : m ∈ ns) (h2 : ∀ y ∈ ns, y ≤ m) : ns.max? = some m := List.max?_eq_some_iff.mpr ⟨h1, h2⟩
theorem min?_of {ns : List Int} {m : Int} (h1 : m ∈ ns) (h2 : ∀ y ∈ ns, m ≤ y) : ns.min? = some m := List.min?_eq_some_iff.mpr ⟨h1, h2⟩
theorem rb_max : RB K d F0 H0 S (rMax K) (fun x : List Int × Unit => x.1.max?) := by
  intro Z s σ F H c vs x z r e Q q
  have e : x.1.max? = some z := e
  obtain ⟨v, ws, rfl, ⟨a, us, rfl, hs, p⟩, rfl⟩ := r
  have e' := paired_ints p
  subst e'
  refine ⟨a, _, rfl, Same.seq c.fh hs, ?_, fun m h1 h2 => ?_⟩
  · cases h : x.1 with
    | nil => rw [h] at e; cases e
    | cons => simp
  · have := max?_of h1 h2
    rw [e] at this
    cases this
    exact q _ _ _ c (Same.refl _) rfl
theorem rb_min : RB K d F0 H0 S (rMin K) (fun x : List Int × Unit => x.1.min?) := by
  intro Z s σ F H c vs x z r e Q q
  have e : x.1.min? = some z := e
  obtain ⟨v, ws, rfl, ⟨a, us, rfl, hs, p⟩, rfl⟩ := r
  have e' := paired_ints p
  subst e'
  refine ⟨a, _, rfl, Same.seq c.fh hs, ?_, fun m h1 h2 => ?_⟩
  · cases h : x.1 with
    | nil => rw [h] at e; cases e
    | cons => simp
  · have := min?_of h1 h2
    rw [e] at this
    cases this
    exact q _ _ _ c (Same.refl _) rfl
theorem rb_all : RB K d F0 H0 S (rAll K) (fun x : List Bool × Unit => some (x.1.all id)) := by
  intro Z s σ F H c vs x z r e Q q
  cases e
  obtain ⟨v, ws, rfl, ⟨a, us, rfl, hs, p⟩, rfl⟩ := r
  have e := paired_bls p
  subst e
  exact ⟨a, _, rfl, Same.seq c.fh hs, q _ _ _ c (Same.refl _) rfl⟩
theorem rb_any : RB K d F0 H0 S (rAny K) (fun x : List Bool × Unit => some (x.1.any id)) := by
  intro Z s σ F H c vs x z r e Q q
  cases e
  obtain ⟨v, ws, rfl, ⟨a, us, rfl, hs, p⟩, rfl⟩ := r
  have e := paired_bls p
  subst e
  exact ⟨a, _, rfl, Same.seq c.fh hs, q _ _ _ c (Same.refl _) rfl⟩
theorem rbf_list {α : Type} [Enc α] : RBF K d F0 H0 S (rLst2 K) (fun x : List α × Unit => some x.1) := by
  intro Z s σ F H c vs x z r e Q q
  cases e
  obtain ⟨v, ws, rfl, ⟨a, us, rfl, hs, p⟩, rfl⟩ := r
  exact ⟨a, us, rfl, .inl (Same.seq c.fh hs), fun l hl => q _ _ _ _ c (Same.refl _) hl p⟩
/-- ascending -/
def sortI (xs : List Int) : List Int := xs.mergeSort (fun a b => decide (a ≤ b))
theorem sortI_perm (xs : List Int) : (sortI xs).Perm xs := List.mergeSort_perm _ _
theorem sortI_sorted (xs : List Int) : (sortI xs).Pairwise (· ≤ ·) := by
  have h := List.pairwise_mergeSort (le := fun a b : Int => decide (a ≤ b)) (fun a b c => by simp; omega) (fun a b => by simp; omega) xs
  exact h.imp fun z => by simpa using z
theorem sorted_unique : ∀ {xs ys : List Int}, xs.Perm ys → xs.Pairwise (· ≤ ·) → ys.Pairwise (· ≤ ·) → xs = ys
  | [], ys, p, _, _ => by simpa using p.symm.eq_nil.symm
  | x :: xs, [], p, _, _ => by simpa using p.eq_nil
  | x :: xs, y :: ys, p, hx, hy => by
    rw [List.pairwise_cons] at hx hy
    have e : x = y := by
      have h1 : x ∈ y :: ys := p.subset (List.mem_cons_self ..)
      have h2 : y ∈ x :: xs := p.symm.subset (List.mem_cons_self ..)
      rcases List.mem_cons.mp h1 with rfl | h1
      · rfl
      · rcases List.mem_cons.mp h2 with h2 | h2
        · exact h2.symm
        · have a := hx.1 _ h2
          have b := hy.1 _ h1
          omega
    subst e
    rw [sorted_unique (List.Perm.cons_inv p) hx.2 hy.2]
theorem rbf_sorted : RBF K d F0 H0 S (rSortedI K) (fun x : List Int × Unit => some (sortI x.1)) := by
  intro Z s σ F H c vs x z r e Q q
  cases e
  obtain ⟨v, ws, rfl, ⟨a, us, rfl, hs, p⟩, rfl⟩ := r
  have e := paired_ints p
  subst e
  refine ⟨a, _, rfl, Same.seq c.fh hs, fun ns' l p1 p2 hl => ?_⟩
  have e := sorted_unique (p1.trans (sortI_perm x.1).symm) p2 (sortI_sorted _)
  subst e
  exact q _ _ _ _ c (Same.refl _) hl (Paired.ofmap (R := rel K F) (f := V.int) (fun _ => rfl) _)
/-- list(range(..)) -/
@[irreducible] def gLR (a b : Int) : Option (List Int) := if -(2 ^ 62) ≤ a ∧ a < 2 ^ 62 ∧ -(2 ^ 62) ≤ b ∧ b < 2 ^ 62 ∧ (b - a).toNat ≤ 2 ^ 24 then some (rgL a (b - a).toNat) else none
theorem rgV_rgL {F : Hp} (a b : Int) : Paired (rel K F) (rgV a b) (rgL a (b - a).toNat) := by
  unfold rgV rgL
  exact Paired.map (Paired.ofmap (R := fun v (i : Nat) => rel K F v (a + (i : Int))) (f := fun i : Nat => V.int (a + (i : Nat))) (fun _ => rfl) _)
theorem jf_lr1 {t : TE} {m : M S Int} (h : JE K d F0 H0 S t m) : JF K d F0 H0 S (tLstRg (tRg1 t)) (op1 (gLR 0) m) := by
  intro Z s σ F H c x s' e Q q
  obtain ⟨y1, s1, e1, e⟩ := bnd_some e
  obtain ⟨e3, rfl⟩ := lft_some e
  unfold gLR at e3
  obtain ⟨k, rfl⟩ := ite_some e3
  refine h _ _ _ _ _ c _ _ e1 _ fun v F1 H1 c1 q1 r1 => ?_
  cases r1
  exact ⟨_, rfl, k, fun p hp => q _ _ _ _ c1 q1 hp (rgV_rgL _ _)⟩
theorem jf_lr2 {t u : TE} {m n : M S Int} (h : JE K d F0 H0 S t m) (h' : JE K d F0 H0 S u n) : JF K d F0 H0 S (tLstRg (tRg2 t u)) (op2 gLR m n) := by
  intro Z s σ F H c x s' e Q q
  obtain ⟨y1, s1, e1, e⟩ := bnd_some e
  obtain ⟨y2, s2, e2, e⟩ := bnd_some e
  obtain ⟨e3, rfl⟩ := lft_some e
  unfold gLR at e3
  obtain ⟨k, rfl⟩ := ite_some e3
  refine h _ _ _ _ _ c _ _ e1 _ fun v F1 H1 c1 q1 r1 => h' _ _ _ _ _ c1 _ _ e2 _ fun w F2 H2 c2 q2 r2 => ?_
  cases r1
  cases r2
  exact ⟨_, _, rfl, rfl, k, fun p hp => q _ _ _ _ c2 (q1.trans q2) hp (rgV_rgL _ _)⟩
/-- repr of data -/
@[irreducible] def gRepr {α : Type} [Enc α] [EncD α] (x : α) : Option Str := if (EncD.d x).showable = true ∧ (EncD.d x).hasDict = false ∧ (EncD.d x).leavesShort 150 = true ∧ (EncD.d x).depth ≤ 20 ∧ (EncD.d x).weight ≤ 100000 then some (EncD.d x).shown else none
theorem gRepr_some {α : Type} [Enc α] [EncD α] {x : α} {z : Str} (h : gRepr x = some z) : ((EncD.d x).showable = true ∧ (EncD.d x).hasDict = false ∧ (EncD.d x).leavesShort 150 = true ∧ (EncD.d x).depth ≤ 20 ∧ (EncD.d x).weight ≤ 100000) ∧ (EncD.d x).shown = z := by
  unfold gRepr at h
  exact ite_some h
theorem rb_repr {α : Type} [Enc α] [EncD α] : RB K d F0 H0 S (rRepr K) (fun x : List α × Unit => gRepr x.1) := by
  intro Z s σ F H c vs x z r e Q q
  obtain ⟨k, rfl⟩ := gRepr_some e
  obtain ⟨v, ws, rfl, r, rfl⟩ := r
  have dp := Dp.same c.fh (EncD.dp r)
  obtain ⟨a, us, rfl, hs, p⟩ := r
  exact ⟨a, _, rfl, dp, k, q _ _ _ c (Same.refl _) rfl⟩
theorem rb_reprT {α β : Type} [Enc α] [Enc β] [EncD α] [EncD β] : RB K d F0 H0 S (rRepr K) (fun x : (α × β) × Unit => gRepr x.1) := by
  intro Z s σ F H c vs x z r e Q q
  obtain ⟨k, rfl⟩ := gRepr_some e
  obtain ⟨v, ws, rfl, r, rfl⟩ := r
  have dp := Dp.same c.fh (EncD.dp r)
  obtain ⟨a, x1, y1, rfl, hs, p⟩ := r
  exact ⟨a, _, rfl, dp, k, q _ _ _ c (Same.refl _) rfl⟩
/-! ### the least of tuples of ints -/
class TupI (α : Type) [Enc α] where
  nums : α → List Int
  tp : ∀ {K : PySem.W.Frag} {F : Hp} {v : V} {x : α}, rel K F v x → ∃ t, v = .ref t ∧ SqT K F t ((nums x).map V.int)
instance : TupI (Int × Int) := ⟨fun p => [p.1, p.2], fun ⟨a, x, y, e, h, p, q⟩ => by cases p; cases q; exact ⟨a, e, h⟩⟩
instance : TupI (Tri Int Int Int) := ⟨fun p => [p.a, p.b, p.c], fun ⟨a, x, y, z, e, h, p, q, r⟩ => by cases p; cases q; cases r; exact ⟨a, e, h⟩⟩
def minTu {α : Type} [Enc α] [TupI α] : List α → Option α
  | [] => none
  | x :: xs => some (xs.foldl (fun b y => if HT.lexLt (TupI.nums y) (TupI.nums b) then y else b) x)
theorem argBest_fold {α : Type} [Enc α] [TupI α] (x : α) (xs : List α) (lt : Nat → Nat → Bool) (hl : ∀ i j a b, (x :: xs)[i]? = some a → (x :: xs)[j]? = some b → lt i j = HT.lexLt (TupI.nums a) (TupI.nums b)) :
    ∀ k, k ≤ xs.length → (x :: xs)[argBest lt k]? = some ((xs.take k).foldl (fun b y => if HT.lexLt (TupI.nums y) (TupI.nums b) then y else b) x)
  | 0, _ => rfl
  | k + 1, h => by
    have ih := argBest_fold x xs lt hl k (by omega)
    have ek : xs[k]? = some xs[k] := List.getElem?_eq_getElem (by omega)
    have ek1 : (x :: xs)[k + 1]? = some xs[k] := by simpa using ek
    have et : xs.take (k + 1) = xs.take k ++ [xs[k]] := by rw [List.take_add_one, ek]; rfl
    rw [et, List.foldl_append, List.foldl_cons, List.foldl_nil]
    unfold argBest
    rw [hl _ _ _ _ ek1 ih]
    by_cases c : HT.lexLt (TupI.nums xs[k]) (TupI.nums ((xs.take k).foldl (fun b y => if HT.lexLt (TupI.nums y) (TupI.nums b) then y else b) x)) = true
    · rw [if_pos c, if_pos c]
      exact ek1
    · rw [if_neg c, if_neg c]
      exact ih
theorem rb_minTu {α : Type} [Enc α] [TupI α] : RB K d F0 H0 S (rMinTu K) (fun x : List α × Unit => minTu x.1) := by
  intro Z s σ F H c vs x z r e Q q
  obtain ⟨v, ws, rfl, ⟨a, us, rfl, hs, p⟩, rfl⟩ := r
  have p2 : Paired (fun v ns => ∃ t, v = V.ref t ∧ SqT K H t (ns.map V.int)) us (x.1.map TupI.nums) := Paired.map (Paired.imp (fun v y h => by
    obtain ⟨t, e, hh⟩ := TupI.tp h
    exact ⟨t, e, SqT.same hh c.fh⟩) p)
  have e : minTu x.1 = some z := e
  cases hx : x.1 with
  | nil => rw [hx] at e; cases e
  | cons y ys =>
    rw [hx] at e p p2
    cases e
    have hl : us.length = ys.length + 1 := Paired.length p
    refine ⟨a, us, _, rfl, Same.seq c.fh hs, p2, by omega, fun v hv => ?_⟩
    have k := argBest_fold y ys (fun i j => HT.lexLt (((y :: ys).map TupI.nums).getD i []) (((y :: ys).map TupI.nums).getD j [])) (fun i j a b h1 h2 => by
      simp only [List.getD_eq_getElem?_getD, List.getElem?_map, h1, h2]
      rfl) ys.length (Nat.le_refl _)
    rw [List.take_length] at k
    obtain ⟨w, h1, h2⟩ := Paired.getR p k
    rw [hl, Nat.add_sub_cancel] at hv
    rw [hv] at h1
    cases h1
    exact q _ _ _ c (Same.refl _) h2
end
/-! ### defs -/
def run {S ρ : Type} (m : MS S ρ) (s : S) : Option ρ := match m s with | some (.rt r _) => some r | _ => none
def runU {S : Type} (m : MS S Unit) (s : S) : Option Unit := match m s with | some (.rt r _) => some () | some (.nx _) => some () | _ => none
/-- the slots at a def's begin -/
def Ini (A S : Type) [EncA A] [Slots S] (N : List Str) (n : Nat) (init : A → S) : Prop := ∀ (K : PySem.W.Frag) (P : Bool → Addr → Prop) (own : Addr → Option Nat) (F H : Hp) (vs : List V) (x : A), EncA.rels K F vs x → srels K P own F H 0 (start N vs) (init x) ∧ vs.length = n
def no : Addr → Prop := fun _ => False
section
variable {K : PySem.W.Frag} {S A : Type} [Slots S] [EncA A]
theorem cx_start {N : List Str} {n : Nat} {init : A → S} (hi : Ini A S N n init) {F H : Hp} {vs : List V} {x : A} (s : Same F H) (r : EncA.rels K F vs x) : Cx K no F H Z0 (init x) (start N vs) F H :=
  ⟨Gr.refl s, fun _ z => z.elim, fun _ => none, fun _ _ z => (nomatch z), fun _ _ z => (nomatch z), (hi K _ _ F H vs x r).1⟩
theorem read_P {ρ : Type} [Enc ρ] {N : List Str} {n : Nat} {init : A → S} (hi : Ini A S N n init) {t : TS} {m : MS S ρ} (js : ∀ F0 H0, JS K no F0 H0 S (RTn K no F0 H0 S) t m) {vs : List V} {H : Hp} {Q : VK} {E : XK}
    (h : spP K (fun x : A => run m (init x)) vs H Q E) : t { nx := fun _ H' => Q .non H', rt := Q } (start N vs) H := by
  obtain ⟨F, x, z, s, r, e, k⟩ := h
  have e : run m (init x) = some z := e
  cases e1 : m (init x) with
  | none => unfold run at e; rw [e1] at e; cases e
  | some f =>
    unfold run at e
    rw [e1] at e
    cases f with
    | nx s' => cases e
    | bk s' => cases e
    | ct s' => cases e
    | rt r s' =>
      cases e
      exact js F H _ _ F H (cx_start hi s r) _ e1 _ fun v σ' F' H' c _ rl => k v F' H' c.1 rl
theorem read_U {N : List Str} {n : Nat} {init : A → S} (hi : Ini A S N n init) {t : TS} {m : MS S Unit} (js : ∀ F0 H0, JS K no F0 H0 S (RTn K no F0 H0 S) t m) {vs : List V} {H : Hp} {Q : VK} {E : XK}
    (h : spP K (fun x : A => runU m (init x)) vs H Q E) : t { nx := fun _ H' => Q .non H', rt := Q } (start N vs) H := by
  obtain ⟨F, x, z, s, r, e, k⟩ := h
  have e : runU m (init x) = some z := e
  cases e1 : m (init x) with
  | none => unfold runU at e; rw [e1] at e; cases e
  | some f =>
    unfold runU at e
    rw [e1] at e
    cases f with
    | nx s' => exact js F H _ _ F H (cx_start hi s r) _ e1 _ fun σ' F' H' c _ => k .non F' H' c.1 rfl
    | bk s' => cases e
    | ct s' => cases e
    | rt r1 s' =>
      cases e
      exact js F H _ _ F H (cx_start hi s r) _ e1 _ fun v σ' F' H' c _ rl => k v F' H' c.1 rl
theorem read_N {ρ : Type} [Enc ρ] {N : List Str} {n : Nat} {init : A → S} (hi : Ini A S N n init) {t : TS} {m : MS S (List ρ)} (js : ∀ F0 H0, JS K no F0 H0 S (RTf K no F0 H0 S) t m) {vs : List V} {H : Hp} {Q : VK} {E : XK}
    (h : spN K (fun x : A => run m (init x)) vs H Q E) : t { nx := fun _ H' => Q .non H', rt := Q } (start N vs) H := by
  obtain ⟨F, x, z, s, r, e, k⟩ := h
  have e : run m (init x) = some z := e
  cases e1 : m (init x) with
  | none => unfold run at e; rw [e1] at e; cases e
  | some f =>
    unfold run at e
    rw [e1] at e
    cases f with
    | nx s' => cases e
    | bk s' => cases e
    | ct s' => cases e
    | rt r s' =>
      cases e
      exact js F H _ _ F H (cx_start hi s r) _ e1 _ fun ws p σ' F' H' c _ hp rl => k ws p F' H' c.1 hp rl
/-- with the source in the first slot -/
def runS {S ρ : Type} [Slots S] (p : Pos S (Src true) 0) (m : MS S ρ) (s : S) : Option (ρ × List Int) := match m s with | some (.rt r s') => (match p.get s' with | .at zs => some (r, zs) | .no => none) | _ => none
def IniS (A S : Type) [EncA A] [Slots S] (N : List Str) (n : Nat) (init : List Int → A → S) : Prop := ∀ (K : PySem.W.Frag) (P : Bool → Addr → Prop) (own : Addr → Option Nat) (F H : Hp) (vs : List V) (x : A) (a : Addr) (zs : List Int), EncA.rels K F vs x → own a = some 0 → P true a → F a = none → H a = some (.lst (zs.map V.int)) → srels K P own F H 0 (start N (.ref a :: vs)) (init zs x) ∧ (V.ref a :: vs).length = n
theorem read_S {ρ : Type} [Enc ρ] {N : List Str} {n : Nat} (p : Pos S (Src true) 0) {init : List Int → A → S} (hi : IniS A S N n init) {t : TS} {m : MS S ρ} (js : ∀ a F0 H0, JS K (· = a) F0 H0 S (RTn K (· = a) F0 H0 S) t m) {vs : List V} {H : Hp} {Q : VK} {E : XK}
    (h : spS K (fun zs (x : A) => runS p m (init zs x)) vs H Q E) : t { nx := fun _ H' => Q .non H', rt := Q } (start N vs) H := by
  obtain ⟨F, a, zs, zs', ws, x, z, rfl, s, fa, ha, r, e, k⟩ := h
  have e : runS p m (init zs x) = some (z, zs') := e
  cases e1 : m (init zs x) with
  | none => unfold runS at e; rw [e1] at e; cases e
  | some f =>
    unfold runS at e
    rw [e1] at e
    cases f with
    | nx s' => cases e
    | bk s' => cases e
    | ct s' => cases e
    | rt r1 s' =>
      cases e5 : p.get s' with
      | no => simp [e5] at e
      | «at» zs2 =>
      simp only [e5] at e
      cases e
      have c0 : Cx K (· = a) F H Z0 (init zs x) (start N (.ref a :: ws)) F H := ⟨Gr.refl s, fun b z => by subst z; rw [ha]; simp, fun b => if b = a then some 0 else none, fun b j q => by
        by_cases h : b = a
        · subst h; rw [ha]; simp
        · simp [h] at q, fun _ _ z => (nomatch z), (hi K _ _ F H ws x a zs r (by simp) rfl fa ha).1⟩
      refine js a F H _ _ F H c0 _ e1 _ fun v σ' F' H' c _ rl => ?_
      obtain ⟨g, dn, own, w1, w2, sl⟩ := c
      obtain ⟨ov, _, sr⟩ := p.rd sl
      rw [e5] at sr
      obtain ⟨a', _, _, ea, _, hh⟩ := sr
      have ea : a' = a := ea
      subst ea
      exact k v F' H' g hh rl
theorem len_S {γ : Type} [Enc γ] {f : List Int → A → Option (γ × List Int)} {N : List Str} {n : Nat} {init : List Int → A → S} (hi : IniS A S N n init) {vs : List V} {H : Hp} {Q : VK} {E : XK} (h : spS K f vs H Q E) : vs.length = n := by
  obtain ⟨F, a, zs, zs', ws, x, z, rfl, s, fa, ha, r, _⟩ := h
  exact (hi K (fun _ _ => True) (fun _ => some 0) F H ws x a zs r rfl trivial fa ha).2
theorem len_P {γ : Type} [Enc γ] {f : A → Option γ} {N : List Str} {n : Nat} {init : A → S} (hi : Ini A S N n init) {vs : List V} {H : Hp} {Q : VK} {E : XK} (h : spP K f vs H Q E) : vs.length = n := by
  obtain ⟨F, x, z, s, r, _⟩ := h
  exact (hi K (fun _ _ => True) (fun _ => none) F H vs x r).2
theorem len_N {γ : Type} [Enc γ] {f : A → Option (List γ)} {N : List Str} {n : Nat} {init : A → S} (hi : Ini A S N n init) {vs : List V} {H : Hp} {Q : VK} {E : XK} (h : spN K f vs H Q E) : vs.length = n := by
  obtain ⟨F, x, z, s, r, _⟩ := h
  exact (hi K (fun _ _ => True) (fun _ => none) F H vs x r).2
end
end Rm
namespace Rm
open PySem PySem.Spec PyProof.Rows L2 Rg
open Enc (rel)
open Cell (cel)
open Slot (srel)
open Slots (srels)
/-- a type as a value -/
structure Ty where
  n : String
class Enc0 (α : Type) where
  rel0 : V → α → Prop
section
variable {K : PySem.W.Frag} {d : Addr → Prop} {F0 H0 : Hp} {S : Type} [Slots S]
/-! ### types of values -/
/-- isinstance(x, T) and type(x) == T, T a written type -/
def isiI (t : String) : Option Bool := if t = "int" then some true else if t = "bool" then some false else none
theorem j_isiI {n : String} {t : TE} {m : M S Int} (h : JE K d F0 H0 S t m) : JE K d F0 H0 S (tCB (rIsi K) (tCons t (tCons (tC (.ty n)) tNil))) (op1 (fun _ => isiI n) m) := by
  intro Z s σ F H c x s' e Q q
  obtain ⟨y1, s1, e1, e⟩ := bnd_some e
  obtain ⟨e3, rfl⟩ := lft_some e
  refine r_cb (r_cons (h _ _ _ _ _ c _ _ e1 _ fun v F1 H1 c1 q1 r1 => r_cons (r_c (r_nil ?_))))
  cases r1
  unfold isiI at e3
  by_cases h1 : n = "int"
  · rw [if_pos h1] at e3
    cases e3
    subst h1
    exact ⟨_, .ty "int", _, _, true, rfl, .ty "int", .base (.int _), rfl, q _ _ _ c1 q1 rfl⟩
  · rw [if_neg h1] at e3
    obtain ⟨h2, rfl⟩ := ite_some e3
    subst h2
    exact ⟨_, .ty "bool", _, _, false, rfl, .ty "bool", .base (.int _), rfl, q _ _ _ c1 q1 rfl⟩
theorem ite_some' {c : Prop} [Decidable c] {α : Type} {x z : α} (h : (if c then some x else none) = some z) : c ∧ x = z := ite_some h
/-- type(x) == list, != tuple of what is one -/
theorem j_tyL {α : Type} [Enc α] {b : Bool} {t : TE} {m : M S (List α)} (h : JE K d F0 H0 S t m) : JE K d F0 H0 S (tOp (rTyS b) (tCB (rTyp K) (tCons t tNil)) (tC (.ty "list"))) (op1 (fun _ => some b) m) := by
  intro Z s σ F H c x s' e Q q
  obtain ⟨y1, s1, e1, e⟩ := bnd_some e
  obtain ⟨e3, rfl⟩ := lft_some e
  cases e3
  refine r_op (r_cb (r_cons (h _ _ _ _ _ c _ _ e1 _ fun v F1 H1 c1 q1 r1 => r_nil ?_)))
  obtain ⟨a, vs, rfl, hs, p⟩ := r1
  exact ⟨_, "list", rfl, .lst (Same.seq c1.fh hs), "list", .inl rfl, rfl, rfl, q _ _ _ c1 q1 rfl⟩
theorem j_tyT2 {α β : Type} [Enc α] [Enc β] {b : Bool} {t : TE} {m : M S (α × β)} (h : JE K d F0 H0 S t m) : JE K d F0 H0 S (tOp (rTyS b) (tCB (rTyp K) (tCons t tNil)) (tC (.ty "tuple"))) (op1 (fun _ => some b) m) := by
  intro Z s σ F H c x s' e Q q
  obtain ⟨y1, s1, e1, e⟩ := bnd_some e
  obtain ⟨e3, rfl⟩ := lft_some e
  cases e3
  refine r_op (r_cb (r_cons (h _ _ _ _ _ c _ _ e1 _ fun v F1 H1 c1 q1 r1 => r_nil ?_)))
  obtain ⟨a, x1, y1, rfl, hs, p, p2⟩ := r1
  exact ⟨_, "tuple", rfl, .tup (SqT.same hs c1.fh), "tuple", .inr rfl, rfl, rfl, q _ _ _ c1 q1 rfl⟩
theorem j_tyT3 {α β γ : Type} [Enc α] [Enc β] [Enc γ] {b : Bool} {t : TE} {m : M S (Tri α β γ)} (h : JE K d F0 H0 S t m) : JE K d F0 H0 S (tOp (rTyS b) (tCB (rTyp K) (tCons t tNil)) (tC (.ty "tuple"))) (op1 (fun _ => some b) m) := by
  intro Z s σ F H c x s' e Q q
  obtain ⟨y1, s1, e1, e⟩ := bnd_some e
  obtain ⟨e3, rfl⟩ := lft_some e
  cases e3
  refine r_op (r_cb (r_cons (h _ _ _ _ _ c _ _ e1 _ fun v F1 H1 c1 q1 r1 => r_nil ?_)))
  obtain ⟨a, x1, y1, z1, rfl, hs, p, p2, p3⟩ := r1
  exact ⟨_, "tuple", rfl, .tup (SqT.same hs c1.fh), "tuple", .inr rfl, rfl, rfl, q _ _ _ c1 q1 rfl⟩
theorem rb_lenT2 {α β : Type} [Enc α] [Enc β] : RB K d F0 H0 S (rLen2 K) (fun _ : (α × β) × Unit => some (2 : Int)) := by
  intro Z s σ F H c vs x z r e Q q
  cases e
  obtain ⟨v, ws, rfl, ⟨a, x1, y1, rfl, hs, p1, p2⟩, rfl⟩ := r
  exact ⟨a, _, rfl, .inr (SqT.same hs c.fh), q _ _ _ c (Same.refl _) rfl⟩
theorem rb_lenT3 {α β γ : Type} [Enc α] [Enc β] [Enc γ] : RB K d F0 H0 S (rLen2 K) (fun _ : Tri α β γ × Unit => some (3 : Int)) := by
  intro Z s σ F H c vs x z r e Q q
  cases e
  obtain ⟨v, ws, rfl, ⟨a, x1, y1, z1, rfl, hs, p1, p2, p3⟩, rfl⟩ := r
  exact ⟨a, _, rfl, .inr (SqT.same hs c.fh), q _ _ _ c (Same.refl _) rfl⟩
/-- t[:2] of three -/
theorem j_slT2 {α β γ : Type} [Enc α] [Enc β] [Enc γ] {t : TE} {m : M S (Tri α β γ)} (h : JE K d F0 H0 S t m) : JE K d F0 H0 S (tSl (rSlT K) t tNoPart (tPart (tC (.int 2)))) (op1 (fun x => some (x.a, x.b)) m) := by
  intro Z s σ F H c x s' e Q q
  obtain ⟨y1, s1, e1, e⟩ := bnd_some e
  obtain ⟨e3, rfl⟩ := lft_some e
  cases e3
  refine r_sl (h _ _ _ _ _ c _ _ e1 _ fun v F1 H1 c1 q1 r1 => r_noP (r_part ⟨2, rfl, ?_⟩))
  obtain ⟨a, x1, y1, z1, rfl, hs, p1, p2, p3⟩ := r1
  refine ⟨a, _, rfl, SqT.same hs c1.fh, fun z => absurd (show HT.sIx 3 3 (some 2) = 3 from z.2) (by decide), fun p hp => ?_⟩
  have n := c1.new hp (.tup (cutV [x1, y1, z1] none (some 2)))
  exact q _ _ _ n.1 (q1.trans n.2) ⟨p, x1, y1, rfl, .inl (.inl upd_same), Enc.mono n.2 p1, Enc.mono n.2 p2⟩
/-! ### None or a value -/
theorem j_some {α : Type} [Enc α] {t : TE} {m : M S α} (h : JE K d F0 H0 S t m) : JE K d F0 H0 S t (op1 (fun x => some (some x)) m) := by
  intro Z s σ F H c x s' e Q q
  obtain ⟨y1, s1, e1, e⟩ := bnd_some e
  obtain ⟨e3, rfl⟩ := lft_some e
  cases e3
  exact h _ _ _ _ _ c _ _ e1 _ fun v F1 H1 c1 q1 r1 => q v _ _ c1 q1 r1
theorem j_the {α : Type} [Enc α] {t : TE} {m : M S (Option α)} (h : JE K d F0 H0 S t m) : JE K d F0 H0 S t (op1 (fun x => x) m) := by
  intro Z s σ F H c x s' e Q q
  obtain ⟨y1, s1, e1, e⟩ := bnd_some e
  obtain ⟨e3, rfl⟩ := lft_some e
  subst e3
  exact h _ _ _ _ _ c _ _ e1 _ fun v F1 H1 c1 q1 r1 => q v _ _ c1 q1 r1
theorem j_noneO {α : Type} [Enc α] : JE K d F0 H0 S (tC .non) (pur (none : Option α)) := j_c fun _ => rfl
class NotNone (α : Type) [Enc α] : Prop where
  nn : ∀ {K : PySem.W.Frag} {F : Hp} {v : V} {x : α}, rel K F v x → v ≠ .non
instance : NotNone Int := ⟨fun h => by cases h; simp⟩
instance {α β : Type} [Enc α] [Enc β] : NotNone (α × β) := ⟨fun ⟨a, _, _, e, _⟩ => by subst e; simp⟩
theorem rj_isN {α : Type} [Enc α] [NotNone α] : RJ2 K d F0 H0 S (fun x y H Q => y = .non ∧ Q (.bl (decide (x = .non))) H) (fun (x : Option α) (_ : Unit) => some x.isNone) := by
  intro Z s σ F H c v u x y z r1 r2 e Q q
  cases r2
  cases e
  refine ⟨rfl, ?_⟩
  cases x with
  | none =>
    cases r1
    exact q _ _ _ c (Same.refl _) (by simp [rel])
  | some x =>
    have nn := NotNone.nn (α := α) r1
    exact q _ _ _ c (Same.refl _) (by simp [rel, nn])
/-! ### the source's own items -/
def rdS {S : Type} [Slots S] {b : Bool} {k : Nat} (p : Pos S (Src b) k) : M S (List Int) := fun s => match p.get s with | .at zs => some (zs, s) | .no => none
theorem rdS_some {b : Bool} {k : Nat} {p : Pos S (Src b) k} {s s' : S} {x : List Int} (h : rdS p s = some (x, s')) : p.get s = .at x ∧ s' = s := by
  unfold rdS at h
  cases e : p.get s with
  | no => rw [e] at h; cases h
  | «at» y => rw [e] at h; cases h; exact ⟨rfl, rfl⟩
def ixSM {S : Type} [Slots S] {b : Bool} {k : Nat} (p : Pos S (Src b) k) (m : M S Int) : M S Int := bnd (rdS p) fun _ => bnd m fun i => bnd (rdS p) fun x => lft (atI x i)
theorem j_ixS {b : Bool} {k : Nat} (p : Pos S (Src b) k) {t : TE} {m : M S Int} (h : JE K d F0 H0 S t m) : JE K d F0 H0 S (tOp (rIxL K) (tVar k) t) (ixSM p m) := by
  intro Z s σ F H c x s' e Q q
  obtain ⟨x0, s0, ea, eb⟩ := bnd_some e
  obtain ⟨e0, es⟩ := rdS_some ea
  rw [es] at eb
  obtain ⟨i, s1, e1, ec⟩ := bnd_some eb
  obtain ⟨y, s2, ed, ef⟩ := bnd_some ec
  obtain ⟨e3, e4⟩ := lft_some ef
  obtain ⟨e2, es2⟩ := rdS_some ed
  rw [es2] at e4
  subst e4
  obtain ⟨a, h1, _, ha, _⟩ := c.src p e0
  refine r_op ⟨.ref a, h1, h _ _ _ _ _ c _ _ e1 _ fun v F' H' c' sf r => ?_⟩
  cases r
  obtain ⟨a', h1', _, ha', _⟩ := c'.src p e2
  rw [h1] at h1'
  cases h1'
  obtain ⟨w, h2, h3⟩ := atI_par (R := fun (v : V) (n : Int) => v = .int n) (Paired.ofmap (R := fun (v : V) (n : Int) => v = .int n) (f := V.int) (fun _ => rfl) y) e3
  exact r_ixL (sqe ha') h2 (q _ _ _ c' sf h3)
def setSM {S ρ : Type} [Slots S] {b : Bool} {k : Nat} (p : Pos S (Src b) k) (mv : M S Int) (mi : M S Int) : MS S ρ := bindS mv fun y => bindS (rdS p) fun _ => bindS mi fun i => bindS (rdS p) fun xs s => (ixN xs.length i).map fun j => .nx (p.put s (.at (xs.set j y)))
variable {ρ : Type} {RT : S → Hp → VK → ρ → Prop} [RTm RT]
theorem map_set {xs : List Int} {j : Nat} {y : Int} : (xs.set j y).map V.int = (xs.map V.int).set j (.int y) := List.map_set
theorem js_setS {b : Bool} {k : Nat} (p : Pos S (Src b) k) {t ti : TE} {mv : M S Int} {mi : M S Int} (h : JE K d F0 H0 S t mv) (hi : JE K d F0 H0 S ti mi) : JS K d F0 H0 S RT (tAsg t (gSub (tVar k) ti rSetL)) (setSM p mv mi) := by
  intro s σ F H c f e D q
  obtain ⟨y, s1, e1, ea⟩ := bindS_some e
  obtain ⟨x0, s0, eb, ec⟩ := bindS_some ea
  obtain ⟨e0, es⟩ := rdS_some eb
  rw [es] at ec
  obtain ⟨i, s2, e2, ed⟩ := bindS_some ec
  obtain ⟨xs, s3, ef, eg⟩ := bindS_some ed
  obtain ⟨e3, es3⟩ := rdS_some ef
  rw [es3] at eg
  cases e4 : ixN xs.length i with
  | none => rw [e4] at eg; cases eg
  | some j =>
    rw [e4] at eg
    cases eg
    refine r_asg (h _ _ _ _ _ c _ _ e1 _ fun v F' H' c' sf r => ?_)
    obtain ⟨a, h1, _, ha, _⟩ := c'.src p e0
    refine r_sub ⟨.ref a, h1, hi _ _ _ _ _ c' _ _ e2 _ fun w F2 H2 c2 sf2 r2 => ?_⟩
    cases r2
    obtain ⟨a', h1', fa, ha', k⟩ := c2.src p e3
    rw [h1] at h1'
    cases h1'
    cases r
    refine r_setL ha' (by rw [List.length_map]; exact e4) (q _ _ _ (k F2 _ (xs.set j y) ⟨Same.refl _, fun b u z => ?_, fun b u n z => ?_, fun b z _ => z, fun b n => ?_⟩ ?_) (sf.trans sf2))
    · rw [upd_ne (fun z2 => by subst z2; rw [fa] at z; cases z)]
      exact c2.fh b u z
    · rw [upd_ne n]
      exact z
    · by_cases hb : b = a
      · subst hb; rw [upd_same]; simp
      · rw [upd_ne hb]; exact n
    · rw [upd_same, map_set]
/-- a variable takes a new list of ints as its source -/
theorem js_srcN {k : Nat} (p : Pos S (Src false) k) {t : TE} {m : M S (List Int)} (h : JF K d F0 H0 S t m) : JS K d F0 H0 S RT (tAsg t (gName k)) (asgM m fun zs s => some (p.put s (.at zs))) := by
  intro s σ F H c f e D q
  obtain ⟨x, s1, e1, e⟩ := bindS_some e
  cases e
  refine r_asg (h _ _ _ _ _ c _ _ e1 _ fun vs a F' H' c' sf hp r => r_name ?_)
  have e := paired_ints r
  subst e
  exact q _ F' _ (c'.srcNew p hp) sf
theorem js_never {m : MS S ρ} (hm : ∀ s, m s = none) : JS K d F0 H0 S RT tNever m := by
  intro s σ F H c f e D q
  rw [hm] at e
  cases e
end
/-- [x] * n -/
def gRep {α : Type} (xs : List α) (n : Int) : Option (List α) := if -(2 ^ 62) ≤ n ∧ n < 2 ^ 62 ∧ xs.length * n.toNat ≤ 100000 then some (List.replicate n.toNat xs).flatten else none
theorem Paired.rep {α β : Type} {R : α → β → Prop} {xs : List α} {ys : List β} (h : Paired R xs ys) : ∀ n : Nat, Paired R (List.replicate n xs).flatten (List.replicate n ys).flatten
  | 0 => .nil
  | n + 1 => by
    rw [List.replicate_succ, List.replicate_succ, List.flatten_cons, List.flatten_cons]
    exact Paired.append h (Paired.rep h n)
theorem jf_rep {K : PySem.W.Frag} {d : Addr → Prop} {F0 H0 : Hp} {S : Type} [Slots S] {α : Type} [Enc α] {ta tb : TE} {ma : M S (List α)} {mb : M S Int} (ha : JF K d F0 H0 S ta ma) (hb : JE K d F0 H0 S tb mb) : JF K d F0 H0 S (tOp rRep ta tb) (op2 gRep ma mb) := by
  intro Z s σ F H c x s' e Q q
  obtain ⟨y1, s1, e1, e⟩ := bnd_some e
  obtain ⟨y2, s2, e2, e⟩ := bnd_some e
  obtain ⟨e3, rfl⟩ := lft_some e
  obtain ⟨k, rfl⟩ := ite_some e3
  refine r_op (ha _ _ _ _ _ c _ _ e1 _ fun vs p F1 H1 c1 q1 hp r1 => ?_)
  have zp : Z p = none := by
    cases z : Z p with
    | none => rfl
    | some o => have := (c1.hz z).1; rw [hp] at this; cases this
  refine hb _ _ _ _ _ (c1.junk hp (.lst vs)) _ _ e2 _ fun v F2 H2 c2 q2 r2 => ?_
  cases r2
  have hz := c2.hz (upd_same (H := Z) (a := p))
  have c3 : Cx K d F0 H0 Z s' σ F2 H2 := c2.lessZ fun a o z => by rw [upd_ne (fun w => by subst w; rw [zp] at z; cases z)]; exact z
  have r3 : Paired (rel K F2) vs y1 := Paired.imp (fun _ _ => Enc.mono q2) r1
  refine ⟨p, _, vs, rfl, rfl, hz.1, by omega, by omega, ?_, fun p2 hp2 => q _ _ _ _ c3 (q1.trans q2) hp2 (Paired.rep r3 _)⟩
  rw [Paired.length r1]
  exact Nat.le_trans k.2.2 (by decide)
end Rm
namespace Rm
open PySem PySem.Spec PyProof.Rows L2 Rg
open Enc (rel)
open Cell (cel)
open Slot (srel)
open Slots (srels)
section
variable {K : PySem.W.Frag} {d : Addr → Prop} {F0 H0 : Hp} {S : Type} [Slots S]
/-- a held new thing becomes a variable's own -/
theorem Cx.ownHeld {χ : Type} [Cell χ] [Frz χ] {Z : Hp} {s : S} {σ : L2.St} {F H : Hp} {k : Nat} {a : Addr} {o : HO} {x : χ} (c : Cx K d F0 H0 (upd Z a o) s σ F H) (zn : Z a = none) (p : Pos S (Own χ) k) (ce : cel K F o x) :
    Cx K d F0 H0 Z (p.put s (.mine x)) (σ.set k (some (.ref a))) F H := by
  obtain ⟨H1, h1, rfl, c1⟩ := c.back zn
  exact c1.own p h1 ce
variable {ρ : Type} {RT : S → Hp → VK → ρ → Prop} [RTm RT]
def parOM {S α β ρ : Type} (m : M S α) (n : M S β) (f : α → S → Option S) (g : β → S → Option S) : MS S ρ := bindS m fun x => bindS n fun y s => ((f x s).bind (g y)).map .nx
theorem js_parO {α β : Type} [Enc α] [Enc β] {i j : Nat} (p : Pos S (Own (List α)) i) (p' : Pos S (Dt β) j) {ta tb : TE} {m : M S (List α)} {n : M S β} (ha : JF K d F0 H0 S ta m) (hb : JE K d F0 H0 S tb n) : JS K d F0 H0 S RT (tPar i j (tCons ta (tCons tb tNil))) (parOM m n (pOwn p) (pName p')) := by
  intro s σ F H c f e D q
  obtain ⟨x, s1, e1, ea⟩ := bindS_some e
  obtain ⟨y, s2, e2, eb⟩ := bindS_some ea
  cases eb
  refine r_par (r_cons (ha _ _ _ _ _ c _ _ e1 _ fun vs a F1 H1 c1 q1 hp r1 => r_cons (hb _ _ _ _ _ (c1.junk hp (.lst vs)) _ _ e2 _ fun v F2 H2 c2 q2 r2 => r_nil ?_)))
  exact ⟨_, _, rfl, q _ F2 H2 ((c2.ownHeld rfl p ⟨vs, rfl, Paired.imp (fun _ _ => Enc.mono q2) r1⟩).set p' r2) (q1.trans q2)⟩
def par3OM {S α β γ ρ : Type} (m : M S α) (n : M S β) (l : M S γ) (f : α → S → Option S) (g : β → S → Option S) (h : γ → S → Option S) : MS S ρ := bindS m fun x => bindS n fun y => bindS l fun z s => (((f x s).bind (g y)).bind (h z)).map .nx
theorem js_par3O {α β γ : Type} [Enc α] [Enc β] [Enc γ] {i j k : Nat} (p : Pos S (Own (List α)) i) (p' : Pos S (Dt β) j) (p'' : Pos S (Dt γ) k) {ta tb tc : TE} {m : M S (List α)} {n : M S β} {l : M S γ} (ha : JF K d F0 H0 S ta m) (hb : JE K d F0 H0 S tb n) (hc : JE K d F0 H0 S tc l) :
    JS K d F0 H0 S RT (tPar3 i j k (tCons ta (tCons tb (tCons tc tNil)))) (par3OM m n l (pOwn p) (pName p') (pName p'')) := by
  intro s σ F H c f e D q
  obtain ⟨x, s1, e1, ea⟩ := bindS_some e
  obtain ⟨y, s2, e2, eb⟩ := bindS_some ea
  obtain ⟨z, s3, e3, ec⟩ := bindS_some eb
  cases ec
  refine r_par3 (r_cons (ha _ _ _ _ _ c _ _ e1 _ fun vs a F1 H1 c1 q1 hp r1 => r_cons (hb _ _ _ _ _ (c1.junk hp (.lst vs)) _ _ e2 _ fun v F2 H2 c2 q2 r2 => r_cons (hc _ _ _ _ _ c2 _ _ e3 _ fun w F3 H3 c3 q3 r3 => r_nil ?_))))
  exact ⟨_, _, _, rfl, q _ F3 H3 (((c3.ownHeld rfl p ⟨vs, rfl, Paired.imp (fun _ _ => Enc.mono (q2.trans q3)) r1⟩).set p' (Enc.mono q3 r2)).set p'' r3) (q1.trans (q2.trans q3))⟩
/-- a variable's own list is handed out as new -/
theorem Cx.take {α : Type} [Enc α] {Z : Hp} {s : S} {σ : L2.St} {F H : Hp} {k : Nat} (c : Cx K d F0 H0 Z s σ F H) (p : Pos S (Own (List α)) k) {x : List α} (e : p.get s = .mine x) :
    ∃ a vs H1, σ[k]? = some (some (.ref a)) ∧ H1 a = none ∧ H = upd H1 a (.lst vs) ∧ Paired (rel K F) vs x ∧ Cx K d F0 H0 Z (p.put s .no) σ F H1 := by
  obtain ⟨g, dn, own, w1, w2, sl⟩ := c
  obtain ⟨ov, h1, h2⟩ := p.rd sl
  rw [e] at h2
  obtain ⟨a, o, rfl, w, pa, fa, ha, vs, rfl, pr⟩ := h2
  have pa : H0 a = none := pa
  refine ⟨a, vs, fun b => if b = a then none else H b, h1, by simp, ?_, pr, ⟨g.ff, fun b u e => ?_, fun b u n e => ?_, g.fr, fun b n => ?_⟩, dn, fun b => if b = a then none else own b, fun b j e => ?_, fun b u e => ?_, ?_⟩
  · funext b
    by_cases h : b = a
    · subst h; rw [upd_same]; exact ha
    · rw [upd_ne h]; simp [h]
  · have n : b ≠ a := fun z => by subst z; rw [fa] at e; cases e
    simp [n]
    exact g.fh b u e
  · have n' : b ≠ a := fun z => by subst z; rw [pa] at e; cases e
    simp [n']
    exact g.hh b u n e
  · have n' : b ≠ a := fun z => by subst z; exact n pa
    simp [n']
    exact g.dm b n
  · have n' : b ≠ a := fun z => by subst z; simp at e
    simp [n'] at e ⊢
    exact w1 b j e
  · have q := w2 b u e
    have n' : b ≠ a := fun z => by subst z; rw [w] at q; cases q.2.2.1
    simp [n']
    exact q
  · have r := p.wr (own' := fun b => if b = a then none else own b) (F' := F) (H' := fun b => if b = a then none else H b) (ov := some (.ref a)) (x := Own.no) sl ⟨Same.refl _, fun j b l q f n => ?_⟩ trivial
    · rw [set_same h1] at r
      exact r
    · have n' : b ≠ a := fun z => by subst z; rw [w] at q; exact l (Option.some.inj q).symm
      simp [n', q, f]
def takM {S α : Type} [Slots S] [Slot (Own (List α))] {k : Nat} (p : Pos S (Own (List α)) k) : M S (List α) := fun s => match p.get s with | .mine x => some (x, p.put s .no) | _ => none
theorem jf_take {α : Type} [Enc α] {k : Nat} (p : Pos S (Own (List α)) k) : JF K d F0 H0 S (tVar k) (takM p) := by
  intro Z s σ F H c x s' e Q q
  unfold takM at e
  cases h : p.get s with
  | no => rw [h] at e; cases e
  | gone y => rw [h] at e; cases e
  | mine y =>
    rw [h] at e
    cases e
    obtain ⟨a, vs, H1, h1, ha, rfl, pr, c1⟩ := c.take p h
    exact ⟨_, h1, q vs a F H1 c1 (Same.refl _) ha pr⟩
end
end Rm
namespace Rg
open PySem PySem.Spec PyProof.Rows L2
section
variable {X : Cx} {C : CXT} {k : Nat} {f : Addr} {fd : FuncData} {ps ks : List Str} {sp : Sp} {E : XK} {x : Str} {p pos : Pos} {kws : List Keyword} {t : TA}
theorem pe_kwG {g : List Value → List Value} {gV : List V → List V} (F : FnG X.prog X.w X.K X.mg X.base C k f fd ps sp) (hgd : X.A.guards = some []) (hr : Room k X.A) (gl : Gl X x) (hm : X.mg x = some (.ref f)) (hk : PySem.W.keepIn X.K (.ref f) = true) (hb : KwB X.K fd ps ks g gV) (hx : Passes C X E) (hw : PK X kws t)
    (hall : (backToKw pos (keywordEach kws X.env)).all (·.1.isSome) = true := by rfl) (hks : (backToKw pos (keywordEach kws X.env)).filterMap (·.1) = ks := by rfl) (hd : (x == ("__debug__" : Str)) = false := by decide)
    (hp : ((backTo pos (starEach [] X.env)).any (·.1) || (backToKw pos (keywordEach kws X.env)).any (·.1.isNone)) = false := by rfl) : PE X (.Call (.Name x p) [] kws pos) (tKw sp gV E t) := by
  constructor
  intro pins s σ H Q I h
  refine wpAny_Call_Name_kw (ld_glob I gl hm (PySem.W.callWith_KW0 (h₀ := X.base) I.ok.mod.kin hk hall (thn (hw.run pos pins s σ H _ I h) fun ws s1 z => ?_) hp) hd)
  obtain ⟨zs, H1, I1, r, q⟩ := z
  have r2 := hb.rl r
  refine ⟨I1.kIn, ?_⟩
  rw [hks]
  exact runG F hgd hr hx I1 (hb.to s1 ws I1.kIn (by rw [← r2.length]; exact F.ln q)) r2 q
end
end Rg
namespace Rm
open PySem PySem.Spec PyProof.Rows L2 Rg
open Enc (rel)
open Cell (cel)
open Slot (srel)
open Slots (srels)
def fuel : Nat := 2 ^ 40
section
variable {K : PySem.W.Frag} {d : Addr → Prop} {F0 H0 : Hp} {S : Type} [Slots S]
theorem j_eqO {α β : Type} [Enc α] [Enc β] [EncD α] [EncD β] {k : Nat} (p : Pos S (Own (List α)) k) {t : TE} {m : M S β} (h : JE K d F0 H0 S t m) : JE K d F0 H0 S (tOp (rEqD K) (tVar k) t) (ixO p m (eqD (α := List α) (β := β))) := by
  intro Z s σ F H c x s' e Q q
  obtain ⟨x0, i, y, e0, e1, e2, e3⟩ := ixO_some e
  obtain ⟨k, rfl⟩ := eqD_some e3
  obtain ⟨a, vs, h1, _, _⟩ := c.peek p e0
  refine r_op ⟨.ref a, h1, h _ _ _ _ _ c _ _ e1 _ fun v F' H' c' sf r => ?_⟩
  obtain ⟨a', vs, h1', ha, pr⟩ := c'.peek p e2
  rw [h1] at h1'
  cases h1'
  exact ⟨_, _, .lst (sqe ha) (DpAll.same c'.fh (dpAll_of pr)), Dp.same c'.fh (EncD.dp r), k.1, k.2, q _ _ _ c' sf rfl⟩
theorem j_neO {α β : Type} [Enc α] [Enc β] [EncD α] [EncD β] {k : Nat} (p : Pos S (Own (List α)) k) {t : TE} {m : M S β} (h : JE K d F0 H0 S t m) : JE K d F0 H0 S (tOp (rNeD K) (tVar k) t) (ixO p m (neD (α := List α) (β := β))) := by
  intro Z s σ F H c x s' e Q q
  obtain ⟨x0, i, y, e0, e1, e2, e3⟩ := ixO_some e
  obtain ⟨k, rfl⟩ := neD_some e3
  obtain ⟨a, vs, h1, _, _⟩ := c.peek p e0
  refine r_op ⟨.ref a, h1, h _ _ _ _ _ c _ _ e1 _ fun v F' H' c' sf r => ?_⟩
  obtain ⟨a', vs, h1', ha, pr⟩ := c'.peek p e2
  rw [h1] at h1'
  cases h1'
  exact ⟨_, _, .lst (sqe ha) (DpAll.same c'.fh (dpAll_of pr)), Dp.same c'.fh (EncD.dp r), k.1, k.2, q _ _ _ c' sf rfl⟩
theorem Cx.drop {Z : Hp} {s : S} {σ : L2.St} {F H : Hp} (c : Cx K d F0 H0 Z s σ F H) {p : Addr} (hp : H p = none) (o : HO) : Cx K d F0 H0 Z s σ F (upd H p o) :=
  (c.junk hp o).lessZ fun a u z => by rw [upd_ne (ne_of_none (c.hz z).1 hp)]; exact z
/-- repr([xs, y]), xs a variable's own list, which may change later -/
theorem j_reprO {α : Type} [Enc α] [EncD α] {k : Nat} (p : Pos S (Own (List α)) k) {t : TE} {m : M S (List α)} (h : JE K d F0 H0 S t m) : JE K d F0 H0 S (tCB (rRepr K) (tCons (tLst (tCons (tVar k) (tCons t tNil))) tNil)) (ixO p m fun x y => gRepr [x, y]) := by
  intro Z s σ F H c x s' e Q q
  obtain ⟨x0, i, y, e0, e1, e2, e3⟩ := ixO_some e
  obtain ⟨k, rfl⟩ := gRepr_some e3
  obtain ⟨a, vs, h1, _, _⟩ := c.peek p e0
  refine r_cb (r_cons (r_lst (r_cons ⟨.ref a, h1, r_cons (h _ _ _ _ _ c _ _ e1 _ fun v F' H' c' sf r => r_nil ⟨by show 2 ≤ sizeLine; decide, fun l hl => r_nil ?_⟩)⟩)))
  obtain ⟨a', vs, h1', ha, pr⟩ := c'.peek p e2
  rw [h1] at h1'
  cases h1'
  have sl : Same H' (upd H' l (.lst [.ref a, v])) := Same.new hl
  refine ⟨l, _, rfl, .lst (.inl (.inl upd_same)) (.cons (.lst (Same.seq sl (sqe ha)) (DpAll.same (c'.fh.trans sl) (dpAll_of pr))) (.cons (Dp.same (c'.fh.trans sl) (EncD.dp r)) .nil)), k, q _ _ _ (c'.drop hl _) sf rfl⟩
/-! ### a call that is handed a variable's own list, and whose result does not lead to it -/
def less (F : Hp) (a : Addr) : Hp := fun b => if b = a then none else F b
class Flat (α : Type) [Enc α] : Prop where
  fl : ∀ {K : PySem.W.Frag} {F : Hp} {v : V} {x : α} {a : Addr} {vs : List V}, rel K F v x → F a = some (.lst vs) → rel K (less F a) v x
instance : Flat Int := ⟨fun h _ => h⟩
instance : Flat Bool := ⟨fun h _ => h⟩
instance : Flat Unit := ⟨fun h _ => h⟩
instance : Flat Str := ⟨fun h _ => h⟩
theorem sqt_less {K : PySem.W.Frag} {F : Hp} {t a : Addr} {xs vs : List V} (h : SqT K F t xs) (e : F a = some (.lst vs)) : SqT K (less F a) t xs := by
  have up : ∀ o, F t = some o → o ≠ .lst vs → less F a t = some o := fun o z n => by
    unfold less
    rw [if_neg (fun w => by subst w; rw [e] at z; exact n (Option.some.inj z).symm)]
    exact z
  rcases h with (h | ⟨o, h⟩) | h
  · exact .inl (.inl (up _ h (by simp)))
  · exact .inl (.inr ⟨o, up _ h (by simp)⟩)
  · exact .inr h
instance {α β : Type} [Enc α] [Enc β] [Flat α] [Flat β] : Flat (α × β) := ⟨fun ⟨t, x, y, e, h, p, q⟩ z => ⟨t, x, y, e, sqt_less h z, Flat.fl p z, Flat.fl q z⟩⟩
instance {α β γ : Type} [Enc α] [Enc β] [Enc γ] [Flat α] [Flat β] [Flat γ] : Flat (Tri α β γ) := ⟨fun ⟨t, x, y, u, e, h, p, q, r⟩ z => ⟨t, x, y, u, e, sqt_less h z, Flat.fl p z, Flat.fl q z, Flat.fl r z⟩⟩
def JX (K : PySem.W.Frag) (d : Addr → Prop) (F0 H0 : Hp) (S : Type) [Slots S] {α A B : Type} [Enc α] [EncA A] (k : Nat) (t : TA) (m : M S B) (ins : List α → B → A) : Prop :=
  ∀ (Z : Hp) (s : S) (σ : L2.St) (F H : Hp), Cx K d F0 H0 Z s σ F H → ∀ a, σ[k]? = some (some (.ref a)) → ∀ y s', m s = some (y, s') → ∀ Q : List V → Hp → Prop,
    (∀ vs F' H', Cx K d F0 H0 Z s' σ F' H' → Same F F' → (∀ F2 x, Same F' F2 → rel K F2 (.ref a) x → EncA.rels K F2 vs (ins x y)) → Q vs H') → t σ H Q
theorem jx_here {α B : Type} [Enc α] [EncA B] {k : Nat} {t : TA} {m : M S B} (h : JA K d F0 H0 S t m) : JX K d F0 H0 S k (tCons (tVar k) t) m (fun (x : List α) y => (x, y)) := by
  intro Z s σ F H c a ha y s' e Q q
  exact r_cons ⟨_, ha, h _ _ _ _ _ c _ _ e _ fun vs F' H' c' sf r => q _ _ _ c' sf fun F2 x s2 rx => ⟨_, _, rfl, rx, EncA.mono s2 r⟩⟩
theorem jx_cons {α β A B : Type} [Enc α] [Enc β] [EncA A] {k : Nat} {t1 : TE} {t : TA} {m1 : M S β} {m : M S B} {ins : List α → B → A} (h1 : JE K d F0 H0 S t1 m1) (h : JX K d F0 H0 S k t m ins) : JX K d F0 H0 S k (tCons t1 t) (consA m1 m) (fun x y => (y.1, ins x y.2)) := by
  intro Z s σ F H c a ha y s' e Q q
  obtain ⟨y1, s1, e1, e⟩ := bnd_some e
  obtain ⟨y2, s2, e2, e⟩ := bnd_some e
  cases e
  exact r_cons (h1 _ _ _ _ _ c _ _ e1 _ fun v F1 H1 c1 q1 r1 => h _ _ _ _ _ c1 a ha _ _ e2 _ fun vs F2 H2 c2 q2 r2 => q _ _ _ c2 (q1.trans q2) fun F3 x s3 rx => ⟨_, _, rfl, Enc.mono (q2.trans s3) r1, r2 F3 x s3 rx⟩)
theorem gr_less {F H F' H' : Hp} {a : Addr} {vs : List V} (fa : F a = none) (ha : H a = some (.lst vs)) (g : Gr (fun _ => False) (upd F a (.lst vs)) H F' H') : Gr (fun _ => False) F H (less F' a) H' ∧ F' a = some (.lst vs) := by
  have ff : F' a = some (.lst vs) := g.ff _ _ upd_same
  refine ⟨⟨fun b o e => ?_, fun b o e => ?_, g.hh, fun b e n => ?_, g.dm⟩, ff⟩
  · have n : b ≠ a := fun z => by subst z; rw [fa] at e; cases e
    unfold less
    rw [if_neg n]
    exact g.ff _ _ (by rw [upd_ne n]; exact e)
  · unfold less at e
    by_cases n : b = a
    · rw [if_pos n] at e; cases e
    · rw [if_neg n] at e; exact g.fh _ _ e
  · unfold less
    by_cases z : b = a
    · rw [if_pos z]
    · rw [if_neg z]
      exact g.fr b (by rw [upd_ne z]; exact e) n
theorem j_callO {α A B γ : Type} [Enc α] [EncA A] [Enc γ] [Flat γ] {f : A → Option γ} {E : XK} {k : Nat} (p : Pos S (Own (List α)) k) {t : TA} {m : M S B} {ins : List α → B → A} (h : JX K d F0 H0 S k t m ins) : JE K d F0 H0 S (tCall (spP K f) [] E t) (ixO p m fun x y => f (ins x y)) := by
  intro Z s σ F H c x s' e Q q
  obtain ⟨x0, i, y, e0, e1, e2, e3⟩ := ixO_some e
  obtain ⟨a, vs0, h1, _, _⟩ := c.peek p e0
  refine r_call (h _ _ _ _ _ c a h1 _ _ e1 _ fun vs F1 H1 c1 q1 r1 => ?_)
  obtain ⟨a', o, h1', ha, ⟨ws, rfl, pr⟩, fa, _⟩ := c1.mut p e2
  rw [h1] at h1'
  cases h1'
  refine ⟨upd F1 a (.lst ws), ins y i, x, fun b u z => ?_, r1 _ _ (Same.new fa) (rel_newl fa pr), e3, fun v F2 H2 g r => ?_⟩
  · by_cases n : b = a
    · subst n; rw [upd_same] at z; rw [← z]; exact ha
    · rw [upd_ne n] at z; exact c1.fh b u z
  · have gl := gr_less fa ha g
    exact q _ _ _ (c1.call gl.1) (q1.trans gl.1.ff) (Flat.fl r gl.2)
theorem jf_callO {α A B γ : Type} [Enc α] [EncA A] [Enc γ] [Flat γ] {f : A → Option (List γ)} {E : XK} {k : Nat} (p : Pos S (Own (List α)) k) {t : TA} {m : M S B} {ins : List α → B → A} (h : JX K d F0 H0 S k t m ins) : JF K d F0 H0 S (tCall (spN K f) [] E t) (ixO p m fun x y => f (ins x y)) := by
  intro Z s σ F H c x s' e Q q
  obtain ⟨x0, i, y, e0, e1, e2, e3⟩ := ixO_some e
  obtain ⟨a, vs0, h1, _, _⟩ := c.peek p e0
  refine r_call (h _ _ _ _ _ c a h1 _ _ e1 _ fun vs F1 H1 c1 q1 r1 => ?_)
  obtain ⟨a', o, h1', ha, ⟨ws, rfl, pr⟩, fa, _⟩ := c1.mut p e2
  rw [h1] at h1'
  cases h1'
  refine ⟨upd F1 a (.lst ws), ins y i, x, fun b u z => ?_, r1 _ _ (Same.new fa) (rel_newl fa pr), e3, fun zs l F2 H2 g hl r => ?_⟩
  · by_cases n : b = a
    · subst n; rw [upd_same] at z; rw [← z]; exact ha
    · rw [upd_ne n] at z; exact c1.fh b u z
  · have gl := gr_less fa ha g
    exact q _ _ _ _ (c1.call gl.1) (q1.trans gl.1.ff) hl (Paired.imp (fun _ _ r => Flat.fl r gl.2) r)
/-! ### a tuple taken apart, its first thing a new list for a variable's own -/
variable {ρ : Type} {RT : S → Hp → VK → ρ → Prop} [RTm RT]
theorem js_asg2O {α β : Type} [Enc α] [Enc β] {i j : Nat} (p : Pos S (Own (List α)) i) (p' : Pos S (Dt β) j) {ta tb : TE} {m : M S (List α)} {n : M S β} (ha : JF K d F0 H0 S ta m) (hb : JE K d F0 H0 S tb n) :
    JS K d F0 H0 S RT (tAsg (tTup (tCons ta (tCons tb tNil))) (gTup K 2 (gCons (gName i) (gCons (gName j) gNil)))) (parOM m n (pOwn p) (pName p')) := by
  intro s σ F H c f e D q
  obtain ⟨x, s1, e1, ea⟩ := bindS_some e
  obtain ⟨y, s2, e2, eb⟩ := bindS_some ea
  cases eb
  refine r_asg (r_tup (r_cons (ha _ _ _ _ _ c _ _ e1 _ fun vs a F1 H1 c1 q1 hp r1 => r_cons (hb _ _ _ _ _ (c1.junk hp (.lst vs)) _ _ e2 _ fun v F2 H2 c2 q2 r2 => r_nil ⟨by show 2 ≤ sizeLine; decide, fun t ht => ?_⟩))))
  have c3 := c2.drop ht (.tup [.ref a, v])
  refine r_gtup (.inl (.inl upd_same)) rfl (r_gcons (r_name (r_gcons (r_name (r_gnil ?_)))))
  exact q _ F2 _ ((c3.ownHeld rfl p ⟨vs, rfl, Paired.imp (fun _ _ => Enc.mono q2) r1⟩).set p' r2) (q1.trans q2)
theorem js_asg3O {α β γ : Type} [Enc α] [Enc β] [Enc γ] {i j k : Nat} (p : Pos S (Own (List α)) i) (p' : Pos S (Dt β) j) (p'' : Pos S (Dt γ) k) {ta tb tc : TE} {m : M S (List α)} {n : M S β} {l : M S γ} (ha : JF K d F0 H0 S ta m) (hb : JE K d F0 H0 S tb n) (hc : JE K d F0 H0 S tc l) :
    JS K d F0 H0 S RT (tAsg (tTup (tCons ta (tCons tb (tCons tc tNil)))) (gTup K 3 (gCons (gName i) (gCons (gName j) (gCons (gName k) gNil))))) (par3OM m n l (pOwn p) (pName p') (pName p'')) := by
  intro s σ F H c f e D q
  obtain ⟨x, s1, e1, ea⟩ := bindS_some e
  obtain ⟨y, s2, e2, eb⟩ := bindS_some ea
  obtain ⟨z, s3, e3, ec⟩ := bindS_some eb
  cases ec
  refine r_asg (r_tup (r_cons (ha _ _ _ _ _ c _ _ e1 _ fun vs a F1 H1 c1 q1 hp r1 => r_cons (hb _ _ _ _ _ (c1.junk hp (.lst vs)) _ _ e2 _ fun v F2 H2 c2 q2 r2 => r_cons (hc _ _ _ _ _ c2 _ _ e3 _ fun w F3 H3 c3 q3 r3 => r_nil ⟨by show 3 ≤ sizeLine; decide, fun t ht => ?_⟩)))))
  have c4 := c3.drop ht (.tup [.ref a, v, w])
  refine r_gtup (.inl (.inl upd_same)) rfl (r_gcons (r_name (r_gcons (r_name (r_gcons (r_name (r_gnil ?_)))))))
  exact q _ F3 _ (((c4.ownHeld rfl p ⟨vs, rfl, Paired.imp (fun _ _ => Enc.mono (q2.trans q3)) r1⟩).set p' (Enc.mono q3 r2)).set p'' r3) (q1.trans (q2.trans q3))
/-! ### None in xs -/
theorem any_none {α : Type} [Enc α] {F : Hp} (fl : ∀ (v : V) (x : Option α), rel K F v x → flatV v = true ∧ eqV v .non = x.isNone) : ∀ {vs : List V} {ys : List (Option α)}, Paired (rel K F) vs ys → inV .non vs = ys.any (·.isNone)
  | _, _, .nil => rfl
  | _, _, .cons a t => by
    have ih := any_none fl t
    unfold inV at ih ⊢
    rw [List.any_cons, List.any_cons, ih, (fl _ _ a).2]
theorem j_noneInO {α : Type} [Enc α] [NotNone α] {neg : Bool} {k : Nat} (p : Pos S (Own (List (Option α))) k) (fl : ∀ (F : Hp) (v : V) (x : Option α), rel K F v x → flatV v = true ∧ eqV v .non = x.isNone) : JE K d F0 H0 S (tOp (rIn K neg) (tC .non) (tVar k)) (op1 (fun xs : List (Option α) => some (if neg then !xs.any (·.isNone) else xs.any (·.isNone))) (rdo p)) := by
  intro Z s σ F H c x s' e Q q
  obtain ⟨y1, s1, e1, e⟩ := bnd_some e
  obtain ⟨e3, rfl⟩ := lft_some e
  cases e3
  obtain ⟨e1, rfl⟩ := rdo_some e1
  obtain ⟨a, vs, h1, ha, r⟩ := c.peek p e1
  refine r_op (r_c ⟨.ref a, h1, a, vs, rfl, .inl (sqe ha), rfl, ?_, ?_⟩)
  · rw [List.all_eq_true]
    intro w hw
    obtain ⟨i, hi⟩ := List.getElem?_of_mem hw
    obtain ⟨y, _, hy⟩ := Paired.getL r hi
    exact (fl _ _ _ hy).1
  · have e : inV .non vs = y1.any (·.isNone) := by
      exact any_none (fl F) r
    rw [e]
    exact q _ _ _ c (Same.refl _) rfl
theorem fl_int {F : Hp} {v : V} {x : Option Int} (h : rel K F v x) : flatV v = true ∧ eqV v .non = x.isNone := by
  cases x with
  | none => cases h; exact ⟨rfl, rfl⟩
  | some x => cases (show v = .int x from h); exact ⟨rfl, rfl⟩
end
end Rm
namespace Rm
open PySem PySem.Spec PyProof.Rows L2 Rg
open Enc (rel)
open Cell (cel)
open Slot (srel)
open Slots (srels)
/-! ### the mirrors' equations -/
theorem nrfl {α : Sort u} {a b : α} (h : a = b) : a = b := h
theorem o_bs {α β : Type} {a : α} {f : α → Option β} : (some a).bind f = f a := nrfl rfl
theorem o_bn {α β : Type} {f : α → Option β} : (none : Option α).bind f = none := nrfl rfl
theorem o_ms {α β : Type} {a : α} {f : α → β} : (some a).map f = some (f a) := nrfl rfl
theorem o_mn {α β : Type} {f : α → β} : (none : Option α).map f = none := nrfl rfl
section
variable {S α β γ A ρ : Type} [Slots S] {s : S}
theorem e_run {m : MS S ρ} : run m s = match m s with | some (.rt r _) => some r | _ => none := nrfl rfl
theorem e_runU {m : MS S Unit} : runU m s = match m s with | some (.rt r _) => some () | some (.nx _) => some () | _ => none := nrfl rfl
theorem e_runS {p : Pos S (Src true) 0} {m : MS S ρ} : runS p m s = match m s with | some (.rt r s') => (match p.get s' with | .at zs => some (r, zs) | .no => none) | _ => none := nrfl rfl
theorem e_pur {x : α} : pur x s = some (x, s) := nrfl rfl
theorem e_bnd {m : M S α} {f : α → M S β} : bnd m f s = (m s).bind fun p => f p.1 p.2 := nrfl rfl
theorem e_lft {o : Option α} : lft o s = o.bind fun x => some (x, s) := nrfl rfl
theorem e_op1 {f : α → Option γ} {m : M S α} : op1 f m s = (m s).bind fun p => (f p.1).bind fun z => some (z, p.2) := nrfl rfl
theorem e_op2 {f : α → β → Option γ} {m : M S α} {n : M S β} : op2 f m n s = (m s).bind fun p => (n p.2).bind fun q => (f p.1 q.1).bind fun z => some (z, q.2) := nrfl rfl
theorem e_rdv [Enc α] {k : Nat} {p : Pos S (Dt α) k} : rdv p s = match p.get s with | .is x => some (x, s) | .no => none := nrfl rfl
theorem e_rdo [Enc α] {k : Nat} {p : Pos S (Own (List α)) k} : rdo p s = match p.get s with | .mine x => some (x, s) | .gone _ => none | .no => none := by
  unfold rdo
  cases p.get s <;> rfl
theorem e_giv [Enc α] {k : Nat} {p : Pos S (Own (List α)) k} : giv p s = match p.get s with | .mine x => some (x, p.put s (.gone x)) | .gone x => some (x, s) | .no => none := nrfl rfl
theorem e_takM [Enc α] {k : Nat} {p : Pos S (Own (List α)) k} : takM p s = match p.get s with | .mine x => some (x, p.put s .no) | .gone _ => none | .no => none := by
  unfold takM
  cases p.get s <;> rfl
theorem e_rdS {b : Bool} {k : Nat} {p : Pos S (Src b) k} : rdS p s = match p.get s with | .at zs => some (zs, s) | .no => none := nrfl rfl
theorem e_ixSM {b : Bool} {k : Nat} {p : Pos S (Src b) k} {m : M S Int} : ixSM p m s = (rdS p s).bind fun p1 => (m p1.2).bind fun i => (rdS p i.2).bind fun x => (atI x.1 i.1).bind fun z => some (z, x.2) := nrfl rfl
theorem e_ixO [Enc α] {k : Nat} {p : Pos S (Own (List α)) k} {m : M S β} {f : List α → β → Option γ} : ixO p m f s = (rdo p s).bind fun p1 => (m p1.2).bind fun i => (rdo p i.2).bind fun x => (f x.1 i.1).bind fun z => some (z, x.2) := nrfl rfl
theorem e_srcM {b : Bool} {k : Nat} {p : Pos S (Src b) k} {f : List Int → A → Option (γ × List Int)} {m : M S A} : srcM p f m s = match p.get s with
  | .at _ => (m s).bind fun x => match p.get x.2 with | .at zs => (f zs x.1).bind fun r => some (r.1, p.put x.2 (.at r.2)) | .no => none
  | .no => none := nrfl rfl
theorem e_andM {m n : M S Bool} : andM m n s = (m s).bind fun p => if p.1 = true then n p.2 else some (false, p.2) := by
  unfold andM bnd
  cases m s with
  | none => rfl
  | some p => cases h : p.1 <;> simp [h, pur]
theorem e_orM {m n : M S Bool} : orM m n s = (m s).bind fun p => if p.1 = true then some (true, p.2) else n p.2 := by
  unfold orM bnd
  cases m s with
  | none => rfl
  | some p => cases h : p.1 <;> simp [h, pur]
theorem e_ifM {c : M S Bool} {m n : M S α} : ifM c m n s = (c s).bind fun p => if p.1 = true then m p.2 else n p.2 := by
  unfold ifM bnd
  cases c s with
  | none => rfl
  | some p => cases h : p.1 <;> simp [h]
theorem e_chainM {f : α → β → Option Bool} {g : β → γ → Option Bool} {m : M S α} {n : M S β} {l : M S γ} : chainM f g m n l s = (m s).bind fun p => (n p.2).bind fun q => (f p.1 q.1).bind fun b => if b = true then (l q.2).bind fun r => (g q.1 r.1).bind fun z => some (z, r.2) else some (false, q.2) := by
  unfold chainM bnd lft
  cases m s with
  | none => rfl
  | some p =>
    show ((n p.2).bind _) = ((n p.2).bind _)
    cases n p.2 with
    | none => rfl
    | some q =>
      show (((f p.1 q.1).bind _).bind _) = ((f p.1 q.1).bind _)
      cases f p.1 q.1 with
      | none => rfl
      | some b => cases b <;> rfl
theorem e_nilM : nilM (α := α) s = some ([], s) := nrfl rfl
theorem e_consM {m : M S α} {n : M S (List α)} : consM m n s = (m s).bind fun p => (n p.2).bind fun q => some (p.1 :: q.1, q.2) := nrfl rfl
theorem e_nilA : nilA s = some ((), s) := nrfl rfl
theorem e_consA {m : M S α} {n : M S A} : consA m n s = (m s).bind fun p => (n p.2).bind fun q => some ((p.1, q.1), q.2) := nrfl rfl
theorem e_slice {m : M S (List α)} {l h : M S (Option Int)} : sliceM m l h s = (m s).bind fun p => (l p.2).bind fun q => (h q.2).bind fun r => some (cutL p.1 q.1 r.1, r.2) := nrfl rfl
theorem e_lcM {mi : M S (List α)} {wp : S → S} {put : α → S → Option S} {mt : M S Bool} {me : M S β} : lcM mi wp put mt me s = (mi s).bind fun p => if p.1.length ≤ 100000 then lcL wp put mt me p.1 p.2 else none := by
  unfold lcM bnd
  cases mi s with
  | none => rfl
  | some p =>
    simp only [Option.bind_some]
    by_cases h : p.1.length ≤ 100000
    · rw [if_pos h, if_pos h]
    · rw [if_neg h, if_neg h]
-- statements
theorem e_nextM : nextM (ρ := ρ) s = some (.nx s) := nrfl rfl
theorem e_seqM {a b : MS S ρ} : seqM a b s = (a s).bind fun f => match f with | .nx s' => b s' | .rt r s' => some (.rt r s') | .bk s' => some (.bk s') | .ct s' => some (.ct s') := nrfl rfl
theorem e_retM {m : M S ρ} : retM m s = (m s).bind fun p => some (.rt p.1 p.2) := nrfl rfl
theorem e_dropM {m : M S α} : dropM (ρ := ρ) m s = (m s).bind fun p => some (.nx p.2) := nrfl rfl
theorem e_ifS {c : M S Bool} {a b : MS S ρ} : ifS c a b s = (c s).bind fun p => if p.1 = true then a p.2 else b p.2 := by
  unfold ifS bindS
  cases c s with
  | none => rfl
  | some p => cases h : p.1 <;> simp [h]
theorem e_asgM {m : M S α} {put : α → S → Option S} : asgM (ρ := ρ) m put s = (m s).bind fun p => (put p.1 p.2).bind fun s' => some (.nx s') := by
  unfold asgM bindS
  cases m s with
  | none => rfl
  | some p =>
    show (put p.1 p.2).map _ = (put p.1 p.2).bind _
    cases put p.1 p.2 <;> rfl
theorem e_parM {m : M S (α × β × Unit)} {f : α → S → Option S} {g : β → S → Option S} : parM (ρ := ρ) m f g s = (m s).bind fun p => (f p.1.1 p.2).bind fun s1 => (g p.1.2.1 s1).bind fun s2 => some (.nx s2) := by
  unfold parM bindS
  cases m s with
  | none => rfl
  | some p =>
    show ((f p.1.1 p.2).bind _).map _ = (f p.1.1 p.2).bind _
    cases f p.1.1 p.2 with
    | none => rfl
    | some s1 => show (g p.1.2.1 s1).map _ = (g p.1.2.1 s1).bind _; cases g p.1.2.1 s1 <;> rfl
theorem e_par3M {m : M S (α × β × γ × Unit)} {f : α → S → Option S} {g : β → S → Option S} {h : γ → S → Option S} : par3M (ρ := ρ) m f g h s = (m s).bind fun p => (f p.1.1 p.2).bind fun s1 => (g p.1.2.1 s1).bind fun s2 => (h p.1.2.2.1 s2).bind fun s3 => some (.nx s3) := by
  unfold par3M bindS
  cases m s with
  | none => rfl
  | some p =>
    show (((f p.1.1 p.2).bind _).bind _).map _ = (f p.1.1 p.2).bind _
    cases f p.1.1 p.2 with
    | none => rfl
    | some s1 =>
      show ((g p.1.2.1 s1).bind _).map _ = (g p.1.2.1 s1).bind _
      cases g p.1.2.1 s1 with
      | none => rfl
      | some s2 => show (h p.1.2.2.1 s2).map _ = (h p.1.2.2.1 s2).bind _; cases h p.1.2.2.1 s2 <;> rfl
theorem e_parOM {m : M S α} {n : M S β} {f : α → S → Option S} {g : β → S → Option S} : parOM (ρ := ρ) m n f g s = (m s).bind fun p => (n p.2).bind fun q => (f p.1 q.2).bind fun s1 => (g q.1 s1).bind fun s2 => some (.nx s2) := by
  unfold parOM bindS
  cases m s with
  | none => rfl
  | some p =>
    show (n p.2).bind _ = (n p.2).bind _
    cases n p.2 with
    | none => rfl
    | some q =>
      show ((f p.1 q.2).bind _).map _ = (f p.1 q.2).bind _
      cases f p.1 q.2 with
      | none => rfl
      | some s1 => show (g q.1 s1).map _ = (g q.1 s1).bind _; cases g q.1 s1 <;> rfl
theorem e_par3OM {m : M S α} {n : M S β} {l : M S γ} {f : α → S → Option S} {g : β → S → Option S} {h : γ → S → Option S} : par3OM (ρ := ρ) m n l f g h s = (m s).bind fun p => (n p.2).bind fun q => (l q.2).bind fun r => (f p.1 r.2).bind fun s1 => (g q.1 s1).bind fun s2 => (h r.1 s2).bind fun s3 => some (.nx s3) := by
  unfold par3OM bindS
  cases m s with
  | none => rfl
  | some p =>
    show (n p.2).bind _ = (n p.2).bind _
    cases n p.2 with
    | none => rfl
    | some q =>
      show (l q.2).bind _ = (l q.2).bind _
      cases l q.2 with
      | none => rfl
      | some r =>
        show (((f p.1 r.2).bind _).bind _).map _ = (f p.1 r.2).bind _
        cases f p.1 r.2 with
        | none => rfl
        | some s1 =>
          show ((g q.1 s1).bind _).map _ = (g q.1 s1).bind _
          cases g q.1 s1 with
          | none => rfl
          | some s2 => show (h r.1 s2).map _ = (h r.1 s2).bind _; cases h r.1 s2 <;> rfl
theorem e_augM [Enc α] {k : Nat} {p : Pos S (Dt α) k} {m : M S β} {f : α → β → α} : augM (ρ := ρ) p m f s = match p.get s with | .is x => (m s).bind fun y => some (.nx (p.put y.2 (.is (f x y.1)))) | .no => none := by
  unfold augM
  cases p.get s with
  | no => rfl
  | «is» x => show (m s).map _ = (m s).bind _; cases m s <;> rfl
theorem e_forM {m : M S (List α)} {put : α → S → Option S} {b : MS S ρ} : forM m put b s = (m s).bind fun p => forL put b p.1 p.2 := nrfl rfl
theorem e_appM [Enc α] {k : Nat} {p : Pos S (Own (List α)) k} {m : M S α} : appM (ρ := ρ) p m s = (rdo p s).bind fun p1 => (m p1.2).bind fun y => (rdo p y.2).bind fun xs => if xs.1.length < 100000 then some (.nx (p.put xs.2 (.mine (xs.1 ++ [y.1])))) else none := nrfl rfl
theorem e_setM [Enc α] {k : Nat} {p : Pos S (Own (List α)) k} {mv : M S α} {mi : M S Int} : setM (ρ := ρ) p mv mi s = (mv s).bind fun y => (rdo p y.2).bind fun p1 => (mi p1.2).bind fun i => (rdo p i.2).bind fun xs => (ixN xs.1.length i.1).map fun j => .nx (p.put xs.2 (.mine (xs.1.set j y.1))) := nrfl rfl
theorem e_setSM {b : Bool} {k : Nat} {p : Pos S (Src b) k} {mv : M S Int} {mi : M S Int} : setSM (ρ := ρ) p mv mi s = (mv s).bind fun y => (rdS p y.2).bind fun p1 => (mi p1.2).bind fun i => (rdS p i.2).bind fun xs => (ixN xs.1.length i.1).map fun j => .nx (p.put xs.2 (.at (xs.1.set j y.1))) := nrfl rfl
theorem e_pName [Enc α] {k : Nat} {p : Pos S (Dt α) k} {x : α} : pName p x s = some (p.put s (.is x)) := nrfl rfl
theorem e_pTwo {f : α → S → Option S} {g : β → S → Option S} {x : α × β} : pTwo f g x s = (f x.1 s).bind (g x.2) := nrfl rfl
theorem e_pTri {f : α → S → Option S} {g : β → S → Option S} {h : γ → S → Option S} {x : Tri α β γ} : pTri f g h x s = ((f x.a s).bind (g x.b)).bind (h x.c) := nrfl rfl
theorem e_pOwn [Enc α] {k : Nat} {p : Pos S (Own (List α)) k} {x : List α} : pOwn p x s = some (p.put s (.mine x)) := nrfl rfl
theorem e_wnil {s : S} : (Wp.nil (S := S)).wp s = s := nrfl rfl
end
section
variable {τ τ' S α : Type} [Slot τ] [Slot τ'] [Slots S] {k : Nat}
theorem e_hget {s : τ × S} : (Pos.here (τ := τ) (S := S)).get s = s.1 := nrfl rfl
theorem e_hput {s : τ × S} {x : τ} : (Pos.here (τ := τ) (S := S)).put s x = (x, s.2) := nrfl rfl
theorem e_tget {p : Pos S τ k} {s : τ' × S} : (Pos.there (τ' := τ') p).get s = p.get s.2 := nrfl rfl
theorem e_tput {p : Pos S τ k} {s : τ' × S} {x : τ} : (Pos.there (τ' := τ') p).put s x = (s.1, p.put s.2 x) := nrfl rfl
end
theorem e_wcons {S α : Type} [Slots S] [Enc α] {k : Nat} {vs : List Nat} {p : Pos S (Dt α) k} {w : Wp S vs} {h : ∀ s, p.get (w.wp (p.put s .no)) = .no} {s : S} : (Wp.cons p w h).wp s = w.wp (p.put s .no) := nrfl rfl
theorem shortL_of {α : Type} {xs : List α} (h : xs.length ≤ 100000) : shortL xs = some xs := if_pos h
theorem at3_0 {x y z : Int} : atI [x, y, z] 0 = some x := nrfl rfl
theorem at3_1 {x y z : Int} : atI [x, y, z] 1 = some y := nrfl rfl
theorem at3_2 {x y z : Int} : atI [x, y, z] 2 = some z := nrfl rfl
theorem ix3_0 : ixN 3 0 = some 0 := nrfl rfl
theorem ix3_2 : ixN 3 2 = some 2 := nrfl rfl
theorem gMod_of {x y : Int} (h : 0 < y) : gMod x y = some (x % y) := if_pos h
theorem gDiv_of {x y : Int} (h : 0 < y) (h2 : y.natAbs < 2 ^ 8000) : gDiv x y = some (x / y) := by unfold gDiv; exact if_pos ⟨h, h2⟩
theorem gMul_of {x y : Int} (h : x.natAbs < 2 ^ 50000) (h2 : y.natAbs < 2 ^ 50000) : gMul x y = some (x * y) := by unfold gMul; exact if_pos ⟨h, h2⟩
theorem gPow_of {x y : Int} (h : 0 ≤ y) (h1 : y ≤ 1000) (h2 : x.natAbs < 2 ^ 100000) : gPow x y = some (x ^ y.toNat) := by unfold gPow; exact if_pos ⟨h, h1, h2⟩
end Rm
namespace Rm
open PySem PySem.Spec PyProof.Rows L2 Rg
open Enc (rel)
open Cell (cel)
open Slot (srel)
open Slots (srels)
/-! ### loops and comprehensions of mirrors -/
theorem lcL_map {S α β : Type} {wp : S → S} {put : α → S → Option S} {mt : M S Bool} {me : M S β} {s0 : S} (b : α → Bool) (g : α → β) (s1 : α → S) :
    ∀ (xs : List α) (s : S), wp s = s0 → (∀ x ∈ xs, put x s0 = some (s1 x) ∧ mt (s1 x) = some (b x, s1 x) ∧ (b x = true → me (s1 x) = some (g x, s1 x)) ∧ wp (s1 x) = s0) → lcL wp put mt me xs s = some ((xs.filter b).map g, s0)
  | [], s, h0, _ => by unfold lcL; rw [h0]; rfl
  | x :: xs, s, h0, h => by
    obtain ⟨h1, h2, h3, h4⟩ := h x (List.mem_cons_self ..)
    have ih := lcL_map b g s1 xs (s1 x) h4 fun y hy => h y (List.mem_cons_of_mem _ hy)
    unfold lcL
    rw [h0, h1]
    simp only [Option.bind_some, h2]
    cases hb : b x with
    | true =>
      rw [if_pos rfl, h3 hb]
      simp only [Option.bind_some, ih, Option.map_some]
      rw [List.filter_cons_of_pos hb, List.map_cons]
    | false =>
      rw [if_neg (by simp), ih, List.filter_cons_of_neg (by simp [hb])]
/-- every item, no test -/
theorem lcL_all {S α β : Type} {wp : S → S} {put : α → S → Option S} {me : M S β} {s0 : S} (g : α → β) (s1 : α → S) (xs : List α) (s : S) (h0 : wp s = s0) (h : ∀ x ∈ xs, put x s0 = some (s1 x) ∧ me (s1 x) = some (g x, s1 x) ∧ wp (s1 x) = s0) :
    lcL wp put (pur true) me xs s = some (xs.map g, s0) := by
  have := lcL_map (mt := pur true) (fun _ => true) g s1 xs s h0 fun x hx => ⟨(h x hx).1, rfl, fun _ => (h x hx).2.1, (h x hx).2.2⟩
  rw [this, List.filter_eq_self.mpr (fun _ _ => rfl)]
theorem forL_ind {S α ρ : Type} {put : α → S → Option S} {b : MS S ρ} (I : Nat → S → Prop) {xs : List α} (h : ∀ i x s, xs[i]? = some x → I i s → ∃ s1 s2, put x s = some s1 ∧ b s1 = some (.nx s2) ∧ I (i + 1) s2) {s : S} (h0 : I 0 s) :
    ∃ s', forL put b xs s = some (.nx s') ∧ I xs.length s' := by
  have go : ∀ (m i : Nat) (s : S), i + m = xs.length → I i s → ∃ s', forL put b (xs.drop i) s = some (.nx s') ∧ I xs.length s' := by
    intro m
    induction m with
    | zero =>
      intro i s e hi
      have e : i = xs.length := by omega
      subst e
      rw [List.drop_length]
      exact ⟨s, rfl, hi⟩
    | succ m ih =>
      intro i s e hi
      have hl : i < xs.length := by omega
      obtain ⟨s1, s2, e1, e2, i2⟩ := h i xs[i] s (List.getElem?_eq_getElem hl) hi
      obtain ⟨s', e3, i3⟩ := ih (i + 1) s2 (by omega) i2
      refine ⟨s', ?_, i3⟩
      rw [List.drop_eq_getElem_cons hl]
      unfold forL
      simp only [e1, Option.bind_some, e2, e3]
  obtain ⟨s', e, i⟩ := go xs.length 0 s (by omega) h0
  exact ⟨s', e, i⟩
/-- turns of a loop that may all be made, one after the other -/
theorem whileL_ind {S ρ : Type} {c : M S Bool} {b : MS S ρ} (I : Nat → S → Prop) (T : S → Prop) (h0 : ∀ s, I 0 s → ∃ s', c s = some (false, s') ∧ T s') (h1 : ∀ n s, I (n + 1) s → ∃ s1 s2, c s = some (true, s1) ∧ b s1 = some (.nx s2) ∧ I n s2) :
    ∀ (n k : Nat) (s : S), n < k → I n s → ∃ s', whileL c b k s = some (.nx s') ∧ T s'
  | n, 0, s, h, _ => by omega
  | 0, k + 1, s, _, i => by
    obtain ⟨s', e, t⟩ := h0 s i
    refine ⟨s', ?_, t⟩
    unfold whileL
    simp [e]
  | n + 1, k + 1, s, h, i => by
    obtain ⟨s1, s2, e1, e2, i2⟩ := h1 n s i
    obtain ⟨s', e, t⟩ := whileL_ind I T h0 h1 n k s2 (by omega) i2
    refine ⟨s', ?_, t⟩
    unfold whileL
    simp [e1, e2, e]
theorem enumL_mem {α : Type} {xs : List α} {p : Int × α} (h : p ∈ enumL xs) : ∃ n : Nat, p.1 = n ∧ xs[n]? = some p.2 := by
  obtain ⟨n, hn⟩ := List.getElem?_of_mem h
  unfold enumL at hn
  rw [List.getElem?_zip_eq_some] at hn
  obtain ⟨h1, h2⟩ := rgL_get hn.1
  exact ⟨n, by rw [h2, Int.zero_add], hn.2⟩
theorem mem_enumL {α : Type} {xs : List α} {n : Nat} {x : α} (h : xs[n]? = some x) : ((n : Int), x) ∈ enumL xs := by
  refine List.mem_of_getElem? (i := n) ?_
  unfold enumL
  rw [List.getElem?_zip_eq_some]
  refine ⟨?_, h⟩
  unfold rgL
  rw [List.getElem?_map, List.getElem?_range (List.getElem?_eq_some_iff.mp h).1]
  simp
theorem enumL_len {α : Type} {xs : List α} : (enumL xs).length = xs.length := by simp [enumL, rgL_len]
theorem enumL_sorted {α : Type} {xs : List α} : (enumL xs).Pairwise fun p q => p.1 < q.1 := by
  rw [List.pairwise_iff_getElem]
  intro i j hi hj hij
  have a : (enumL xs)[i]? = some (enumL xs)[i] := List.getElem?_eq_getElem hi
  have b : (enumL xs)[j]? = some (enumL xs)[j] := List.getElem?_eq_getElem hj
  unfold enumL at a b
  rw [List.getElem?_zip_eq_some] at a b
  have a := (rgL_get a.1).2
  have b := (rgL_get b.1).2
  unfold enumL
  rw [a, b]
  omega
theorem atI_nat' {α : Type} {xs : List α} {n : Nat} : atI xs (n : Int) = xs[n]? := by
  unfold atI ixN
  rw [if_pos (by omega)]
  by_cases h : n < xs.length
  · rw [if_pos (by omega)]
    simp
  · rw [if_neg (by omega), List.getElem?_eq_none (by omega)]
    rfl
theorem ixN_nat {n i : Nat} (h : i < n) : ixN n (i : Int) = some i := by
  unfold ixN
  rw [if_pos (by omega), if_pos (by omega)]
  simp
theorem lexLt2 {a b c d : Int} : HT.lexLt [a, b] [c, d] = decide (a < c ∨ (a = c ∧ b < d)) := by
  rw [HT.lexLt_cons]
  by_cases h : a = c
  · subst h
    rw [if_pos rfl, HT.lexLt_cons]
    by_cases k : b = d
    · subst k; rw [if_pos rfl, HT.lexLt_nil_nil]; simp
    · rw [if_neg k]; simp
  · rw [if_neg h]; simp [h]
/-- the least of pairs -/
theorem minTu2_spec : ∀ {xs : List (Int × Int)}, xs ≠ [] → ∃ r, minTu xs = some r ∧ r ∈ xs ∧ ∀ x ∈ xs, r.1 < x.1 ∨ (r.1 = x.1 ∧ r.2 ≤ x.2)
  | [], h => absurd rfl h
  | x :: xs, _ => by
    have go : ∀ (ys : List (Int × Int)) (b : Int × Int), ∃ r, ys.foldl (fun b y => if HT.lexLt (TupI.nums y) (TupI.nums b) then y else b) b = r ∧ (r = b ∨ r ∈ ys) ∧ (∀ x ∈ ys, r.1 < x.1 ∨ (r.1 = x.1 ∧ r.2 ≤ x.2)) ∧ (r.1 < b.1 ∨ (r.1 = b.1 ∧ r.2 ≤ b.2)) := by
      intro ys
      induction ys with
      | nil => intro b; exact ⟨b, rfl, .inl rfl, (fun x h => by cases h), .inr ⟨rfl, Int.le_refl _⟩⟩
      | cons y ys ih =>
        intro b
        rw [List.foldl_cons]
        by_cases h : HT.lexLt (TupI.nums y) (TupI.nums b) = true
        · rw [if_pos h]
          have h2 : y.1 < b.1 ∨ (y.1 = b.1 ∧ y.2 < b.2) := by
            have := lexLt2 (a := y.1) (b := y.2) (c := b.1) (d := b.2)
            rw [show HT.lexLt [y.1, y.2] [b.1, b.2] = true from h] at this
            exact of_decide_eq_true this.symm
          obtain ⟨r, e, m, a1, a2⟩ := ih y
          refine ⟨r, e, ?_, fun x hx => ?_, by omega⟩
          · rcases m with rfl | m
            · exact .inr (List.mem_cons_self ..)
            · exact .inr (List.mem_cons_of_mem _ m)
          · rcases List.mem_cons.mp hx with rfl | hx
            · exact a2
            · exact a1 x hx
        · rw [if_neg h]
          have h2 : ¬ (y.1 < b.1 ∨ (y.1 = b.1 ∧ y.2 < b.2)) := by
            have := lexLt2 (a := y.1) (b := y.2) (c := b.1) (d := b.2)
            intro z
            rw [decide_eq_true z] at this
            exact h this
          obtain ⟨r, e, m, a1, a2⟩ := ih b
          refine ⟨r, e, ?_, fun x hx => ?_, a2⟩
          · rcases m with rfl | m
            · exact .inl rfl
            · exact .inr (List.mem_cons_of_mem _ m)
          · rcases List.mem_cons.mp hx with rfl | hx
            · omega
            · exact a1 x hx
    obtain ⟨r, e, m, a1, a2⟩ := go xs x
    refine ⟨r, congrArg some e, ?_, fun y hy => ?_⟩
    · rcases m with rfl | m
      · exact List.mem_cons_self ..
      · exact List.mem_cons_of_mem _ m
    · rcases List.mem_cons.mp hy with rfl | hy
      · exact a2
      · exact a1 y hy
end Rm
namespace Rm
open PySem PySem.Spec PyProof.Rows L2 Rg
open Enc (rel)
open Cell (cel)
open Slot (srel)
open Slots (srels)
/-! ### dicts by ints, a variable's own -/
def DI.get {α : Type} (d : DI α) (k : Int) : Option α := (d.kvs.find? fun p => decide (p.1 = k)).map (·.2)
def DI.set {α : Type} (d : DI α) (k : Int) (v : α) : DI α := ⟨if (d.kvs.any fun p => decide (p.1 = k)) = true then d.kvs.map (fun p => if p.1 = k then (p.1, v) else p) else d.kvs ++ [(k, v)]⟩
abbrev KvR (K : PySem.W.Frag) (F : Hp) {α : Type} [Enc α] : Key × V → Int × α → Prop := fun p q => p.1 = .inl q.1 ∧ rel K F p.2 q.2
section
variable {K : PySem.W.Frag} {F : Hp} {α : Type} [Enc α]
theorem di_get {k : Int} : ∀ {kvs : List (Key × V)} {xs : List (Int × α)}, Paired (KvR K F) kvs xs → (∀ y, (DI.mk xs).get k = some y → ∃ v, valV kvs (Sum.inl k) = some v ∧ rel K F v y) ∧ ((DI.mk xs).get k = none → valV kvs (Sum.inl k) = none)
  | _, _, .nil => ⟨fun y h => (nomatch h), fun _ => rfl⟩
  | _, _, .cons (a := a) (b := b) ⟨h1, h2⟩ t => by
    have ih := di_get (k := k) t
    unfold DI.get at ih ⊢
    unfold valV at ih ⊢
    by_cases e : b.1 = k
    · subst e
      rw [List.find?_cons_of_pos (by simp), List.find?_cons_of_pos (by simp [h1])]
      exact ⟨fun y h => by cases h; exact ⟨_, rfl, h2⟩, fun h => (nomatch h)⟩
    · rw [List.find?_cons_of_neg (by simp [e]), List.find?_cons_of_neg (by simp [h1, e])]
      exact ih
theorem di_any {k : Int} : ∀ {kvs : List (Key × V)} {xs : List (Int × α)}, Paired (KvR K F) kvs xs → (kvs.any fun kv => decide (kv.1 = Sum.inl k)) = xs.any fun p => decide (p.1 = k)
  | _, _, .nil => rfl
  | _, _, .cons ⟨h1, h2⟩ t => by rw [List.any_cons, List.any_cons, di_any t, h1]; simp
theorem di_map {k : Int} {v : V} {y : α} (r : rel K F v y) : ∀ {kvs : List (Key × V)} {xs : List (Int × α)}, Paired (KvR K F) kvs xs → Paired (KvR K F) (kvs.map fun kv => if kv.1 = Sum.inl k then (kv.1, v) else kv) (xs.map fun p => if p.1 = k then (p.1, y) else p)
  | _, _, .nil => .nil
  | _, _, .cons (a := a) (b := b) ⟨h1, h2⟩ t => by
    rw [List.map_cons, List.map_cons]
    refine .cons ?_ (di_map r t)
    by_cases e : b.1 = k
    · rw [if_pos e, if_pos (by rw [h1, e])]
      exact ⟨h1, r⟩
    · rw [if_neg e, if_neg (by rw [h1]; intro z; exact e (Sum.inl.inj z))]
      exact ⟨h1, h2⟩
theorem di_put {k : Int} {v : V} {y : α} (r : rel K F v y) {kvs : List (Key × V)} {xs : List (Int × α)} (p : Paired (KvR K F) kvs xs) : Paired (KvR K F) (putK kvs (Sum.inl k) v) ((DI.mk xs).set k y).kvs := by
  unfold putK DI.set
  rw [di_any p]
  by_cases h : (xs.any fun p => decide (p.1 = k)) = true
  · rw [if_pos h]
    show Paired _ _ (if _ then _ else _)
    rw [if_pos h]
    exact di_map r p
  · rw [if_neg h]
    show Paired _ _ (if _ then _ else _)
    rw [if_neg h]
    exact Paired.append p (.cons ⟨rfl, r⟩ .nil)
theorem di_keys : ∀ {kvs : List (Key × V)} {xs : List (Int × α)}, Paired (KvR K F) kvs xs → kvs.map (·.1) = (xs.map (·.1)).map Sum.inl
  | _, _, .nil => rfl
  | _, _, .cons h t => by rw [List.map_cons, List.map_cons, List.map_cons, di_keys t, h.1]
end
section
variable {K : PySem.W.Frag} {d : Addr → Prop} {F0 H0 : Hp} {S : Type} [Slots S]
def rdd {S α : Type} [Slots S] [Enc α] {k : Nat} (p : Pos S (Own (DI α)) k) : M S (DI α) := fun s => match p.get s with | .mine x => some (x, s) | .gone _ => none | .no => none
theorem rdd_some {α : Type} [Enc α] {k : Nat} {p : Pos S (Own (DI α)) k} {s s' : S} {x : DI α} (h : rdd p s = some (x, s')) : p.get s = .mine x ∧ s' = s := by
  unfold rdd at h
  cases e : p.get s with
  | no => rw [e] at h; cases h
  | mine y => rw [e] at h; cases h; exact ⟨rfl, rfl⟩
  | gone y => rw [e] at h; cases h
theorem Cx.peekD {α : Type} [Enc α] {Z : Hp} {s : S} {σ : L2.St} {F H : Hp} {k : Nat} (c : Cx K d F0 H0 Z s σ F H) (p : Pos S (Own (DI α)) k) {x : DI α} (e : p.get s = .mine x) : ∃ a kvs, σ[k]? = some (some (.ref a)) ∧ H a = some (.dK kvs) ∧ Paired (KvR K F) kvs x.kvs := by
  obtain ⟨a, o, h1, ha, ⟨kvs, rfl, r⟩, _⟩ := c.mut p e
  exact ⟨a, kvs, h1, ha, r⟩
variable {ρ : Type} {RT : S → Hp → VK → ρ → Prop} [RTm RT]
theorem js_dnew {α : Type} [Enc α] {k : Nat} (p : Pos S (Own (DI α)) k) : JS K d F0 H0 S RT (tAsg tDNewK (gName k)) (fun s => some (.nx (p.put s (.mine ⟨[]⟩)))) := by
  intro s σ F H c f e D q
  cases e
  refine r_asg fun a ha => r_name (q _ F _ (c.own p ha ⟨[], rfl, .nil⟩) (Same.refl _))
def dgetM {S α γ : Type} [Slots S] [Enc α] {k : Nat} (p : Pos S (Own (DI α)) k) (m : M S γ) (f : DI α → γ → Option α) : M S α := bnd (rdd p) fun _ => bnd m fun i => bnd (rdd p) fun x => lft (f x i)
theorem dgetM_some {α γ : Type} [Enc α] {k : Nat} {p : Pos S (Own (DI α)) k} {m : M S γ} {f : DI α → γ → Option α} {s s' : S} {z : α} (h : dgetM p m f s = some (z, s')) : ∃ x0 i x, p.get s = .mine x0 ∧ m s = some (i, s') ∧ p.get s' = .mine x ∧ f x i = some z := by
  obtain ⟨y0, s0, e0, e⟩ := bnd_some h
  obtain ⟨e0, rfl⟩ := rdd_some e0
  obtain ⟨y1, s1, e1, e⟩ := bnd_some e
  obtain ⟨y2, s2, e2, e⟩ := bnd_some e
  obtain ⟨e3, rfl⟩ := lft_some e
  obtain ⟨e2, rfl⟩ := rdd_some e2
  exact ⟨y0, y1, y2, e0, e1, e2, e3⟩
/-- d[k] -/
theorem j_dget {α : Type} [Enc α] {k : Nat} (p : Pos S (Own (DI α)) k) {t : TE} {m : M S Int} (h : JE K d F0 H0 S t m) : JE K d F0 H0 S (tDGet (tVar k) t) (dgetM p m fun x i => x.get i) := by
  intro Z s σ F H c x s' e Q q
  obtain ⟨x0, i, y, e0, e1, e2, e3⟩ := dgetM_some e
  obtain ⟨a, kvs, h1, _, _⟩ := c.peekD p e0
  refine ⟨.ref a, h1, h _ _ _ _ _ c _ _ e1 _ fun v F' H' c' sf r => ?_⟩
  cases r
  obtain ⟨a', kvs, h1', ha, pr⟩ := c'.peekD p e2
  rw [h1] at h1'
  cases h1'
  obtain ⟨v, hv, rv⟩ := (di_get (k := i) pr).1 x e3
  have g := DGet.k (k := (Sum.inl i : Key)) ha
  rw [hv] at g
  exact ⟨a, v, rfl, g, q _ _ _ c' sf rv⟩
/-- d.get(k, x) -/
theorem j_dget2 {α : Type} [Enc α] {k : Nat} (p : Pos S (Own (DI α)) k) {t u : TE} {m : M S Int} {n : M S α} (h : JE K d F0 H0 S t m) (h' : JE K d F0 H0 S u n) : JE K d F0 H0 S (tDGet2 (tVar k) t u) (dgetM p (bnd m fun i => bnd n fun z => pur (i, z)) fun x i => some ((x.get i.1).getD i.2)) := by
  intro Z s σ F H c x s' e Q q
  obtain ⟨x0, i, y, e0, e1, e2, e3⟩ := dgetM_some e
  obtain ⟨k1, s1, e4, e1⟩ := bnd_some e1
  obtain ⟨z1, s2, e5, e1⟩ := bnd_some e1
  cases e1
  cases e3
  obtain ⟨a, kvs, h1, ha, _⟩ := c.peekD p e0
  refine ⟨.ref a, h1, a, rfl, .inl ⟨kvs, .inl ha⟩, h _ _ _ _ _ c _ _ e4 _ fun v F' H' c' sf r => h' _ _ _ _ _ c' _ _ e5 _ fun w F2 H2 c2 sf2 r2 => ?_⟩
  cases r
  obtain ⟨a', kvs, h1', ha, pr⟩ := c2.peekD p e2
  rw [h1] at h1'
  cases h1'
  have g := DGet.k (k := (Sum.inl k1 : Key)) ha
  refine ⟨valV kvs (Sum.inl k1), g, q _ _ _ c2 (sf.trans sf2) ?_⟩
  cases e6 : y.get k1 with
  | none =>
    rw [(di_get (k := k1) pr).2 e6]
    exact r2
  | some z =>
    obtain ⟨v, hv, rv⟩ := (di_get (k := k1) pr).1 z e6
    rw [hv]
    exact rv
/-- d[k] = x -/
def dputM {S α ρ : Type} [Slots S] [Enc α] {k : Nat} (p : Pos S (Own (DI α)) k) (mv : M S α) (mi : M S Int) : MS S ρ := bindS mv fun y => bindS (rdd p) fun _ => bindS mi fun i => bindS (rdd p) fun x s => if x.kvs.length < 100000 then some (.nx (p.put s (.mine (x.set i y)))) else none
theorem js_dput {α : Type} [Enc α] {k : Nat} (p : Pos S (Own (DI α)) k) {t ti : TE} {mv : M S α} {mi : M S Int} (h : JE K d F0 H0 S t mv) (hi : JE K d F0 H0 S ti mi) : JS K d F0 H0 S RT (sDPut (tVar k) ti t) (dputM p mv mi) := by
  intro s σ F H c f e D q
  obtain ⟨y, s1, e1, ea⟩ := bindS_some e
  obtain ⟨x0, s0, eb, ec⟩ := bindS_some ea
  obtain ⟨e0, es⟩ := rdd_some eb
  rw [es] at ec
  obtain ⟨i, s2, e2, ed⟩ := bindS_some ec
  obtain ⟨xs, s3, ef, eg⟩ := bindS_some ed
  obtain ⟨e3, es3⟩ := rdd_some ef
  rw [es3] at eg
  obtain ⟨hl, rfl⟩ := ite_some eg
  refine h _ _ _ _ _ c _ _ e1 _ fun v F' H' c' sf r => ?_
  obtain ⟨a, kvs, h1, ha, _⟩ := c'.peekD p e0
  refine ⟨.ref a, h1, hi _ _ _ _ _ c' _ _ e2 _ fun w F2 H2 c2 sf2 r2 => ?_⟩
  cases r2
  obtain ⟨a', o, h1', ha', ⟨kvs', rfl, pr⟩, _, k⟩ := c2.mut p e3
  rw [h1] at h1'
  cases h1'
  refine ⟨a, _, rfl, DPut.k (k := (Sum.inl i : Key)) ha' (by rw [Paired.length pr]; exact Nat.lt_of_lt_of_le hl (by decide)), q _ F2 _ (k _ (xs.set i y) ⟨_, rfl, di_put (Enc.mono sf2 r) pr⟩) (sf.trans sf2)⟩
/-- sorted(d) -/
theorem jf_sortedD {α : Type} [Enc α] {k : Nat} (p : Pos S (Own (DI α)) k) : JF K d F0 H0 S (tCB (fun xs H Q => ∃ (a : Addr) (kvs : List (Key × V)) (ks : List Int), xs = [V.ref a] ∧ Rd H a (.dK kvs) ∧ kvs.map (·.1) = ks.map Sum.inl ∧ ks.length < 64 ∧ ∀ (ys : List Int) (p : Addr), ys.Perm ks → ys.Pairwise (· ≤ ·) → H p = none → Q (V.ref p) (upd H p (.lst (ys.map V.int)))) (tCons (tVar k) tNil))
    (bnd (rdd p) fun x => lft (if x.kvs.length < 64 then some (sortI (x.kvs.map (·.1))) else none)) := by
  intro Z s σ F H c x s' e Q q
  obtain ⟨y1, s1, e1, e⟩ := bnd_some e
  obtain ⟨e3, rfl⟩ := lft_some e
  obtain ⟨hl, rfl⟩ := ite_some e3
  obtain ⟨e1, rfl⟩ := rdd_some e1
  obtain ⟨a, kvs, h1, ha, pr⟩ := c.peekD p e1
  refine r_cb (r_cons ⟨.ref a, h1, r_nil ⟨a, kvs, y1.kvs.map (·.1), rfl, .inl ha, di_keys pr, by rw [List.length_map]; exact hl, fun ys l p1 p2 hp => ?_⟩⟩)
  have e := sorted_unique (p1.trans (sortI_perm _).symm) p2 (sortI_sorted _)
  subst e
  exact q _ _ _ _ c (Same.refl _) hp (Paired.ofmap (R := rel K F) (f := V.int) (fun _ => rfl) _)
theorem e_rdd {α : Type} [Enc α] {k : Nat} {p : Pos S (Own (DI α)) k} {s : S} : rdd p s = match p.get s with | .mine x => some (x, s) | .gone _ => none | .no => none := nrfl rfl
theorem e_dgetM {α γ : Type} [Enc α] {k : Nat} {p : Pos S (Own (DI α)) k} {m : M S γ} {f : DI α → γ → Option α} {s : S} : dgetM p m f s = (rdd p s).bind fun p1 => (m p1.2).bind fun i => (rdd p i.2).bind fun x => (f x.1 i.1).bind fun z => some (z, x.2) := nrfl rfl
theorem e_dputM {α : Type} [Enc α] {k : Nat} {p : Pos S (Own (DI α)) k} {mv : M S α} {mi : M S Int} {s : S} : dputM (ρ := ρ) p mv mi s = (mv s).bind fun y => (rdd p y.2).bind fun p1 => (mi p1.2).bind fun i => (rdd p i.2).bind fun x => if x.1.kvs.length < 100000 then some (.nx (p.put x.2 (.mine (x.1.set i.1 y.1)))) else none := nrfl rfl
/-! ### sorted(set(..)) of ints, divmod -/
def ddL : List Int → List Int
  | [] => []
  | x :: xs => if x ∈ ddL xs then ddL xs else x :: ddL xs
theorem ddL_mem {y : Int} : ∀ {xs : List Int}, y ∈ ddL xs ↔ y ∈ xs
  | [] => Iff.rfl
  | x :: xs => by
    unfold ddL
    by_cases h : x ∈ ddL xs
    · rw [if_pos h, ddL_mem (xs := xs), List.mem_cons]
      refine ⟨.inr, fun z => ?_⟩
      rcases z with rfl | z
      · exact ddL_mem.mp h
      · exact z
    · rw [if_neg h, List.mem_cons, List.mem_cons, ddL_mem (xs := xs)]
theorem ddL_nodup : ∀ {xs : List Int}, (ddL xs).Nodup
  | [] => List.nodup_nil
  | x :: xs => by
    unfold ddL
    by_cases h : x ∈ ddL xs
    · rw [if_pos h]; exact ddL_nodup
    · rw [if_neg h]; exact List.nodup_cons.mpr ⟨h, ddL_nodup⟩
theorem ddL_len : ∀ {xs : List Int}, (ddL xs).length ≤ xs.length
  | [] => Nat.le_refl _
  | x :: xs => by
    have := ddL_len (xs := xs)
    unfold ddL
    split
    · rw [List.length_cons]; omega
    · rw [List.length_cons, List.length_cons]; omega
/-- ascending, each once -/
def usort (xs : List Int) : List Int := sortI (ddL xs)
theorem usort_mem {xs : List Int} {y : Int} : y ∈ usort xs ↔ y ∈ xs := (sortI_perm _).mem_iff.trans ddL_mem
theorem usort_asc (xs : List Int) : (usort xs).Pairwise (· < ·) := by
  have h1 := sortI_sorted (ddL xs)
  have h2 : (usort xs).Nodup := (sortI_perm _).nodup_iff.mpr ddL_nodup
  have h3 : (usort xs).Pairwise (· ≠ ·) := h2
  exact (h1.and h3).imp fun ⟨a, b⟩ => by omega
theorem asc_unique : ∀ {xs ys : List Int}, xs.Pairwise (· < ·) → ys.Pairwise (· < ·) → (∀ k, k ∈ xs ↔ k ∈ ys) → xs = ys
  | [], [], _, _, _ => rfl
  | [], y :: ys, _, _, h => absurd ((h y).mpr (List.mem_cons_self ..)) (by simp)
  | x :: xs, [], _, _, h => absurd ((h x).mp (List.mem_cons_self ..)) (by simp)
  | x :: xs, y :: ys, hx, hy, h => by
    rw [List.pairwise_cons] at hx hy
    have e : x = y := by
      rcases List.mem_cons.mp ((h x).mp (List.mem_cons_self ..)) with e | h1
      · exact e
      · rcases List.mem_cons.mp ((h y).mpr (List.mem_cons_self ..)) with e | h2
        · exact e.symm
        · have a := hx.1 _ h2
          have b := hy.1 _ h1
          omega
    subst e
    congr 1
    refine asc_unique hx.2 hy.2 fun k => ⟨fun z => ?_, fun z => ?_⟩
    · rcases List.mem_cons.mp ((h k).mp (List.mem_cons_of_mem _ z)) with e | h1
      · have := hx.1 _ z; omega
      · exact h1
    · rcases List.mem_cons.mp ((h k).mpr (List.mem_cons_of_mem _ z)) with e | h1
      · have := hy.1 _ z; omega
      · exact h1
@[irreducible] def gUsort (xs : List Int) : Option (List Int) := if xs.length < 64 then some (usort xs) else none
theorem jf_sortedSet {w : World} {t : TE} {m : M S (List Int)} (h : JE K d F0 H0 S t m) : JF K d F0 H0 S (tCB (rSortedSet w) (tCons (tCB (rSetOfL K w) (tCons t tNil)) tNil)) (op1 gUsort m) := by
  intro Z s σ F H c x s' e Q q
  obtain ⟨y1, s1, e1, e⟩ := bnd_some e
  obtain ⟨e3, rfl⟩ := lft_some e
  unfold gUsort at e3
  obtain ⟨hl, rfl⟩ := ite_some e3
  refine r_cb (r_cons (r_cb (r_cons (h _ _ _ _ _ c _ _ e1 _ fun v F1 H1 c1 q1 r1 => r_nil ?_))))
  obtain ⟨a, vs, rfl, hs, p⟩ := r1
  have e := paired_ints p
  subst e
  refine ⟨a, y1, rfl, Same.seq c1.fh hs, by omega, fun l cc hp hc => r_nil ⟨l, _, cc, rfl, upd_same, by omega, fun ns l2 n1 n2 _ hp2 => ?_⟩⟩
  have eu : ns = usort y1 := asc_unique n1 (usort_asc _) fun k => by rw [n2 k, usort_mem]; simp
  subst eu
  exact q _ _ F1 _ (c1.drop hp _) q1 hp2 (Paired.ofmap (R := rel K F1) (f := V.int) (fun _ => rfl) _)
@[irreducible] def gDivmod (i j : Int) : Option (Int × Int) := if 0 < j ∧ j < 1073741824 then some (i / j, i % j) else none
theorem rb_divmod : RB K d F0 H0 S (fun xs H Q => ∃ i j, xs = [.int i, .int j] ∧ CDiv i j ∧ ∀ p, H p = none → Q (.ref p) (upd H p (.tup [.int (i / j), .int (i % j)]))) (fun x : Int × Int × Unit => gDivmod x.1 x.2.1) := by
  intro Z s σ F H c vs x z r e Q q
  unfold gDivmod at e
  obtain ⟨k, rfl⟩ := ite_some e
  obtain ⟨v, ws, rfl, r, w, us, rfl, r2, rfl⟩ := r
  cases r
  cases r2
  refine ⟨_, _, rfl, ⟨k.1, k.2⟩, fun p hp => ?_⟩
  have n := c.new hp (.tup [.int (x.1 / x.2.1), .int (x.1 % x.2.1)])
  exact q _ _ _ n.1 n.2 ⟨p, _, _, rfl, .inl (.inl upd_same), rfl, rfl⟩
/-! ### a written tuple gone over; a new list as the second of two -/
theorem it_tup {α : Type} [Enc α] {F : Hp} {a : Addr} {vs : List V} {xs : List α} (h : SqT K F a vs) (p : Paired (rel K F) vs xs) : ItOk K (Itt K a) F xs where
  stop := fun F2 H2 s1 s2 => ⟨vs, SqT.same (SqT.same h s1) s2, by rw [Paired.length p]; exact Nat.le_refl _⟩
  go := fun i F2 H2 hi s1 s2 => by
    obtain ⟨x, hx⟩ := get_of (xs := vs) (i := i) (by rw [Paired.length p]; exact hi)
    exact ⟨vs, x, SqT.same (SqT.same h s1) s2, hx⟩
  yld := fun i x F2 H2 v H3 e s1 s2 y => by
    obtain ⟨rfl, y⟩ := y
    obtain ⟨w, h1, h2⟩ := Paired.getR p e
    have q := y _ (SqT.same (SqT.same h s1) s2)
    rw [h1] at q
    cases q
    exact .inl ⟨rfl, Enc.mono s1 h2⟩
theorem ji_tup3 {α : Type} [Enc α] {t : TE} {m : M S (Tri α α α)} (h : JE K d F0 H0 S t m) : JI K d F0 H0 S (iTup K t) (op1 (fun x => some [x.a, x.b, x.c]) m) := by
  intro Z s σ F H c xs s' e R q
  obtain ⟨y1, s1, e1, e⟩ := bnd_some e
  obtain ⟨e3, rfl⟩ := lft_some e
  cases e3
  refine h _ _ _ _ _ c _ _ e1 _ fun v F1 H1 c1 q1 r1 => ?_
  obtain ⟨a, x, y, z, rfl, hs, p1, p2, p3⟩ := r1
  exact ⟨a, rfl, ⟨_, SqT.same hs c1.fh⟩, q _ _ _ c1 q1 (it_tup hs (.cons p1 (.cons p2 (.cons p3 .nil))))⟩
theorem ji_tup2 {α : Type} [Enc α] {t : TE} {m : M S (α × α)} (h : JE K d F0 H0 S t m) : JI K d F0 H0 S (iTup K t) (op1 (fun x => some [x.1, x.2]) m) := by
  intro Z s σ F H c xs s' e R q
  obtain ⟨y1, s1, e1, e⟩ := bnd_some e
  obtain ⟨e3, rfl⟩ := lft_some e
  cases e3
  refine h _ _ _ _ _ c _ _ e1 _ fun v F1 H1 c1 q1 r1 => ?_
  obtain ⟨a, x, y, rfl, hs, p1, p2⟩ := r1
  exact ⟨a, rfl, ⟨_, SqT.same hs c1.fh⟩, q _ _ _ c1 q1 (it_tup hs (.cons p1 (.cons p2 .nil)))⟩
def parXM {S α β ρ : Type} (m : M S α) (n : M S β) (f : α → S → Option S) (g : β → S → Option S) : MS S ρ := bindS m fun x => bindS n fun y s => ((f x s).bind (g y)).map .nx
theorem js_parX {α β : Type} [Enc α] [Enc β] {i j : Nat} (p : Pos S (Dt α) i) (p' : Pos S (Own (List β)) j) {ta tb : TE} {m : M S α} {n : M S (List β)} (ha : JE K d F0 H0 S ta m) (hb : JF K d F0 H0 S tb n) : JS K d F0 H0 S RT (tPar i j (tCons ta (tCons tb tNil))) (parOM m n (pName p) (pOwn p')) := by
  intro s σ F H c f e D q
  obtain ⟨x, s1, e1, ea⟩ := bindS_some e
  obtain ⟨y, s2, e2, eb⟩ := bindS_some ea
  cases eb
  refine r_par (r_cons (ha _ _ _ _ _ c _ _ e1 _ fun v F1 H1 c1 q1 r1 => r_cons (hb _ _ _ _ _ c1 _ _ e2 _ fun vs a F2 H2 c2 q2 hp r2 => r_nil ?_)))
  exact ⟨_, _, rfl, q _ F2 _ ((c2.set p (Enc.mono q2 r1)).own p' hp ⟨vs, rfl, r2⟩) (q1.trans q2)⟩
end
theorem hu1 {A : Around} {k : Nat} (hr : Room k A) : A.units + 1 < cLine := by
  have := hu64 hr
  omega
end Rm
namespace Rm
open PySem PySem.Spec PyProof.Rows L2 Rg
open Enc (rel)
open Cell (cel)
open Slot (srel)
open Slots (srels)
theorem Paired.erase {α β : Type} {R : α → β → Prop} : ∀ (i : Nat) {xs : List α} {ys : List β}, Paired R xs ys → Paired R (xs.eraseIdx i) (ys.eraseIdx i)
  | _, _, _, .nil => .nil
  | 0, _, _, .cons _ t => t
  | i + 1, _, _, .cons q t => .cons q (Paired.erase i t)
theorem seqI_of {n : Nat} {i : Int} (h0 : 0 ≤ i) (h : i.toNat < n) : seqIndex? i n = some i.toNat := by
  unfold seqIndex?
  have e : (if i < 0 then i + (n : Int) else i) = i := if_neg (by omega)
  simp only [e]
  rw [if_pos]
  rw [decide_eq_true h0, decide_eq_true (show i < n by omega)]
  rfl
/-! ### xs.pop(i) of a variable's own list -/
def popM {S α : Type} [Slots S] [Enc α] {k : Nat} (p : Pos S (Own (List α)) k) (m : M S Int) : M S α := bnd (rdo p) fun _ => bnd m fun i => bnd (rdo p) fun xs s => if 0 ≤ i ∧ i < 2 ^ 62 then xs[i.toNat]?.map fun y => (y, p.put s (.mine (xs.eraseIdx i.toNat))) else none
theorem e_popM {S α : Type} [Slots S] [Enc α] {k : Nat} {p : Pos S (Own (List α)) k} {m : M S Int} {s : S} : popM p m s = (rdo p s).bind fun p1 => (m p1.2).bind fun i => (rdo p i.2).bind fun x => if 0 ≤ i.1 ∧ i.1 < 2 ^ 62 then x.1[i.1.toNat]?.map fun y => (y, p.put x.2 (.mine (x.1.eraseIdx i.1.toNat))) else none := nrfl rfl
section
variable {K : PySem.W.Frag} {d : Addr → Prop} {F0 H0 : Hp} {S : Type} [Slots S]
theorem j_pop {α : Type} [Enc α] {k : Nat} (p : Pos S (Own (List α)) k) {t : TE} {m : M S Int} (h : JE K d F0 H0 S t m) : JE K d F0 H0 S (tBM K "list" rPopAt (tVar k) (tCons t tNil)) (popM p m) := by
  intro Z s σ F H c y s' e Q q
  obtain ⟨x0, s0, ea, eb⟩ := bnd_some e
  obtain ⟨e0, es⟩ := rdo_some ea
  rw [es] at eb
  obtain ⟨i, s1, e1, ec⟩ := bnd_some eb
  obtain ⟨xs, s2, ed, ef⟩ := bnd_some ec
  obtain ⟨e2, es2⟩ := rdo_some ed
  rw [es2] at ef
  have hi : 0 ≤ i ∧ i < 2 ^ 62 := by
    by_cases z : 0 ≤ i ∧ i < 2 ^ 62
    · exact z
    · rw [if_neg z] at ef; cases ef
  rw [if_pos hi] at ef
  have eg := ef
  cases gy : xs[i.toNat]? with
  | none => rw [gy] at eg; cases eg
  | some y' =>
    rw [gy] at eg
    cases eg
    obtain ⟨a, vs, h1, ha, _⟩ := c.peek p e0
    refine r_bm ⟨.ref a, h1, .inl ⟨rfl, _, sqe ha⟩, r_cons (h _ _ _ _ _ c _ _ e1 _ fun v F' H' c' sf r => r_nil ?_)⟩
    cases r
    obtain ⟨a', o, h1', ha', ⟨vs', rfl, pr⟩, _, k⟩ := c'.mut p e2
    rw [h1] at h1'
    cases h1'
    obtain ⟨w, gw, rw'⟩ := Paired.getR pr gy
    have hl : i.toNat < vs'.length := by
      rcases Nat.lt_or_ge i.toNat vs'.length with z | z
      · exact z
      · rw [List.getElem?_eq_none z] at gw; cases gw
    exact ⟨a, vs', i, i.toNat, w, rfl, rfl, ha', by omega, by omega, seqI_of hi.1 hl, gw, q _ _ _ (k _ (xs.eraseIdx i.toNat) ⟨_, rfl, Paired.erase i.toNat pr⟩) sf rw'⟩
variable {ρ : Type} {RT : S → Hp → VK → ρ → Prop} [RTm RT]
theorem js_parOO {α β : Type} [Enc α] [Enc β] {i j : Nat} (p : Pos S (Own (List α)) i) (p' : Pos S (Own (List β)) j) {ta tb : TE} {m : M S (List α)} {n : M S (List β)} (ha : JF K d F0 H0 S ta m) (hb : JF K d F0 H0 S tb n) : JS K d F0 H0 S RT (tPar i j (tCons ta (tCons tb tNil))) (parOM m n (pOwn p) (pOwn p')) := by
  intro s σ F H c f e D q
  obtain ⟨x, s1, e1, ea⟩ := bindS_some e
  obtain ⟨y, s2, e2, eb⟩ := bindS_some ea
  cases eb
  refine r_par (r_cons (ha _ _ _ _ _ c _ _ e1 _ fun vs a F1 H1 c1 q1 hp r1 => r_cons (hb _ _ _ _ _ (c1.junk hp (.lst vs)) _ _ e2 _ fun vs2 a2 F2 H2 c2 q2 hp2 r2 => r_nil ?_)))
  exact ⟨_, _, rfl, q _ F2 _ ((c2.ownHeld rfl p ⟨vs, rfl, Paired.imp (fun _ _ => Enc.mono q2) r1⟩).own p' hp2 ⟨vs2, rfl, r2⟩) (q1.trans q2)⟩
end
end Rm
namespace Option
@[irreducible] def bnd {α β : Type} (o : Option α) (f : α → Option β) : Option β := o.bind f
theorem bnd_eq {α β : Type} (o : Option α) (f : α → Option β) : o.bnd f = o.bind f := by unfold bnd; rfl
theorem bnd_some {α β : Type} (a : α) (f : α → Option β) : (some a).bnd f = f a := by unfold bnd; rfl
theorem bnd_none {α β : Type} (f : α → Option β) : (none : Option α).bnd f = none := by unfold bnd; rfl
end Option
namespace Rm
open PySem PySem.Spec PyProof.Rows L2 Rg
open Enc (rel)
open Cell (cel)
open Slot (srel)
open Slots (srels)
/-! ### plain functions that stand for mirrors -/
abbrev pairM {S α β : Type} (ma : M S α) (mb : M S β) : M S (α × β) := bnd ma fun x => bnd mb fun y => pur (x, y)
class BR {γ δ : Type} (Q : Option γ → Option δ → Prop) : Prop where
  bnd : ∀ {τ : Type} (t : Option τ) {f : τ → Option γ} {g : τ → Option δ}, (∀ x, Q (f x) (g x)) → Q (t.bind f) (t.bnd g)
instance {γ : Type} : BR (fun a b : Option γ => a = b) := ⟨fun {τ} t {f g} h => by
  rw [Option.bnd_eq]
  cases t with
  | none => rfl
  | some x => exact h x⟩
/-- a value under a name -/
@[irreducible] def letO {α β : Type} (v : α) (f : α → β) : β := f v
theorem letO_eq {α β : Type} {v : α} {f : α → β} : letO v f = f v := by unfold letO; rfl
theorem bnd_r {α : Type} {o : Option α} : o.bind some = o := by cases o <;> rfl
theorem br_none {γ δ : Type} {Q : Option γ → Option δ → Prop} [BR Q] : Q none none := by
  have h := BR.bnd (Q := Q) (τ := Empty) none (f := fun _ => none) (g := fun _ => none) (fun x => nomatch x)
  rw [Option.bnd_none] at h
  exact h
inductive Re (σ ρ : Type) | nx (s : σ) | rt (r : ρ)
def foldO {α σ : Type} (B : σ → α → Option σ) : List α → σ → Option σ
  | [], s => some s
  | x :: xs, s => (B s x).bind (foldO B xs)
def loopO {α σ ρ : Type} (B : σ → α → Option (Re σ ρ)) : List α → σ → Option (Re σ ρ)
  | [], s => some (.nx s)
  | x :: xs, s => (B s x).bind fun f => match f with | .nx s' => loopO B xs s' | .rt r => some (.rt r)
def whileO {σ : Type} (C : σ → Option Bool) (B : σ → Option σ) : Nat → σ → Option σ
  | 0, _ => none
  | n + 1, s => (C s).bind fun c => if c = true then (B s).bind (whileO C B n) else some s
def whileR {σ ρ : Type} (C : σ → Option Bool) (B : σ → Option (Re σ ρ)) : Nat → σ → Option (Re σ ρ)
  | 0, _ => none
  | n + 1, s => (C s).bind fun c => if c = true then (B s).bind fun f => (match f with | .nx s' => whileR C B n s' | .rt r => some (.rt r)) else some (.nx s)
def mapO {α β : Type} (g : α → Option β) : List α → Option (List β)
  | [] => some []
  | x :: xs => (g x).bind fun y => (mapO g xs).bind fun ys => some (y :: ys)
def fmapO {α β : Type} (t : α → Option Bool) (g : α → Option β) : List α → Option (List β)
  | [] => some []
  | x :: xs => (t x).bind fun b => if b = true then (g x).bind fun y => (fmapO t g xs).bind fun ys => some (y :: ys) else fmapO t g xs
def mapS {α β σ : Type} (g : σ → α → Option (β × σ)) : List α → σ → Option (List β × σ)
  | [], s => some ([], s)
  | x :: xs, s => (g s x).bind fun y => (mapS g xs y.2).bind fun ys => some (y.1 :: ys.1, ys.2)
def short {α : Type} (xs : List α) : Option Unit := if xs.length ≤ 100000 then some () else none
def fits {α : Type} (xs : List α) : Option Unit := if xs.length < 100000 then some () else none
/-- where the state is, whatever junk stands in its other slots -/
def QN0 {S σ ρ : Type} (R : S → σ → Prop) (a : Option (Fl S ρ)) (b : Option σ) : Prop := match b with | none => a = none | some x => ∃ s, a = some (.nx s) ∧ R s x
def QR0 {S σ ρ ρ' : Type} (R : S → σ → Prop) (RR : S → ρ → ρ' → Prop) (a : Option (Fl S ρ)) (b : Option (Re σ ρ')) : Prop := match b with
  | none => a = none
  | some (.nx x) => ∃ s, a = some (.nx s) ∧ R s x
  | some (.rt r') => ∃ s r, a = some (.rt r s) ∧ RR s r r'
structure QN {S σ ρ : Type} (R : S → σ → Prop) (a : Option (Fl S ρ)) (b : Option σ) : Prop where
  p : QN0 R a b
structure QR {S σ ρ ρ' : Type} (R : S → σ → Prop) (RR : S → ρ → ρ' → Prop) (a : Option (Fl S ρ)) (b : Option (Re σ ρ')) : Prop where
  p : QR0 R RR a b
def QE0 {S α β : Type} (R : S → α → β → Prop) (a : Option (α × S)) (b : Option β) : Prop := match b with | none => a = none | some y => ∃ x s, a = some (x, s) ∧ R s x y
structure QE {S α β : Type} (R : S → α → β → Prop) (a : Option (α × S)) (b : Option β) : Prop where
  p : QE0 R a b
instance {S σ ρ : Type} {R : S → σ → Prop} : BR (QN (ρ := ρ) R) := ⟨fun {τ} t {f g} h => by
  rw [Option.bnd_eq]
  cases t with
  | none => exact ⟨rfl⟩
  | some x => exact h x⟩
instance {S σ ρ ρ' : Type} {R : S → σ → Prop} {RR : S → ρ → ρ' → Prop} : BR (QR R RR) := ⟨fun {τ} t {f g} h => by
  rw [Option.bnd_eq]
  cases t with
  | none => exact ⟨rfl⟩
  | some x => exact h x⟩
instance {S α β : Type} {R : S → α → β → Prop} : BR (QE R) := ⟨fun {τ} t {f g} h => by
  rw [Option.bnd_eq]
  cases t with
  | none => exact ⟨rfl⟩
  | some x => exact h x⟩
section
variable {S α β γ δ τ A ρ : Type} [Slots S] {s s' s1 : S} {γ' δ' : Type} {Q : Option γ' → Option δ' → Prop} [BR Q]
-- values
theorem v_pur {x : α} : pur x s = some (x, s) := rfl
theorem v_rdv [Enc α] {k : Nat} {p : Pos S (Dt α) k} {x : α} (h : p.get s = .is x) : rdv p s = some (x, s) := by unfold rdv; rw [h]
theorem v_rdo [Enc α] {k : Nat} {p : Pos S (Own (List α)) k} {x : List α} (h : p.get s = .mine x) : rdo p s = some (x, s) := by unfold rdo; rw [h]
theorem v_rdd [Enc α] {k : Nat} {p : Pos S (Own (DI α)) k} {x : DI α} (h : p.get s = .mine x) : rdd p s = some (x, s) := by unfold rdd; rw [h]
theorem v_rdS {b : Bool} {k : Nat} {p : Pos S (Src b) k} {x : List Int} (h : p.get s = .at x) : rdS p s = some (x, s) := by unfold rdS; rw [h]
theorem v_givG [Enc α] {k : Nat} {p : Pos S (Own (List α)) k} {x : List α} (h : p.get s = .gone x) : giv p s = some (x, s) := by unfold giv; rw [h]
theorem v_op1 {f : α → Option γ} {m : M S α} {x : α} {z : γ} (h : m s = some (x, s)) (e : f x = some z) : op1 f m s = some (z, s) := by rw [e_op1, h]; simp only [Option.bind_some, e]
theorem v_op2 {f : α → β → Option γ} {m : M S α} {n : M S β} {x : α} {y : β} {z : γ} (h : m s = some (x, s)) (k : n s = some (y, s)) (e : f x y = some z) : op2 f m n s = some (z, s) := by rw [e_op2, h]; simp only [Option.bind_some, k, e]
theorem v_nilM : nilM (α := α) s = some ([], s) := rfl
theorem v_consM {m : M S α} {n : M S (List α)} {x : α} {y : List α} (h : m s = some (x, s)) (k : n s = some (y, s)) : consM m n s = some (x :: y, s) := by rw [e_consM, h]; simp only [Option.bind_some, k]
theorem v_nilA : nilA s = some ((), s) := rfl
theorem v_consA {m : M S α} {n : M S A} {x : α} {y : A} (h : m s = some (x, s)) (k : n s = some (y, s)) : consA m n s = some ((x, y), s) := by rw [e_consA, h]; simp only [Option.bind_some, k]
theorem v_slice {m : M S (List α)} {l h : M S (Option Int)} {x : List α} {a b : Option Int} (e1 : m s = some (x, s)) (e2 : l s = some (a, s)) (e3 : h s = some (b, s)) : sliceM m l h s = some (cutL x a b, s) := by
  rw [e_slice, e1]; simp only [Option.bind_some, e2, e3]
theorem v_and {m n : M S Bool} {x y : Bool} (h : m s = some (x, s)) (k : n s = some (y, s)) : andM m n s = some (x && y, s) := by rw [e_andM, h]; simp only [Option.bind_some]; cases x <;> simp [k]
theorem v_or {m n : M S Bool} {x y : Bool} (h : m s = some (x, s)) (k : n s = some (y, s)) : orM m n s = some (x || y, s) := by rw [e_orM, h]; simp only [Option.bind_some]; cases x <;> simp [k]
theorem v_if {c : M S Bool} {m n : M S α} {b : Bool} {x y : α} (h : c s = some (b, s)) (k : m s = some (x, s)) (l : n s = some (y, s)) : ifM c m n s = some (if b = true then x else y, s) := by
  rw [e_ifM, h]; simp only [Option.bind_some]; cases b <;> simp [k, l]
theorem v_chain {f : α → β → Option Bool} {g : β → γ → Option Bool} {m : M S α} {n : M S β} {l : M S γ} {x : α} {y : β} {z : γ} {b c : Bool} (h : m s = some (x, s)) (k : n s = some (y, s)) (k2 : l s = some (z, s)) (e : f x y = some b) (e2 : g y z = some c) :
    chainM f g m n l s = some (b && c, s) := by
  rw [e_chainM, h]; simp only [Option.bind_some, k, e]; cases b <;> simp [k2, e2]
theorem v_pair {m : M S α} {n : M S β} {x : α} {y : β} (h : m s = some (x, s)) (k : n s = some (y, s)) : pairM m n s = some ((x, y), s) := v_consA h k
theorem k_pairM {m : M S α} {n : M S β} {k : (α × β) × S → Option γ'} {o : Option δ'} (K : Q ((m s).bind fun p => (n p.2).bind fun q => k ((p.1, q.1), q.2)) o) : Q ((pairM m n s).bind k) o := by
  show Q ((consA m n s).bind k) o
  rw [e_consA, Option.bind_assoc]; simp only [Option.bind_assoc, Option.bind_some]; exact K
theorem k_ixO [Enc α] {k : Nat} {p : Pos S (Own (List α)) k} {m : M S β} {f : List α → β → Option γ} {x : List α} {k' : γ × S → Option γ'} {o : Option δ'} (h : p.get s = .mine x)
    (K : Q ((m s).bind fun q => (rdo p q.2).bind fun r => (f r.1 q.1).bind fun z => k' (z, r.2)) o) : Q ((ixO p m f s).bind k') o := by
  rw [e_ixO, v_rdo h]; simp only [Option.bind_assoc, Option.bind_some]; exact K
theorem k_dgetM [Enc α] {k : Nat} {p : Pos S (Own (DI α)) k} {m : M S γ} {f : DI α → γ → Option α} {x : DI α} {k' : α × S → Option γ'} {o : Option δ'} (h : p.get s = .mine x)
    (K : Q ((m s).bind fun q => (rdd p q.2).bind fun r => (f r.1 q.1).bind fun z => k' (z, r.2)) o) : Q ((dgetM p m f s).bind k') o := by
  rw [e_dgetM, v_rdd h]; simp only [Option.bind_assoc, Option.bind_some]; exact K
theorem v_ixO [Enc α] {k : Nat} {p : Pos S (Own (List α)) k} {m : M S β} {f : List α → β → Option γ} {x : List α} {y : β} {z : γ} (h : p.get s = .mine x) (e : m s = some (y, s)) (e2 : f x y = some z) : ixO p m f s = some (z, s) := by
  rw [e_ixO, v_rdo h]; simp only [Option.bind_some, e, v_rdo h, e2]
-- going on
theorem k_v {m : M S α} {v : α} {k : α × S → Option γ'} {o : Option δ'} (h : m s = some (v, s)) (K : Q (k (v, s)) o) : Q ((m s).bind k) o := by rw [h]; exact K
/-- partial, its parts values -/
theorem k_o {m : M S α} {k : α × S → Option γ'} {t : Option α} {o : α → Option δ'} (h : m s = t.bind fun x => some (x, s)) (K : ∀ x, Q (k (x, s)) (o x)) : Q ((m s).bind k) (t.bnd o) := by
  rw [h, Option.bind_assoc]
  exact BR.bnd t fun x => K x
theorem o_op1 {f : α → Option γ} {m : M S α} {x : α} {t : Option γ} (h : m s = some (x, s)) (e : f x = t) : op1 f m s = t.bind fun z => some (z, s) := by rw [e_op1, h]; simp only [Option.bind_some, e]
theorem o_op2 {f : α → β → Option γ} {m : M S α} {n : M S β} {x : α} {y : β} {t : Option γ} (h : m s = some (x, s)) (k : n s = some (y, s)) (e : f x y = t) : op2 f m n s = t.bind fun z => some (z, s) := by rw [e_op2, h]; simp only [Option.bind_some, k, e]
theorem o_ixO [Enc α] {k : Nat} {p : Pos S (Own (List α)) k} {m : M S β} {f : List α → β → Option γ} {x : List α} {y : β} {t : Option γ} (h : p.get s = .mine x) (e : m s = some (y, s)) (e2 : f x y = t) : ixO p m f s = t.bind fun z => some (z, s) := by
  rw [e_ixO, v_rdo h]; simp only [Option.bind_some, e, v_rdo h, e2]
theorem o_ixS {b : Bool} {k : Nat} {p : Pos S (Src b) k} {m : M S Int} {x : List Int} {y : Int} {t : Option Int} (h : p.get s = .at x) (e : m s = some (y, s)) (e2 : atI x y = t) : ixSM p m s = t.bind fun z => some (z, s) := by
  rw [e_ixSM, v_rdS h]; simp only [Option.bind_some, e, v_rdS h, e2]
theorem o_dget [Enc α] {k : Nat} {p : Pos S (Own (DI α)) k} {m : M S γ} {f : DI α → γ → Option α} {x : DI α} {y : γ} {t : Option α} (h : p.get s = .mine x) (e : m s = some (y, s)) (e2 : f x y = t) : dgetM p m f s = t.bind fun z => some (z, s) := by
  rw [e_dgetM, v_rdd h]; simp only [Option.bind_some, e, v_rdd h, e2]
/-- parts that are no values -/
theorem k_op1 {f : α → Option γ} {m : M S α} {k : γ × S → Option γ'} {o : Option δ'} (K : Q ((m s).bind fun p => (f p.1).bind fun z => k (z, p.2)) o) : Q ((op1 f m s).bind k) o := by
  rw [e_op1, Option.bind_assoc]; simp only [Option.bind_assoc, Option.bind_some]; exact K
theorem k_op2 {f : α → β → Option γ} {m : M S α} {n : M S β} {k : γ × S → Option γ'} {o : Option δ'} (K : Q ((m s).bind fun p => (n p.2).bind fun q => (f p.1 q.1).bind fun z => k (z, q.2)) o) : Q ((op2 f m n s).bind k) o := by
  rw [e_op2, Option.bind_assoc]; simp only [Option.bind_assoc, Option.bind_some]; exact K
theorem k_consA {m : M S α} {n : M S A} {k : (α × A) × S → Option γ'} {o : Option δ'} (K : Q ((m s).bind fun p => (n p.2).bind fun q => k ((p.1, q.1), q.2)) o) : Q ((consA m n s).bind k) o := by
  rw [e_consA, Option.bind_assoc]; simp only [Option.bind_assoc, Option.bind_some]; exact K
theorem k_consM {m : M S α} {n : M S (List α)} {k : List α × S → Option γ'} {o : Option δ'} (K : Q ((m s).bind fun p => (n p.2).bind fun q => k (p.1 :: q.1, q.2)) o) : Q ((consM m n s).bind k) o := by
  rw [e_consM, Option.bind_assoc]; simp only [Option.bind_assoc, Option.bind_some]; exact K
theorem k_slice {m : M S (List α)} {l h : M S (Option Int)} {k : List α × S → Option γ'} {o : Option δ'} (K : Q ((m s).bind fun p => (l p.2).bind fun q => (h q.2).bind fun r => k (cutL p.1 q.1 r.1, r.2)) o) : Q ((sliceM m l h s).bind k) o := by
  rw [e_slice, Option.bind_assoc]; simp only [Option.bind_assoc, Option.bind_some]; exact K
theorem k_bnd {m : M S α} {f : α → M S β} {k : β × S → Option γ'} {o : Option δ'} (K : Q ((m s).bind fun p => (f p.1 p.2).bind k) o) : Q ((bnd m f s).bind k) o := by
  rw [e_bnd, Option.bind_assoc]; exact K
theorem k_lft {t : Option α} {k : α × S → Option γ'} {o : α → Option δ'} (K : ∀ x, Q (k (x, s)) (o x)) : Q ((lft t s).bind k) (t.bnd o) := by
  rw [e_lft, Option.bind_assoc]; exact BR.bnd t fun x => K x
/-- a partial thing at the end of parts -/
theorem k_t {t t' : Option α} {k : α → Option γ'} {o : α → Option δ'} (e : t = t') (K : ∀ x, Q (k x) (o x)) : Q (t.bind k) (t'.bnd o) := by
  rw [e]; exact BR.bnd t' K
theorem k_ts {t : Option α} {v : α} {k : α → Option γ'} {o : α → Option δ'} (e : t = some v) (K : ∀ x, Q (k x) (o x)) : Q (t.bind k) (letO v o) := by
  rw [letO_eq, e]; exact K v
theorem k_s {t : Option α} {x : α} {k : α → Option γ'} {o : Option δ'} (e : t = some x) (K : Q (k x) o) : Q (t.bind k) o := by
  rw [e]; exact K
/-- something whose state stays: its own chain -/
abbrev QV (s : S) (a : Option (α × S)) (b : Option α) : Prop := QE (fun s' x y => s' = s ∧ x = y) a b
theorem qv_some {x : α} : QV s (some (x, s)) (some x) := ⟨x, s, rfl, rfl, rfl⟩
theorem qv_o {m : M S α} {t : Option α} (h : QV s ((m s).bind some) t) : m s = t.bind fun x => some (x, s) := by
  rw [bnd_r] at h
  cases t with
  | none => exact h.p
  | some y => obtain ⟨x, s', e, rfl, rfl⟩ := h; exact e
theorem o_and {m n : M S Bool} {x : Bool} {t : Option Bool} (h : m s = some (x, s)) (k : n s = t.bind fun z => some (z, s)) : andM m n s = (if x = true then t else some false).bind fun z => some (z, s) := by
  rw [e_andM, h]; simp only [Option.bind_some, k]; cases x <;> simp
theorem o_or {m n : M S Bool} {x : Bool} {t : Option Bool} (h : m s = some (x, s)) (k : n s = t.bind fun z => some (z, s)) : orM m n s = (if x = true then some true else t).bind fun z => some (z, s) := by
  rw [e_orM, h]; simp only [Option.bind_some, k]; cases x <;> simp
theorem o_if {c : M S Bool} {m n : M S α} {b : Bool} {t u : Option α} (h : c s = some (b, s)) (k : m s = t.bind fun z => some (z, s)) (l : n s = u.bind fun z => some (z, s)) : ifM c m n s = (if b = true then t else u).bind fun z => some (z, s) := by
  rw [e_ifM, h]; simp only [Option.bind_some, k, l]; cases b <;> simp
theorem o_chain {f : α → β → Option Bool} {g : β → γ → Option Bool} {m : M S α} {n : M S β} {l : M S γ} {x : α} {y : β} {b : Bool} {t : Option Bool} (h : m s = some (x, s)) (k : n s = some (y, s)) (e : f x y = some b) (k2 : op1 (g y) l s = t.bind fun z => some (z, s)) :
    chainM f g m n l s = (if b = true then t else some false).bind fun z => some (z, s) := by
  rw [e_chainM, h]; simp only [Option.bind_some, k, e]
  rw [e_op1] at k2
  cases b
  · simp
  · simp [k2]
/-- the first part of and, or, if is no value: bind it first -/
theorem k_and {m n : M S Bool} {k : Bool × S → Option γ'} {o : Option δ'} (K : Q ((m s).bind fun p => (andM (pur p.1) n p.2).bind k) o) : Q ((andM m n s).bind k) o := by
  rw [e_andM, Option.bind_assoc]; simpa only [e_andM, e_pur, Option.bind_some] using K
theorem k_or {m n : M S Bool} {k : Bool × S → Option γ'} {o : Option δ'} (K : Q ((m s).bind fun p => (orM (pur p.1) n p.2).bind k) o) : Q ((orM m n s).bind k) o := by
  rw [e_orM, Option.bind_assoc]; simpa only [e_orM, e_pur, Option.bind_some] using K
theorem k_if {c : M S Bool} {m n : M S α} {k : α × S → Option γ'} {o : Option δ'} (K : Q ((c s).bind fun p => (ifM (pur p.1) m n p.2).bind k) o) : Q ((ifM c m n s).bind k) o := by
  rw [e_ifM, Option.bind_assoc]; simpa only [e_ifM, e_pur, Option.bind_some] using K
theorem k_chain {f : α → β → Option Bool} {g : β → γ → Option Bool} {m : M S α} {n : M S β} {l : M S γ} {k : Bool × S → Option γ'} {o : Option δ'} (K : Q ((m s).bind fun p => (n p.2).bind fun q => (chainM f g (pur p.1) (pur q.1) l q.2).bind k) o) :
    Q ((chainM f g m n l s).bind k) o := by
  rw [e_chainM, Option.bind_assoc]; simpa only [e_chainM, e_pur, Option.bind_some, Option.bind_assoc] using K
-- what changes the state
theorem k_giv [Enc α] {k : Nat} {p : Pos S (Own (List α)) k} {x : List α} {k' : List α × S → Option γ'} {o : Option δ'} (h : p.get s = .mine x) (hs : p.put s (.gone x) = s') (K : Q (k' (x, s')) o) : Q ((giv p s).bind k') o := by
  rw [e_giv, h]; subst hs; exact K
theorem k_take [Enc α] {k : Nat} {p : Pos S (Own (List α)) k} {x : List α} {k' : List α × S → Option γ'} {o : Option δ'} (h : p.get s = .mine x) (hs : p.put s .no = s') (K : Q (k' (x, s')) o) : Q ((takM p s).bind k') o := by
  rw [e_takM, h]; subst hs; exact K
theorem k_src {b : Bool} {k : Nat} {p : Pos S (Src b) k} {f : List Int → A → Option (γ × List Int)} {m : M S A} {x : A} {zs : List Int} {k' : γ × S → Option γ'} {t : Option (γ × List Int)} {o : γ × List Int → Option δ'}
    (h : p.get s = .at zs) (hm : m s = some (x, s)) (e : f zs x = t) (K : ∀ r, Q (k' (r.1, p.put s (.at r.2))) (o r)) : Q ((srcM p f m s).bind k') (t.bnd o) := by
  rw [e_srcM, h]
  show Q (((m s).bind _).bind k') _
  rw [hm]
  show Q ((match p.get s with | .at zs => (f zs x).bind fun r => some (r.1, p.put s (.at r.2)) | .no => none).bind k') _
  rw [h]
  show Q (((f zs x).bind fun r => some (r.1, p.put s (.at r.2))).bind k') _
  rw [e, Option.bind_assoc]
  exact BR.bnd t fun r => K r
/-- its arguments change the state themselves -/
def srcB {b : Bool} {k : Nat} (p : Pos S (Src b) k) (f : List Int → A → Option (γ × List Int)) (x : A) : M S γ := fun s => match p.get s with
  | .at zs => (f zs x).bind fun r => some (r.1, p.put s (.at r.2))
  | .no => none
theorem k_srcA {b : Bool} {k : Nat} {p : Pos S (Src b) k} {f : List Int → A → Option (γ × List Int)} {m : M S A} {zs : List Int} {k' : γ × S → Option γ'} {o : Option δ'} (h : p.get s = .at zs)
    (K : Q ((m s).bind fun q => (srcB p f q.1 q.2).bind k') o) : Q ((srcM p f m s).bind k') o := by
  have e : srcM p f m s = (m s).bind fun q => srcB p f q.1 q.2 := by
    rw [e_srcM, h]
    rfl
  rw [e, Option.bind_assoc]
  exact K
theorem k_srcB {b : Bool} {k : Nat} {p : Pos S (Src b) k} {f : List Int → A → Option (γ × List Int)} {x : A} {zs : List Int} {k' : γ × S → Option γ'} {t : Option (γ × List Int)} {o : γ × List Int → Option δ'}
    (h : p.get s = .at zs) (e : f zs x = t) (K : ∀ r, Q (k' (r.1, p.put s (.at r.2))) (o r)) : Q ((srcB p f x s).bind k') (t.bnd o) := by
  unfold srcB
  rw [h]
  show Q (((f zs x).bind fun r => some (r.1, p.put s (.at r.2))).bind k') _
  rw [e, Option.bind_assoc]
  exact BR.bnd t fun r => K r
theorem k_pop [Enc α] {k : Nat} {p : Pos S (Own (List α)) k} {m : M S Int} {x : List α} {i : Int} {k' : α × S → Option γ'} {o : α → Option δ'} (h : p.get s = .mine x) (hm : m s = some (i, s)) (hs : p.put s (.mine (x.eraseIdx i.toNat)) = s')
    (K : ∀ y, Q (k' (y, s')) (o y)) : Q ((popM p m s).bind k') ((if 0 ≤ i ∧ i < 2 ^ 62 then x[i.toNat]? else none).bnd o) := by
  rw [e_popM, v_rdo h]
  simp only [Option.bind_some, hm, v_rdo h]
  by_cases c : 0 ≤ i ∧ i < 2 ^ 62
  · rw [if_pos c, if_pos c]
    subst hs
    cases x[i.toNat]? with
    | none => exact BR.bnd none K
    | some y => exact BR.bnd (some y) K
  · rw [if_neg c, if_neg c]
    exact BR.bnd none K
-- statements
section
variable {kf : Fl S ρ → Option γ'} {o : Option δ'}
theorem s_nx (K : Q (kf (.nx s)) o) : Q ((nextM (ρ := ρ) s).bind kf) o := K
def kSeq (b : MS S ρ) (kf : Fl S ρ → Option γ') : Fl S ρ → Option γ' := fun f => match f with | .nx s' => (b s').bind kf | .rt r s' => kf (.rt r s') | .bk s' => kf (.bk s') | .ct s' => kf (.ct s')
theorem s_seq {a b : MS S ρ} (K : Q ((a s).bind (kSeq b kf)) o) : Q ((seqM a b s).bind kf) o := by
  rw [e_seqM]
  cases h : a s with
  | none => rw [h] at K; exact K
  | some f => rw [h] at K; cases f <;> exact K
theorem s_seqN {b : MS S ρ} (K : Q ((b s).bind kf) o) : Q (kSeq b kf (.nx s)) o := K
theorem s_seqR {b : MS S ρ} {r : ρ} (K : Q (kf (.rt r s)) o) : Q (kSeq b kf (.rt r s)) o := K
theorem s_ret {m : M S ρ} (K : Q ((m s).bind fun p => kf (.rt p.1 p.2)) o) : Q ((retM m s).bind kf) o := by
  rw [e_retM, Option.bind_assoc]
  exact K
theorem s_drop {m : M S α} (K : Q ((m s).bind fun p => kf (.nx p.2)) o) : Q ((dropM (ρ := ρ) m s).bind kf) o := by
  rw [e_dropM, Option.bind_assoc]
  exact K
/-- where a variable is put -/
theorem s_asg {m : M S α} {put : α → S → Option S} (K : Q ((m s).bind fun p => (put p.1 p.2).bind fun s' => kf (.nx s')) o) : Q ((asgM m put s).bind kf) o := by
  rw [e_asgM, Option.bind_assoc]
  simp only [Option.bind_assoc, Option.bind_some]
  exact K
theorem p_name [Enc α] {k : Nat} {p : Pos S (Dt α) k} {x : α} {k' : S → Option γ'} (h : p.put s (.is x) = s') (K : Q (k' s') o) : Q ((pName p x s).bind k') o := by subst h; exact K
theorem p_own [Enc α] {k : Nat} {p : Pos S (Own (List α)) k} {x : List α} {k' : S → Option γ'} (h : p.put s (.mine x) = s') (K : Q (k' s') o) : Q ((pOwn p x s).bind k') o := by subst h; exact K
theorem p_src {b : Bool} {k : Nat} {p : Pos S (Src b) k} {x : List Int} {k' : S → Option γ'} (h : p.put s (.at x) = s') (K : Q (k' s') o) : Q ((some (Pos.put p s (.at x))).bind k') o := by subst h; exact K
theorem p_two {f : α → S → Option S} {g : β → S → Option S} {x : α × β} {k' : S → Option γ'} (K : Q ((f x.1 s).bind fun s1 => (g x.2 s1).bind k') o) : Q ((pTwo f g x s).bind k') o := by
  rw [e_pTwo, Option.bind_assoc]
  exact K
theorem p_tri {f : α → S → Option S} {g : β → S → Option S} {h : γ → S → Option S} {x : Tri α β γ} {k' : S → Option γ'} (K : Q ((f x.a s).bind fun s1 => (g x.b s1).bind fun s2 => (h x.c s2).bind k') o) : Q ((pTri f g h x s).bind k') o := by
  rw [e_pTri, Option.bind_assoc, Option.bind_assoc]
  exact K
/-- a value under a name -/
theorem k_let {v : α} {k : α → Option γ'} {o : α → Option δ'} (K : ∀ x, Q (k x) (o x)) : Q (k v) ((some v).bnd o) := by rw [Option.bnd_some]; exact K v
theorem s_par {m : M S (α × β × Unit)} {f : α → S → Option S} {g : β → S → Option S} (K : Q ((m s).bind fun p => (f p.1.1 p.2).bind fun s1 => (g p.1.2.1 s1).bind fun s2 => kf (.nx s2)) o) : Q ((parM m f g s).bind kf) o := by
  rw [e_parM, Option.bind_assoc]
  simp only [Option.bind_assoc, Option.bind_some]
  exact K
theorem s_par3 {m : M S (α × β × γ × Unit)} {f : α → S → Option S} {g : β → S → Option S} {h : γ → S → Option S} (K : Q ((m s).bind fun p => (f p.1.1 p.2).bind fun s1 => (g p.1.2.1 s1).bind fun s2 => (h p.1.2.2.1 s2).bind fun s3 => kf (.nx s3)) o) : Q ((par3M m f g h s).bind kf) o := by
  rw [e_par3M, Option.bind_assoc]
  simp only [Option.bind_assoc, Option.bind_some]
  exact K
theorem s_parO {m : M S α} {n : M S β} {f : α → S → Option S} {g : β → S → Option S} (K : Q ((m s).bind fun p => (n p.2).bind fun q => (f p.1 q.2).bind fun s1 => (g q.1 s1).bind fun s2 => kf (.nx s2)) o) : Q ((parOM m n f g s).bind kf) o := by
  rw [e_parOM, Option.bind_assoc]
  simp only [Option.bind_assoc, Option.bind_some]
  exact K
theorem s_par3O {m : M S α} {n : M S β} {l : M S γ} {f : α → S → Option S} {g : β → S → Option S} {h : γ → S → Option S} (K : Q ((m s).bind fun p => (n p.2).bind fun q => (l q.2).bind fun r => (f p.1 r.2).bind fun s1 => (g q.1 s1).bind fun s2 => (h r.1 s2).bind fun s3 => kf (.nx s3)) o) : Q ((par3OM m n l f g h s).bind kf) o := by
  rw [e_par3OM, Option.bind_assoc]
  simp only [Option.bind_assoc, Option.bind_some]
  exact K
theorem s_aug [Enc α] {k : Nat} {p : Pos S (Dt α) k} {m : M S β} {f : α → β → α} {x : α} (h : p.get s = .is x) (K : Q ((m s).bind fun y => kf (.nx (p.put y.2 (.is (f x y.1))))) o) : Q ((augM (ρ := ρ) p m f s).bind kf) o := by
  rw [e_augM, h]
  show Q (((m s).bind fun y => some (.nx (p.put y.2 (.is (f x y.1))))).bind kf) o
  rw [Option.bind_assoc]
  exact K
theorem s_nx' {kf : Fl S ρ → Option γ'} (h : s = s') (K : Q (kf (.nx s')) o) : Q (kf (.nx s)) o := by subst h; exact K
theorem s_rt' {kf : Fl S ρ → Option γ'} {r : ρ} (h : s = s') (K : Q (kf (.rt r s')) o) : Q (kf (.rt r s)) o := by subst h; exact K
theorem s_dn {χ : Type} [Slot (Own χ)] {k : Nat} {p : Pos S (Own χ) k} {x : Own χ} {kf : Fl S ρ → Option γ'} (h : p.put s x = s') (K : Q (kf (.nx s')) o) : Q (((fun s => some (Fl.nx (Pos.put p s x))) s).bind kf) o := by subst h; exact K
theorem s_app [Enc α] {k : Nat} {p : Pos S (Own (List α)) k} {m : M S α} {x : List α} {o : Unit → Option δ'} (h : p.get s = .mine x) (K : Q ((m s).bind fun y => (rdo p y.2).bind fun xs => (fits xs.1).bind fun _ => kf (.nx (p.put xs.2 (.mine (xs.1 ++ [y.1]))))) o') : Q ((appM (ρ := ρ) p m s).bind kf) o' := by
  rw [e_appM, v_rdo h]
  have e : ((some (x, s)).bind fun p1 => (m p1.2).bind fun y => (rdo p y.2).bind fun xs => if xs.1.length < 100000 then some (Fl.nx (p.put xs.2 (.mine (xs.1 ++ [y.1])))) else none).bind kf = (m s).bind fun y => (rdo p y.2).bind fun xs => (fits xs.1).bind fun _ => kf (.nx (p.put xs.2 (.mine (xs.1 ++ [y.1])))) := by
    simp only [Option.bind_some, Option.bind_assoc]
    congr 1
    funext y
    congr 1
    funext xs
    unfold fits
    by_cases c : xs.1.length < 100000
    · simp [c]
    · simp [c]
  rw [e]
  exact K
theorem s_set [Enc α] {k : Nat} {p : Pos S (Own (List α)) k} {mv : M S α} {mi : M S Int} {x : List α} (h : ∀ q, mv s = some q → p.get q.2 = .mine x)
    (K : Q ((mv s).bind fun y => (mi y.2).bind fun i => (rdo p i.2).bind fun xs => (ixN xs.1.length i.1).bind fun j => kf (.nx (p.put xs.2 (.mine (xs.1.set j y.1))))) o) : Q ((setM (ρ := ρ) p mv mi s).bind kf) o := by
  rw [e_setM]
  cases e : mv s with
  | none => rw [e] at K; exact K
  | some y =>
    rw [e] at K
    simp only [Option.bind_some] at K ⊢
    rw [v_rdo (h y e)]
    simp only [Option.bind_some, Option.bind_assoc, Option.bind_map] at K ⊢
    exact K
theorem s_setS {b : Bool} {k : Nat} {p : Pos S (Src b) k} {mv : M S Int} {mi : M S Int} {x : List Int} (h : ∀ q, mv s = some q → p.get q.2 = .at x)
    (K : Q ((mv s).bind fun y => (mi y.2).bind fun i => (rdS p i.2).bind fun xs => (ixN xs.1.length i.1).bind fun j => kf (.nx (p.put xs.2 (.at (xs.1.set j y.1))))) o) : Q ((setSM (ρ := ρ) p mv mi s).bind kf) o := by
  rw [e_setSM]
  cases e : mv s with
  | none => rw [e] at K; exact K
  | some y =>
    rw [e] at K
    simp only [Option.bind_some] at K ⊢
    rw [v_rdS (h y e)]
    simp only [Option.bind_some, Option.bind_assoc, Option.bind_map] at K ⊢
    exact K
theorem s_dput [Enc α] {k : Nat} {p : Pos S (Own (DI α)) k} {mv : M S α} {mi : M S Int} {x : DI α} (h : ∀ q, mv s = some q → p.get q.2 = .mine x)
    (K : Q ((mv s).bind fun y => (mi y.2).bind fun i => (rdd p i.2).bind fun xs => (fits xs.1.kvs).bind fun _ => kf (.nx (p.put xs.2 (.mine (xs.1.set i.1 y.1))))) o) : Q ((dputM (ρ := ρ) p mv mi s).bind kf) o := by
  rw [e_dputM]
  cases e : mv s with
  | none => rw [e] at K; exact K
  | some y =>
    rw [e] at K
    simp only [Option.bind_some] at K ⊢
    rw [v_rdd (h y e)]
    simp only [Option.bind_some, Option.bind_assoc] at K ⊢
    have e : ∀ (xs : DI α × S), ((if xs.1.kvs.length < 100000 then some (Fl.nx (p.put xs.2 (.mine (xs.1.set (0 : Int) y.1)))) else none) : Option (Fl S ρ)) = none ∨ True := fun _ => .inr trivial
    have e2 : ∀ i : Int × S, ((rdd p i.2).bind fun xs => (if xs.1.kvs.length < 100000 then some (Fl.nx (p.put xs.2 (.mine (xs.1.set i.1 y.1)))) else none).bind kf) = ((rdd p i.2).bind fun xs => (fits xs.1.kvs).bind fun _ => kf (.nx (p.put xs.2 (.mine (xs.1.set i.1 y.1))))) := by
      intro i
      congr 1
      funext xs
      unfold fits
      by_cases c : xs.1.kvs.length < 100000
      · simp [c]
      · simp [c]
    simp only [e2]
    exact K
/-- one branch goes on to what follows: the other one too, or it ends -/
theorem s_if {c : M S Bool} {a b : MS S ρ} {v : Bool} {oa ob : Option δ'} (h : c s = some (v, s)) (ha : Q ((a s).bind kf) oa) (hb : Q ((b s).bind kf) ob) : Q ((ifS c a b s).bind kf) (if v = true then oa else ob) := by
  rw [e_ifS, h]
  cases v
  · exact hb
  · exact ha
theorem s_ifK {c : M S Bool} {a b : MS S ρ} (K : Q ((c s).bind fun p => (ifS (pur p.1) a b p.2).bind kf) o) : Q ((ifS c a b s).bind kf) o := by
  rw [e_ifS, Option.bind_assoc]
  simpa only [e_ifS, e_pur, Option.bind_some] using K
/-- both branches lead to one place -/
theorem s_join {σ : Type} {R : S → σ → Prop} {c : M S Bool} {a b : MS S ρ} {v : Bool} {oa ob : Option σ} {o : σ → Option δ'} (h : c s = some (v, s)) (ha : QN R ((a s).bind some) oa) (hb : QN R ((b s).bind some) ob) (K : ∀ s' x, R s' x → Q (kf (.nx s')) (o x)) :
    Q ((ifS c a b s).bind kf) ((if v = true then oa else ob).bnd o) := by
  rw [e_ifS, h]
  rw [bnd_r] at ha hb
  show Q ((if v = true then a s else b s).bind kf) _
  have go : ∀ (z : Option (Fl S ρ)) (u : Option σ), QN R z u → Q (z.bind kf) (u.bnd o) := by
    intro z u q
    cases u with
    | none => rw [Option.bnd_none]; cases (show z = none from q.p); exact br_none
    | some x => rw [Option.bnd_some]; obtain ⟨s', e, r⟩ := q; subst e; exact K _ _ r
  cases v
  · exact go _ _ hb
  · exact go _ _ ha
theorem s_joinR {σ ρ' : Type} {R : S → σ → Prop} {RR : S → ρ → ρ' → Prop} {c : M S Bool} {a b : MS S ρ} {v : Bool} {oa ob : Option (Re σ ρ')} {o : Re σ ρ' → Option δ'} (h : c s = some (v, s)) (ha : QR R RR ((a s).bind some) oa) (hb : QR R RR ((b s).bind some) ob)
    (K : ∀ s' x, R s' x → Q (kf (.nx s')) (o (.nx x))) (K2 : ∀ s' r r', RR s' r r' → Q (kf (.rt r s')) (o (.rt r'))) :
    Q ((ifS c a b s).bind kf) ((if v = true then oa else ob).bnd o) := by
  rw [e_ifS, h]
  rw [bnd_r] at ha hb
  show Q ((if v = true then a s else b s).bind kf) _
  have go : ∀ (z : Option (Fl S ρ)) (u : Option (Re σ ρ')), QR R RR z u → Q (z.bind kf) (u.bnd o) := by
    intro z u q
    cases u with
    | none => rw [Option.bnd_none]; cases (show z = none from q.p); exact br_none
    | some x => rw [Option.bnd_some]; cases x with
      | nx x => obtain ⟨s', e, r⟩ := q; subst e; exact K _ _ r
      | rt x => obtain ⟨s', r, e, rr⟩ := q; subst e; exact K2 _ _ _ rr
  cases v
  · exact go _ _ hb
  · exact go _ _ ha
theorem forL_sim {σ : Type} {R : S → σ → Prop} {put : α → S → Option S} {b : MS S ρ} {B : σ → α → Option σ} (hb : ∀ x s z, R s z → QN R ((put x s).bind b) (B z x)) : ∀ (xs : List α) (s : S) (z : σ), R s z → QN R (forL put b xs s) (foldO B xs z)
  | [], s, z, h => ⟨s, rfl, h⟩
  | x :: xs, s, z, h => by
    have q := hb x s z h
    unfold forL foldO
    cases e : B z x with
    | none =>
      rw [e] at q
      have q : (put x s).bind b = none := q.p
      refine ⟨?_⟩
      show _ = none
      cases e1 : put x s with
      | none => rfl
      | some s1 =>
        rw [e1] at q
        have q : b s1 = none := q
        simp only [Option.bind_some, q, Option.bind_none]
    | some z1 =>
      rw [e] at q
      obtain ⟨s2, q, r⟩ := q
      cases e1 : put x s with
      | none => rw [e1] at q; cases q
      | some s1 =>
        rw [e1] at q
        have q : b s1 = some (.nx s2) := q
        simp only [Option.bind_some, q]
        exact forL_sim hb xs s2 z1 r
theorem forL_simR {σ ρ' : Type} {R : S → σ → Prop} {RR : S → ρ → ρ' → Prop} {put : α → S → Option S} {b : MS S ρ} {B : σ → α → Option (Re σ ρ')} (hb : ∀ x s z, R s z → QR R RR ((put x s).bind b) (B z x)) : ∀ (xs : List α) (s : S) (z : σ), R s z → QR R RR (forL put b xs s) (loopO B xs z)
  | [], s, z, h => ⟨s, rfl, h⟩
  | x :: xs, s, z, h => by
    have q := hb x s z h
    unfold forL loopO
    cases e : B z x with
    | none =>
      rw [e] at q
      have q : (put x s).bind b = none := q.p
      refine ⟨?_⟩
      show _ = none
      cases e1 : put x s with
      | none => rfl
      | some s1 =>
        rw [e1] at q
        have q : b s1 = none := q
        simp only [Option.bind_some, q, Option.bind_none]
    | some z1 => cases z1 with
      | nx z1 =>
        rw [e] at q
        obtain ⟨s2, q, r⟩ := q
        cases e1 : put x s with
        | none => rw [e1] at q; cases q
        | some s1 =>
          rw [e1] at q
          have q : b s1 = some (.nx s2) := q
          simp only [Option.bind_some, q]
          exact forL_simR hb xs s2 z1 r
      | rt z1 =>
        rw [e] at q
        obtain ⟨s2, rr, q, r⟩ := q
        cases e1 : put x s with
        | none => rw [e1] at q; cases q
        | some s1 =>
          rw [e1] at q
          have q : b s1 = some (.rt rr s2) := q
          simp only [Option.bind_some, q]
          exact ⟨s2, rr, rfl, r⟩
theorem go_N {σ : Type} {R : S → σ → Prop} {z : Option (Fl S ρ)} {u : Option σ} {o : σ → Option δ'} (q : QN R z u) (K : ∀ s' x, R s' x → Q (kf (.nx s')) (o x)) : Q (z.bind kf) (u.bnd o) := by
  cases u with
  | none => rw [Option.bnd_none]; cases (show z = none from q.p); exact br_none
  | some x => rw [Option.bnd_some]; obtain ⟨s', e, r⟩ := q; subst e; exact K _ _ r
theorem go_R {σ ρ' : Type} {R : S → σ → Prop} {RR : S → ρ → ρ' → Prop} {z : Option (Fl S ρ)} {u : Option (Re σ ρ')} {o : Re σ ρ' → Option δ'} (q : QR R RR z u)
    (K : ∀ s' x, R s' x → Q (kf (.nx s')) (o (.nx x))) (K2 : ∀ s' r r', RR s' r r' → Q (kf (.rt r s')) (o (.rt r'))) : Q (z.bind kf) (u.bnd o) := by
  cases u with
  | none => rw [Option.bnd_none]; cases (show z = none from q.p); exact br_none
  | some x => rw [Option.bnd_some]; cases x with
    | nx x => obtain ⟨s', e, r⟩ := q; subst e; exact K _ _ r
    | rt x => obtain ⟨s', r, e, rr⟩ := q; subst e; exact K2 _ _ _ rr
theorem s_forK {m : M S (List α)} {put : α → S → Option S} {b : MS S ρ} (K : Q ((m s).bind fun p => (forL put b p.1 p.2).bind kf) o) : Q ((forM m put b s).bind kf) o := by
  rw [e_forM, Option.bind_assoc]
  exact K
theorem s_forN {σ : Type} {R : S → σ → Prop} {put : α → S → Option S} {b : MS S ρ} {B : σ → α → Option σ} {xs : List α} {z : σ} {o : σ → Option δ'} (hb : ∀ x s z, R s z → QN R ((put x s).bind b) (B z x)) (h0 : R s z) (K : ∀ s' x, R s' x → Q (kf (.nx s')) (o x)) :
    Q ((forL put b xs s).bind kf) ((foldO B xs z).bnd o) := go_N (forL_sim hb xs s z h0) K
theorem s_forR {σ ρ' : Type} {R : S → σ → Prop} {RR : S → ρ → ρ' → Prop} {put : α → S → Option S} {b : MS S ρ} {B : σ → α → Option (Re σ ρ')} {xs : List α} {z : σ} {o : Re σ ρ' → Option δ'} (hb : ∀ x s z, R s z → QR R RR ((put x s).bind b) (B z x)) (h0 : R s z)
    (K : ∀ s' x, R s' x → Q (kf (.nx s')) (o (.nx x))) (K2 : ∀ s' r r', RR s' r r' → Q (kf (.rt r s')) (o (.rt r'))) :
    Q ((forL put b xs s).bind kf) ((loopO B xs z).bnd o) := go_R (forL_simR hb xs s z h0) K K2
end
end
end Rm
namespace Rm
open PySem PySem.Spec PyProof.Rows L2 Rg
open Enc (rel)
open Cell (cel)
open Slot (srel)
open Slots (srels)
section
variable {S α β γ δ τ A ρ : Type} [Slots S] {s s' s0 : S} {γ' δ' : Type} {Q : Option γ' → Option δ' → Prop} [BR Q]
theorem k_vl {m : M S α} {v : α} {k : α × S → Option γ'} {o : α → Option δ'} (h : m s = some (v, s)) (K : ∀ x, Q (k (x, s)) (o x)) : Q ((m s).bind k) (letO v o) := by
  rw [letO_eq, h]
  exact K v
-- comprehensions
theorem k_lcM {mi : M S (List α)} {wp : S → S} {put : α → S → Option S} {mt : M S Bool} {me : M S β} {k : List β × S → Option γ'} {o : Option δ'} (K : Q ((mi s).bind fun p => (short p.1).bind fun _ => (lcL wp put mt me p.1 p.2).bind k) o) : Q ((lcM mi wp put mt me s).bind k) o := by
  rw [e_lcM, Option.bind_assoc]
  have e : ((mi s).bind fun x => (if x.1.length ≤ 100000 then lcL wp put mt me x.1 x.2 else none).bind k) = ((mi s).bind fun p => (short p.1).bind fun _ => (lcL wp put mt me p.1 p.2).bind k) := by
    congr 1
    funext p
    unfold short
    by_cases c : p.1.length ≤ 100000
    · simp [c]
    · simp [c]
  rw [e]
  exact K
theorem lc_f {wp : S → S} {put : α → S → Option S} {mt : M S Bool} {me : M S β} {t : α → Option Bool} {g : α → Option β} {s1 : α → S} (hp : ∀ x, put x s0 = some (s1 x)) (ht : ∀ x, mt (s1 x) = (t x).bind fun b => some (b, s1 x)) (hg : ∀ x, me (s1 x) = (g x).bind fun y => some (y, s1 x))
    (hw : ∀ x, wp (s1 x) = s0) : ∀ (xs : List α) (s : S), wp s = s0 → lcL wp put mt me xs s = (fmapO t g xs).bind fun ys => some (ys, s0)
  | [], s, h => by unfold lcL fmapO; rw [h]; rfl
  | x :: xs, s, h => by
    have ih := lc_f hp ht hg hw xs
    unfold lcL fmapO
    rw [h, hp]
    simp only [Option.bind_some, ht]
    cases t x with
    | none => rfl
    | some b => cases b with
      | false => simp only [Option.bind_some, Bool.false_eq_true, if_false]; exact ih (s1 x) (hw x)
      | true =>
        simp only [Option.bind_some, if_true, hg]
        cases g x with
        | none => rfl
        | some y =>
          simp only [Option.bind_some, ih (s1 x) (hw x)]
          cases fmapO t g xs <;> rfl
theorem fmapO_yes {g : α → Option β} : ∀ xs : List α, fmapO (fun _ => some true) g xs = mapO g xs
  | [] => rfl
  | x :: xs => by
    unfold fmapO mapO
    rw [fmapO_yes xs]
    rfl
theorem k_lcf {wp : S → S} {put : α → S → Option S} {mt : M S Bool} {me : M S β} {t : α → Option Bool} {g : α → Option β} {s1 : α → S} {xs : List α} {k : List β × S → Option γ'} {o : List β → Option δ'} (hw0 : wp s = s0) (hp : ∀ x, put x s0 = some (s1 x))
    (ht : ∀ x, mt (s1 x) = (t x).bind fun b => some (b, s1 x)) (hg : ∀ x, me (s1 x) = (g x).bind fun y => some (y, s1 x)) (hw : ∀ x, wp (s1 x) = s0) (K : ∀ ys, Q (k (ys, s0)) (o ys)) : Q ((lcL wp put mt me xs s).bind k) ((fmapO t g xs).bnd o) := by
  rw [lc_f hp ht hg hw xs s hw0, Option.bind_assoc]
  exact BR.bnd _ fun ys => K ys
theorem k_lca {wp : S → S} {put : α → S → Option S} {me : M S β} {g : α → Option β} {s1 : α → S} {xs : List α} {k : List β × S → Option γ'} {o : List β → Option δ'} (hw0 : wp s = s0) (hp : ∀ x, put x s0 = some (s1 x))
    (hg : ∀ x, me (s1 x) = (g x).bind fun y => some (y, s1 x)) (hw : ∀ x, wp (s1 x) = s0) (K : ∀ ys, Q (k (ys, s0)) (o ys)) : Q ((lcL wp put (pur true) me xs s).bind k) ((mapO g xs).bnd o) := by
  rw [← fmapO_yes]
  exact k_lcf hw0 hp (fun _ => rfl) hg hw K
/-- a comprehension that draws -/
theorem lc_s {σ : Type} {em : σ → S} {wp : S → S} {put : α → S → Option S} {me : M S β} {g : σ → α → Option (β × σ)} {s1 : α → σ → S} (hp : ∀ x z, put x (em z) = some (s1 x z))
    (hg : ∀ x z, QE (fun s' y (r : β × σ) => wp s' = em r.2 ∧ y = r.1) ((me (s1 x z)).bind some) (g z x)) : ∀ (xs : List α) (s : S) (z : σ), wp s = em z → lcL wp put (pur true) me xs s = (mapS g xs z).bind fun r => some (r.1, em r.2)
  | [], s, z, h => by unfold lcL mapS; rw [h]; rfl
  | x :: xs, s, z, h => by
    have q := hg x z
    rw [bnd_r] at q
    unfold lcL mapS
    rw [h, hp]
    simp only [Option.bind_some, e_pur, if_true]
    cases e : g z x with
    | none =>
      rw [e] at q
      have q : me (s1 x z) = none := q.p
      rw [q]
      rfl
    | some r =>
      rw [e] at q
      obtain ⟨y, s', e1, hw, rfl⟩ := q
      rw [e1]
      simp only [Option.bind_some, lc_s hp hg xs s' r.2 hw]
      cases mapS g xs r.2 <;> rfl
theorem k_lcs {σ : Type} {em : σ → S} {wp : S → S} {put : α → S → Option S} {me : M S β} {g : σ → α → Option (β × σ)} {s1 : α → σ → S} {xs : List α} {z : σ} {k : List β × S → Option γ'} {o : List β × σ → Option δ'} (hw0 : wp s = em z) (hp : ∀ x z, put x (em z) = some (s1 x z))
    (hg : ∀ x z, QE (fun s' y (r : β × σ) => wp s' = em r.2 ∧ y = r.1) ((me (s1 x z)).bind some) (g z x)) (K : ∀ r, Q (k (r.1, em r.2)) (o r)) : Q ((lcL wp put (pur true) me xs s).bind k) ((mapS g xs z).bnd o) := by
  rw [lc_s hp hg xs s z hw0, Option.bind_assoc]
  exact BR.bnd _ fun ys => K ys
-- the top
structure QQ {γ : Type} (a b : Option γ) : Prop where
  p : a = b
instance {γ : Type} : BR (QQ (γ := γ)) := ⟨fun {τ} t {f g} h => by
  rw [Option.bnd_eq]
  cases t with
  | none => exact ⟨rfl⟩
  | some x => exact h x⟩
theorem qq {γ : Type} {a : Option γ} : QQ a a := ⟨rfl⟩
def kfP {S ρ : Type} : Fl S ρ → Option ρ := fun f => match f with | .rt r _ => some r | _ => none
def kfU {S : Type} : Fl S Unit → Option Unit := fun f => match f with | .rt _ _ => some () | .nx _ => some () | _ => none
def kfS {S ρ : Type} [Slots S] (p : Pos S (Src true) 0) : Fl S ρ → Option (ρ × List Int) := fun f => match f with | .rt r s' => (match p.get s' with | .at zs => some (r, zs) | .no => none) | _ => none
theorem run_k {m : MS S ρ} {o : Option ρ} (h : QQ ((m s).bind kfP) o) : run m s = o := by
  rw [e_run, ← h.p]
  cases m s with
  | none => rfl
  | some f => cases f <;> rfl
theorem runU_k {m : MS S Unit} {o : Option Unit} (h : QQ ((m s).bind kfU) o) : runU m s = o := by
  rw [e_runU, ← h.p]
  cases m s with
  | none => rfl
  | some f => cases f <;> rfl
theorem runS_k {p : Pos S (Src true) 0} {m : MS S ρ} {o : Option (ρ × List Int)} (h : QQ ((m s).bind (kfS p)) o) : runS p m s = o := by
  rw [e_runS, ← h.p]
  cases m s with
  | none => rfl
  | some f => cases f <;> rfl
theorem kfP_rt {r : ρ} : QQ (kfP (.rt r s)) (some r) := ⟨rfl⟩
theorem kfP_nx : QQ (kfP (ρ := ρ) (.nx s)) none := ⟨rfl⟩
theorem kfU_rt {r : Unit} : QQ (kfU (.rt r s)) (some ()) := ⟨rfl⟩
theorem kfU_nx : QQ (kfU (.nx s)) (some ()) := ⟨rfl⟩
theorem kfS_rt {p : Pos S (Src true) 0} {r : ρ} {zs : List Int} (h : p.get s = .at zs) : QQ (kfS p (.rt r s)) (some (r, zs)) := by
  refine ⟨?_⟩
  unfold kfS
  show (match p.get s with | .at zs => some (r, zs) | .no => none) = _
  rw [h]
theorem kfS_nx {p : Pos S (Src true) 0} : QQ (kfS (ρ := ρ) p (.nx s)) none := ⟨rfl⟩
theorem s_in {b : MS S ρ} {o : Option δ'} {Q : Option (Fl S ρ) → Option δ' → Prop} (K : Q ((b s).bind some) o) : Q (b s) o := by rw [bnd_r] at K; exact K
theorem t_nx {σ : Type} {R : S → σ → Prop} {z : σ} (h : R s z) : QN (ρ := ρ) R (some (.nx s)) (some z) := ⟨s, rfl, h⟩
theorem t_nxR {σ ρ' : Type} {R : S → σ → Prop} {RR : S → ρ → ρ' → Prop} {z : σ} (h : R s z) : QR (ρ := ρ) (ρ' := ρ') R RR (some (.nx s)) (some (.nx z)) := ⟨s, rfl, h⟩
theorem t_rtR {σ ρ' : Type} {R : S → σ → Prop} {RR : S → ρ → ρ' → Prop} {r : ρ} {r' : ρ'} (h : RR s r r') : QR R RR (some (.rt r s)) (some (.rt r')) := ⟨s, r, rfl, h⟩
theorem t_e {R : S → α → β → Prop} {x : α} {y : β} (h : R s x y) : QE R (some (x, s)) (some y) := ⟨x, s, rfl, h⟩
/-- while -/
theorem whileL_sim {σ : Type} {R : S → σ → Prop} {c : M S Bool} {b : MS S ρ} {C : σ → Option Bool} {B : σ → Option σ} (hc : ∀ s z, R s z → c s = (C z).bind fun v => some (v, s)) (hb : ∀ s z, R s z → QN R (b s) (B z)) : ∀ (n : Nat) (s : S) (z : σ), R s z → QN R (whileL c b n s) (whileO C B n z)
  | 0, s, z, h => ⟨rfl⟩
  | n + 1, s, z, h => by
    have q := hb s z h
    unfold whileL whileO
    rw [hc s z h]
    cases C z with
    | none => exact ⟨rfl⟩
    | some v => cases v with
      | false => exact ⟨s, rfl, h⟩
      | true =>
        simp only [Option.bind_some, if_true]
        cases e : B z with
        | none => rw [e] at q; have q : b s = none := q.p; rw [q]; exact ⟨rfl⟩
        | some z1 =>
          rw [e] at q
          obtain ⟨s2, q, r⟩ := q
          rw [q]
          exact whileL_sim hc hb n s2 z1 r
theorem whileL_simR {σ ρ' : Type} {R : S → σ → Prop} {RR : S → ρ → ρ' → Prop} {c : M S Bool} {b : MS S ρ} {C : σ → Option Bool} {B : σ → Option (Re σ ρ')} (hc : ∀ s z, R s z → c s = (C z).bind fun v => some (v, s)) (hb : ∀ s z, R s z → QR R RR (b s) (B z)) : ∀ (n : Nat) (s : S) (z : σ), R s z → QR R RR (whileL c b n s) (whileR C B n z)
  | 0, s, z, h => ⟨rfl⟩
  | n + 1, s, z, h => by
    have q := hb s z h
    unfold whileL whileR
    rw [hc s z h]
    cases C z with
    | none => exact ⟨rfl⟩
    | some v => cases v with
      | false => exact ⟨s, rfl, h⟩
      | true =>
        simp only [Option.bind_some, if_true]
        cases e : B z with
        | none => rw [e] at q; have q : b s = none := q.p; rw [q]; exact ⟨rfl⟩
        | some z1 => cases z1 with
          | nx z1 =>
            rw [e] at q
            obtain ⟨s2, q, r⟩ := q
            rw [q]
            exact whileL_simR hc hb n s2 z1 r
          | rt z1 =>
            rw [e] at q
            obtain ⟨s2, rr, q, r⟩ := q
            rw [q]
            exact ⟨s2, rr, rfl, r⟩
variable {kf : Fl S ρ → Option γ'}
theorem s_whN {σ : Type} {R : S → σ → Prop} {c : M S Bool} {b : MS S ρ} {C : σ → Option Bool} {B : σ → Option σ} {n : Nat} {z : σ} {o : σ → Option δ'} (hc : ∀ s z, R s z → c s = (C z).bind fun v => some (v, s)) (hb : ∀ s z, R s z → QN R (b s) (B z)) (h0 : R s z) (K : ∀ s' x, R s' x → Q (kf (.nx s')) (o x)) :
    Q ((whileL c b n s).bind kf) ((whileO C B n z).bnd o) := go_N (whileL_sim hc hb n s z h0) K
theorem s_whR {σ ρ' : Type} {R : S → σ → Prop} {RR : S → ρ → ρ' → Prop} {c : M S Bool} {b : MS S ρ} {C : σ → Option Bool} {B : σ → Option (Re σ ρ')} {n : Nat} {z : σ} {o : Re σ ρ' → Option δ'} (hc : ∀ s z, R s z → c s = (C z).bind fun v => some (v, s)) (hb : ∀ s z, R s z → QR R RR (b s) (B z)) (h0 : R s z)
    (K : ∀ s' x, R s' x → Q (kf (.nx s')) (o (.nx x))) (K2 : ∀ s' r r', RR s' r r' → Q (kf (.rt r s')) (o (.rt r'))) :
    Q ((whileL c b n s).bind kf) ((whileR C B n z).bnd o) := go_R (whileL_simR hc hb n s z h0) K K2
theorem hset_of {τ' : Type} {m : M S α} {t : Option α} {q : α × S} {g : S → τ'} {v : τ'} (h : m s = t.bind fun x => some (x, s)) (e : m s = some q) (hp : g s = v) : g q.2 = v := by
  rw [h] at e
  cases t with
  | none => cases e
  | some x => cases e; exact hp
-- a later part that changes slots
theorem go_D {σ α : Type} {R : S → σ → Prop} {k : α × S → Option γ'} {o : α × σ → Option δ'} (K : ∀ s' r, R s' r.2 → Q (k (r.1, s')) (o r)) {a : Option (α × S)} {t : Option (α × σ)} (h : QE (fun s' y (r : α × σ) => R s' r.2 ∧ y = r.1) a t) : Q (a.bind k) (t.bnd o) := by
  cases t with
  | none => rw [Option.bnd_none]; rw [show a = none from h.p]; exact br_none
  | some r => obtain ⟨y, s2, e, h1, rfl⟩ := h; rw [e, Option.bnd_some]; exact K s2 r h1
theorem go_J {α : Type} {R : S → Prop} {k : α × S → Option γ'} {o : α → Option δ'} (K : ∀ s' r, R s' → Q (k (r, s')) (o r)) {a : Option (α × S)} {t : Option α} (h : QE (fun s' y r => R s' ∧ y = r) a t) : Q (a.bind k) (t.bnd o) := by
  cases t with
  | none => rw [Option.bnd_none]; rw [show a = none from h.p]; exact br_none
  | some r => obtain ⟨y, s2, e, h1, rfl⟩ := h; rw [e, Option.bnd_some]; exact K s2 y h1
theorem k_andD {σ : Type} {R : S → σ → Prop} {z0 : σ} {m n : M S Bool} {x : Bool} {t : Option (Bool × σ)} {k : Bool × S → Option γ'} {o : Bool × σ → Option δ'} (h0 : R s z0) (h : m s = some (x, s))
    (hb : QE (fun s' y (r : Bool × σ) => R s' r.2 ∧ y = r.1) ((n s).bind some) t) (K : ∀ s' r, R s' r.2 → Q (k (r.1, s')) (o r)) : Q ((andM m n s).bind k) ((if x = true then t else some (false, z0)).bnd o) := by
  rw [e_andM, h]
  simp only [Option.bind_some]
  rw [bnd_r] at hb
  cases x with
  | false => rw [if_neg (by decide), if_neg (by decide)]; (rw [Option.bnd_some]; exact K s (false, z0) h0)
  | true => rw [if_pos rfl, if_pos rfl]; exact go_D K hb
theorem k_andJ {R : S → Prop} {m n : M S Bool} {x : Bool} {t : Option Bool} {k : Bool × S → Option γ'} {o : Bool → Option δ'} (h0 : R s) (h : m s = some (x, s))
    (hb : QE (fun s' y r => R s' ∧ y = r) ((n s).bind some) t) (K : ∀ s' r, R s' → Q (k (r, s')) (o r)) : Q ((andM m n s).bind k) ((if x = true then t else some false).bnd o) := by
  rw [e_andM, h]
  simp only [Option.bind_some]
  rw [bnd_r] at hb
  cases x with
  | false => rw [if_neg (by decide), if_neg (by decide)]; (rw [Option.bnd_some]; exact K s false h0)
  | true => rw [if_pos rfl, if_pos rfl]; exact go_J K hb
theorem k_orD {σ : Type} {R : S → σ → Prop} {z0 : σ} {m n : M S Bool} {x : Bool} {t : Option (Bool × σ)} {k : Bool × S → Option γ'} {o : Bool × σ → Option δ'} (h0 : R s z0) (h : m s = some (x, s))
    (hb : QE (fun s' y (r : Bool × σ) => R s' r.2 ∧ y = r.1) ((n s).bind some) t) (K : ∀ s' r, R s' r.2 → Q (k (r.1, s')) (o r)) : Q ((orM m n s).bind k) ((if x = true then some (true, z0) else t).bnd o) := by
  rw [e_orM, h]
  simp only [Option.bind_some]
  rw [bnd_r] at hb
  cases x with
  | false => rw [if_neg (by decide), if_neg (by decide)]; exact go_D K hb
  | true => rw [if_pos rfl, if_pos rfl]; (rw [Option.bnd_some]; exact K s (true, z0) h0)
theorem k_orJ {R : S → Prop} {m n : M S Bool} {x : Bool} {t : Option Bool} {k : Bool × S → Option γ'} {o : Bool → Option δ'} (h0 : R s) (h : m s = some (x, s))
    (hb : QE (fun s' y r => R s' ∧ y = r) ((n s).bind some) t) (K : ∀ s' r, R s' → Q (k (r, s')) (o r)) : Q ((orM m n s).bind k) ((if x = true then some true else t).bnd o) := by
  rw [e_orM, h]
  simp only [Option.bind_some]
  rw [bnd_r] at hb
  cases x with
  | false => rw [if_neg (by decide), if_neg (by decide)]; exact go_J K hb
  | true => rw [if_pos rfl, if_pos rfl]; (rw [Option.bnd_some]; exact K s true h0)
theorem k_ifD {σ : Type} {R : S → σ → Prop} {z0 : σ} {c : M S Bool} {m n : M S α} {x : Bool} {t u : Option (α × σ)} {k : α × S → Option γ'} {o : α × σ → Option δ'} (h0 : R s z0) (h : c s = some (x, s))
    (ha : QE (fun s' y (r : α × σ) => R s' r.2 ∧ y = r.1) ((m s).bind some) t) (hb : QE (fun s' y (r : α × σ) => R s' r.2 ∧ y = r.1) ((n s).bind some) u) (K : ∀ s' r, R s' r.2 → Q (k (r.1, s')) (o r)) : Q ((ifM c m n s).bind k) ((if x = true then t else u).bnd o) := by
  rw [e_ifM, h]
  simp only [Option.bind_some]
  rw [bnd_r] at ha hb
  cases x with
  | true => rw [if_pos rfl, if_pos rfl]; exact go_D K ha
  | false => rw [if_neg (by decide), if_neg (by decide)]; exact go_D K hb
theorem k_ifJ {R : S → Prop} {c : M S Bool} {m n : M S α} {x : Bool} {t u : Option α} {k : α × S → Option γ'} {o : α → Option δ'} (h0 : R s) (h : c s = some (x, s))
    (ha : QE (fun s' y r => R s' ∧ y = r) ((m s).bind some) t) (hb : QE (fun s' y r => R s' ∧ y = r) ((n s).bind some) u) (K : ∀ s' r, R s' → Q (k (r, s')) (o r)) : Q ((ifM c m n s).bind k) ((if x = true then t else u).bnd o) := by
  rw [e_ifM, h]
  simp only [Option.bind_some]
  rw [bnd_r] at ha hb
  cases x with
  | true => rw [if_pos rfl, if_pos rfl]; exact go_J K ha
  | false => rw [if_neg (by decide), if_neg (by decide)]; exact go_J K hb
theorem k_popA [Enc α] {k : Nat} {p : Pos S (Own (List α)) k} {m : M S Int} {x : List α} {k' : α × S → Option γ'} {o : Option δ'} (h : p.get s = .mine x)
    (K : Q ((m s).bind fun i => (rdo p i.2).bind fun xs => (if 0 ≤ i.1 ∧ i.1 < 2 ^ 62 then xs.1[i.1.toNat]? else none).bind fun y => k' (y, p.put xs.2 (.mine (xs.1.eraseIdx i.1.toNat)))) o) : Q ((popM p m s).bind k') o := by
  rw [e_popM, v_rdo h]
  have e : ((some (x, s)).bind fun p1 => (m p1.2).bind fun i => (rdo p i.2).bind fun xs => if 0 ≤ i.1 ∧ i.1 < 2 ^ 62 then xs.1[i.1.toNat]?.map fun y => (y, p.put xs.2 (.mine (xs.1.eraseIdx i.1.toNat))) else none).bind k' = (m s).bind fun i => (rdo p i.2).bind fun xs => (if 0 ≤ i.1 ∧ i.1 < 2 ^ 62 then xs.1[i.1.toNat]? else none).bind fun y => k' (y, p.put xs.2 (.mine (xs.1.eraseIdx i.1.toNat))) := by
    simp only [Option.bind_some, Option.bind_assoc]
    congr 1
    funext i
    congr 1
    funext xs
    by_cases c : 0 ≤ i.1 ∧ i.1 < 2 ^ 62
    · simp only [c, and_self, if_true]
      cases xs.1[i.1.toNat]? <;> rfl
    · simp only [c, if_false]
      rfl
  rw [e]
  exact K
end
end Rm
namespace Rm
open PySem PySem.Spec PyProof.Rows L2 Rg
open Enc (rel)
open Cell (cel)
open Slot (srel)
open Slots (srels)
section
variable {K : PySem.W.Frag} {d : Addr → Prop} {F0 H0 : Hp} {S : Type} [Slots S]
def gGcd (a b : Int) : Int := ((Nat.gcd a.natAbs b.natAbs : Nat) : Int)
theorem rb_gcd : RB K d F0 H0 S rGcd (fun x : Int × Int × Unit => some (gGcd x.1 x.2.1)) := by
  intro Z s σ F H c vs x z r e Q q
  cases e
  obtain ⟨v, ws, rfl, r, w, us, rfl, r2, rfl⟩ := r
  cases r
  cases r2
  exact ⟨_, _, rfl, q _ _ _ c (Same.refl _) rfl⟩
/-- the first place of a number -/
def gIndex (xs : List Int) (x : Int) : Option Int := if x ∈ xs then some (xs.idxOf x : Nat) else none
theorem eqV_int {a b : Int} : eqV (.int a) (.int b) = decide (a = b) := by
  unfold eqV
  by_cases h : a = b
  · subst h; simp
  · simp [h]
theorem index_go {xs : List Int} {x z : Int} {H : Hp} {a : Addr} {Q : VK} (e : gIndex xs x = some z) (h : SqL K H a (xs.map V.int)) (q : Q (.int z) H) : rIndex K (.ref a) [.int x] H Q := by
  obtain ⟨k, rfl⟩ := ite_some e
  have hl := List.idxOf_lt_length_iff.mpr k
  refine ⟨a, _, .int x, xs.idxOf x, .int x, rfl, rfl, h, rfl, ?_, ?_, ?_, fun m z' hm hz => ?_, q⟩
  · rw [List.all_map, List.all_eq_true]; intro y _; rfl
  · rw [List.getElem?_map, List.getElem?_eq_getElem hl]
    simp
  · rw [eqV_int]; simp
  · rw [List.getElem?_map] at hz
    have hm2 : m < xs.length := by omega
    rw [List.getElem?_eq_getElem hm2] at hz
    cases hz
    rw [eqV_int, decide_eq_false]
    intro e
    have := List.not_of_lt_findIdx (p := (· == x)) (xs := xs) hm
    simp [e] at this
theorem j_index {t : TE} {u : TE} {m : M S (List Int)} {n : M S Int} (h : JE K d F0 H0 S t m) (h2 : JE K d F0 H0 S u n) : JE K d F0 H0 S (tBM K "list" (rIndex K) t (tCons u tNil)) (op2 gIndex m n) := by
  intro Z s σ F H c x s' e Q q
  obtain ⟨y1, s1, e1, e⟩ := bnd_some e
  obtain ⟨y2, s2, e2, e⟩ := bnd_some e
  obtain ⟨e3, rfl⟩ := lft_some e
  refine r_bm (h _ _ _ _ _ c _ _ e1 _ fun v F1 H1 c1 q1 r1 => ?_)
  obtain ⟨a, vs, rfl, hs, p⟩ := r1
  have e := paired_ints p
  subst e
  refine ⟨.inl ⟨rfl, _, Same.seq c1.fh hs⟩, r_cons (h2 _ _ _ _ _ c1 _ _ e2 _ fun w F2 H2 c2 q2 r2 => r_nil ?_)⟩
  cases r2
  exact index_go e3 (Same.seq c2.fh (Same.seq q2 hs)) (q _ _ _ c2 (q1.trans q2) rfl)
theorem j_indexO {k : Nat} (p : Pos S (Own (List Int)) k) {t : TE} {m : M S Int} (h : JE K d F0 H0 S t m) : JE K d F0 H0 S (tBM K "list" (rIndex K) (tVar k) (tCons t tNil)) (ixO p m gIndex) := by
  intro Z s σ F H c x s' e Q q
  obtain ⟨x0, i, y, e0, e1, e2, e3⟩ := ixO_some e
  obtain ⟨a, vs, h1, ha, _⟩ := c.peek p e0
  refine r_bm ⟨.ref a, h1, .inl ⟨rfl, _, sqe ha⟩, r_cons (h _ _ _ _ _ c _ _ e1 _ fun v F' H' c' sf r => r_nil ?_)⟩
  cases r
  obtain ⟨a', vs', h1', ha', pr⟩ := c'.peek p e2
  rw [h1] at h1'
  cases h1'
  have e := paired_ints pr
  subst e
  exact index_go e3 (sqe ha') (q _ _ _ c' sf rfl)
/-- how often a number stands there -/
theorem j_count {t : TE} {u : TE} {m : M S (List Int)} {n : M S Int} (h : JE K d F0 H0 S t m) (h2 : JE K d F0 H0 S u n) : JE K d F0 H0 S (tBM K "list" (rCntI K) t (tCons u tNil)) (op2 (fun (xs : List Int) (x : Int) => some ((xs.count x : Nat) : Int)) m n) := by
  intro Z s σ F H c x s' e Q q
  obtain ⟨y1, s1, e1, e⟩ := bnd_some e
  obtain ⟨y2, s2, e2, e⟩ := bnd_some e
  obtain ⟨e3, rfl⟩ := lft_some e
  cases e3
  refine r_bm (h _ _ _ _ _ c _ _ e1 _ fun v F1 H1 c1 q1 r1 => ?_)
  obtain ⟨a, vs, rfl, hs, p⟩ := r1
  have e := paired_ints p
  subst e
  refine ⟨.inl ⟨rfl, _, Same.seq c1.fh hs⟩, r_cons (h2 _ _ _ _ _ c1 _ _ e2 _ fun w F2 H2 c2 q2 r2 => r_nil ?_)⟩
  cases r2
  exact ⟨a, _, _, rfl, rfl, Same.seq c2.fh (Same.seq q2 hs), q _ _ _ c2 (q1.trans q2) rfl⟩
/-! ### lists of unlike things -/
class EncAD (A : Type) [EncA A] where
  ds : A → List PyData
  ln : Nat
  len : ∀ {K : PySem.W.Frag} {F : Hp} {vs : List V} {x : A}, EncA.rels K F vs x → vs.length = ln
  dps : ∀ {K : PySem.W.Frag} {F : Hp} {vs : List V} {x : A}, EncA.rels K F vs x → DpAll K F vs (ds x)
instance : EncAD Unit := ⟨fun _ => [], 0, fun h => by cases (show _ = _ from h); rfl, fun h => by cases (show _ = _ from h); exact .nil⟩
instance {α A : Type} [Enc α] [EncD α] [EncA A] [EncAD A] : EncAD (α × A) := ⟨fun x => EncD.d x.1 :: EncAD.ds x.2, EncAD.ln A + 1, fun ⟨v, ws, e, r, t⟩ => by subst e; exact congrArg (· + 1) (EncAD.len t), fun ⟨v, ws, e, r, t⟩ => by subst e; exact .cons (EncD.dp r) (EncAD.dps t)⟩
structure Hl (A : Type) where
  it : A
instance {A : Type} [EncA A] : Enc (Hl A) := ⟨fun K F v x => ∃ a vs, v = .ref a ∧ SqL K F a vs ∧ EncA.rels K F vs x.it, fun s ⟨a, vs, e, h, p⟩ => ⟨a, vs, e, Same.seq s h, EncA.mono s p⟩⟩
instance {A : Type} [EncA A] [EncAD A] : EncD (Hl A) := ⟨fun x => .list (EncAD.ds x.it), fun ⟨a, vs, e, h, p⟩ => by subst e; exact .lst h (EncAD.dps p)⟩
theorem j_hl {A : Type} [EncA A] [EncAD A] {t : TA} {m : M S A} (hl : EncAD.ln A ≤ 100000) (h : JA K d F0 H0 S t m) : JE K d F0 H0 S (tLst t) (op1 (fun x : A => some (Hl.mk x)) m) := by
  intro Z s σ F H c x s' e Q q
  obtain ⟨y1, s1, e1, e⟩ := bnd_some e
  obtain ⟨e3, rfl⟩ := lft_some e
  cases e3
  refine r_lst (h _ _ _ _ _ c _ _ e1 _ fun vs F1 H1 c1 q1 r1 => ⟨?_, fun p hp => ?_⟩)
  · rw [EncAD.len r1]; exact Nat.le_trans hl (by decide)
  · have n := c1.new hp (.lst vs)
    exact q _ _ _ n.1 (q1.trans n.2) ⟨p, vs, rfl, .inl (.inl upd_same), EncA.mono n.2 r1⟩
/-- repr of whatever is data -/
theorem rb_reprA {α : Type} [Enc α] [EncD α] : RB K d F0 H0 S (rReprA K) (fun x : α × Unit => gRepr x.1) := by
  intro Z s σ F H c vs x z r e Q q
  obtain ⟨k, rfl⟩ := gRepr_some e
  obtain ⟨v, ws, rfl, r, rfl⟩ := r
  exact ⟨v, _, rfl, .inl (Dp.same c.fh (EncD.dp r)), .inl k, q _ _ _ c (Same.refl _) rfl⟩
/-! ### calls by position and by keyword -/
end
end Rm
namespace Rg
open PySem PySem.Spec PyProof.Rows L2
section
variable {X : Cx} {C : CXT} {k : Nat} {f : Addr} {fd : FuncData} {ps ks : List Str} {sp : Sp} {E : XK} {x : Str} {p pos : PySem.Pos} {e : Expr} {es : List Expr} {kws : List Keyword} {t tk : TA}
theorem pe_callKG {g : List Value → List Value → List Value} {gV : List V → List V → List V} (F : FnG X.prog X.w X.K X.mg X.base C k f fd ps sp) (hgd : X.A.guards = some []) (hr : Room k X.A) (gl : Gl X x) (hm : X.mg x = some (.ref f)) (hk : PySem.W.keepIn X.K (.ref f) = true) (hb : KBinds X.K fd ps ks g gV) (hx : Passes C X E) (ha : PA X (e :: es) t) (hw : PK X kws tk)
    (hall : (backToKw pos (keywordEach kws X.env)).all (·.1.isSome) = true := by rfl) (hks : (backToKw pos (keywordEach kws X.env)).filterMap (·.1) = ks := by rfl) (hd : (x == ("__debug__" : Str)) = false := by decide) (he : starEach (e :: es) X.env = (false, eval e X.env) :: starEach es X.env := by rfl)
    (hp : ((backTo pos (starEach (e :: es) X.env)).any (·.1) || (backToKw pos (keywordEach kws X.env)).any (·.1.isNone)) = false := by rfl) : PE X (.Call (.Name x p) (e :: es) kws pos) (tCallK sp gV E t tk) := by
  constructor
  intro pins s σ H Q I h
  refine wpAny_Call_Name_kw (ld_glob I gl hm (PySem.W.callWith_KW (h₀ := X.base) I.ok.mod.kin hk hall (thn (ha.run pos pins s σ H _ I h) fun us s1 z => ?_) hp he) hd)
  obtain ⟨vs, H1, I1, r, h1⟩ := z
  refine thn (hw.run pos pins s1 σ H1 _ I1 h1) fun ws s2 z => ?_
  obtain ⟨zs, H2, I2, r2, q⟩ := z
  refine ⟨I2.kIn, ?_⟩
  rw [hks]
  have rr := hb.rel r r2
  exact runG F hgd hr hx I2 (hb.to s2 us ws I2.kIn (by rw [← rr.length]; exact F.ln q)) rr q
end
end Rg
namespace Rm
open PySem PySem.Spec PyProof.Rows L2 Rg
open Enc (rel)
open Cell (cel)
open Slot (srel)
open Slots (srels)
section
variable {K : PySem.W.Frag} {d : Addr → Prop} {F0 H0 : Hp} {S : Type} [Slots S]
/-- n by position, then keywords in any order -/
def mix {α : Type} (n : Nat) (js : List Nat) (us ws : List α) : List α := if us.length = n ∧ ws.length = js.length then us ++ prm js ws else []
theorem mix_len {α : Type} {n m : Nat} {js : List Nat} {us ws : List α} (h : (mix n js us ws).length = m) (k : 0 < m) : us.length = n ∧ ws.length = js.length := by
  unfold mix at h
  by_cases c : us.length = n ∧ ws.length = js.length
  · exact c
  · rw [if_neg c] at h
    simp at h
    omega
theorem vals_append : ∀ {xs ys : List V} {us ws : List Value}, Vals xs us → Vals ys ws → Vals (xs ++ ys) (us ++ ws)
  | _, _, _, _, .nil, h => h
  | _, _, _, _, .cons a t, h => .cons a (vals_append t h)
theorem mix_rel {n : Nat} {js : List Nat} {vs : List V} {us : List Value} {zs : List V} {ws : List Value} (h : Vals vs us) (k : Vals zs ws) : Vals (mix n js vs zs) (mix n js us ws) := by
  have l1 := h.length
  have l2 := k.length
  unfold mix
  rw [l1, l2]
  by_cases c : us.length = n ∧ ws.length = js.length
  · rw [if_pos c, if_pos c]
    exact vals_append h (prm_rl k)
  · rw [if_neg c, if_neg c]
    exact .nil
theorem kbm {K : PySem.W.Frag} {x qual : Str} {st : Stmt} {f : Addr} {fd : FuncData} {ps ks : List Str} {n : Nat} {js : List Nat} (F : Fun K x qual st f fd) (hp : 0 < ps.length)
    (h : ∀ (kV doc pm : Value) (an : Option Addr) (cdv ct : Value) (us ws : List Value), us.length = n → ws.length = js.length → bindArgs (PySem.W.fnOf x qual (defArgs st) (defBody st) (defScope st) .none kV doc pm an cdv ct) ⟨us, ks.zip ws⟩ = pure (ps.zip (us ++ prm js ws))) : KBinds K fd ps ks (mix n js) (mix n js) := by
  obtain ⟨oc, od, kV, doc, pm, an, cdv, ct, osl, rfl, lk, hcd⟩ := F.ex
  refine ⟨fun s us ws _ hl => ?_, fun h k => mix_rel h k⟩
  have c := mix_len hl hp
  have e : mix n js us ws = us ++ prm js ws := if_pos c
  rw [e]
  exact .of_eq (h _ _ _ _ _ _ us ws c.1 c.2)
theorem j_callM {A B C γ : Type} [EncA A] [EncA B] [EncA C] [Enc γ] {f : C → Option γ} {E : XK} {gV : List V → List V → List V} {gA : A → B → C} {t u : TA} {m : M S A} {n : M S B} (hg : ∀ F vs zs x y, EncA.rels K F vs x → EncA.rels K F zs y → EncA.rels K F (gV vs zs) (gA x y))
    (ha : JA K d F0 H0 S t m) (hb : JA K d F0 H0 S u n) : JE K d F0 H0 S (tCallK (spP K f) gV E t u) (op1 (fun p : A × B => f (gA p.1 p.2)) (pairM m n)) := by
  intro Z s σ F H c z s' e Q q
  obtain ⟨y1, s1, e1, e⟩ := bnd_some e
  obtain ⟨e3, rfl⟩ := lft_some e
  obtain ⟨x, s2, e4, e1⟩ := bnd_some e1
  obtain ⟨y, s3, e5, e1⟩ := bnd_some e1
  cases e1
  exact ha _ _ _ _ _ c _ _ e4 _ fun vs F1 H1 c1 q1 r1 => hb _ _ _ _ _ c1 _ _ e5 _ fun zs F2 H2 c2 q2 r2 => ⟨F2, _, z, c2.fh, hg _ _ _ _ _ (EncA.mono q2 r1) r2, e3, fun v F' H' g r => q _ _ _ (c2.call g) (q1.trans (q2.trans g.ff)) r⟩
theorem jf_callM {A B C γ : Type} [EncA A] [EncA B] [EncA C] [Enc γ] {f : C → Option (List γ)} {E : XK} {gV : List V → List V → List V} {gA : A → B → C} {t u : TA} {m : M S A} {n : M S B} (hg : ∀ F vs zs x y, EncA.rels K F vs x → EncA.rels K F zs y → EncA.rels K F (gV vs zs) (gA x y))
    (ha : JA K d F0 H0 S t m) (hb : JA K d F0 H0 S u n) : JF K d F0 H0 S (tCallK (spN K f) gV E t u) (op1 (fun p : A × B => f (gA p.1 p.2)) (pairM m n)) := by
  intro Z s σ F H c z s' e Q q
  obtain ⟨y1, s1, e1, e⟩ := bnd_some e
  obtain ⟨e3, rfl⟩ := lft_some e
  obtain ⟨x, s2, e4, e1⟩ := bnd_some e1
  obtain ⟨y, s3, e5, e1⟩ := bnd_some e1
  cases e1
  exact ha _ _ _ _ _ c _ _ e4 _ fun vs F1 H1 c1 q1 r1 => hb _ _ _ _ _ c1 _ _ e5 _ fun zs F2 H2 c2 q2 r2 => ⟨F2, _, z, c2.fh, hg _ _ _ _ _ (EncA.mono q2 r1) r2, e3, fun ws p F' H' g hp r => q _ _ _ _ (c2.call g) (q1.trans (q2.trans g.ff)) hp r⟩
/-- divmod of numbers of any size -/
@[irreducible] def gDivmodW (i j : Int) : Option (Int × Int) := if 0 < j ∧ Builtin.divisionGoesByPylong i j = false then some (i / j, i % j) else none
theorem rb_divmodW : RB K d F0 H0 S (fun xs H Q => ∃ i j, xs = [.int i, .int j] ∧ CDivP i j ∧ ∀ p, H p = none → Q (.ref p) (upd H p (.tup [.int (i / j), .int (i % j)]))) (fun x : Int × Int × Unit => gDivmodW x.1 x.2.1) := by
  intro Z s σ F H c vs x z r e Q q
  unfold gDivmodW at e
  obtain ⟨k, rfl⟩ := ite_some e
  obtain ⟨v, ws, rfl, r, w, us, rfl, r2, rfl⟩ := r
  cases r
  cases r2
  refine ⟨_, _, rfl, k, fun p hp => ?_⟩
  have n := c.new hp (.tup [.int (x.1 / x.2.1), .int (x.1 % x.2.1)])
  exact q _ _ _ n.1 n.2 ⟨p, _, _, rfl, .inl (.inl upd_same), rfl, rfl⟩
/-! ### any data -/
instance : Enc PyData := ⟨fun K F v d => Dp K F v d, fun s h => Dp.same s h⟩
instance : EncD PyData := ⟨fun d => d, fun h => h⟩
theorem j_any {α : Type} [Enc α] [EncD α] {t : TE} {m : M S α} (h : JE K d F0 H0 S t m) : JE K d F0 H0 S t (op1 (fun x : α => some (EncD.d x : PyData)) m) := by
  intro Z s σ F H c x s' e Q q
  obtain ⟨y1, s1, e1, e⟩ := bnd_some e
  obtain ⟨e3, rfl⟩ := lft_some e
  cases e3
  exact h _ _ _ _ _ c _ _ e1 _ fun v F1 H1 c1 q1 r1 => q v _ _ c1 q1 (EncD.dp r1)
theorem j_anyL {α : Type} [Enc α] [EncD α] {t : TE} {m : M S (List α)} (h : JE K d F0 H0 S t m) : JE K d F0 H0 S t (op1 (fun x : List α => some (x.map (fun y => (EncD.d y : PyData)))) m) := by
  intro Z s σ F H c x s' e Q q
  obtain ⟨y1, s1, e1, e⟩ := bnd_some e
  obtain ⟨e3, rfl⟩ := lft_some e
  cases e3
  refine h _ _ _ _ _ c _ _ e1 _ fun v F1 H1 c1 q1 r1 => q v _ _ c1 q1 ?_
  obtain ⟨a, vs, rfl, hs, p⟩ := r1
  exact ⟨a, vs, rfl, hs, Paired.map (Paired.imp (fun _ _ r => EncD.dp r) p)⟩
end
section
variable {K : PySem.W.Frag} {d : Addr → Prop} {F0 H0 : Hp} {S : Type} [Slots S] {ρ : Type} {RT : S → Hp → VK → ρ → Prop} [RTm RT]
theorem js_par3ODO {α β γ : Type} [Enc α] [Enc β] [Enc γ] {i j k : Nat} (p : Pos S (Own (List α)) i) (p' : Pos S (Dt β) j) (p'' : Pos S (Own (List γ)) k) {ta tb tc : TE} {m : M S (List α)} {n : M S β} {l : M S (List γ)} (ha : JF K d F0 H0 S ta m) (hb : JE K d F0 H0 S tb n) (hc : JF K d F0 H0 S tc l) :
    JS K d F0 H0 S RT (tPar3 i j k (tCons ta (tCons tb (tCons tc tNil)))) (par3OM m n l (pOwn p) (pName p') (pOwn p'')) := by
  intro s σ F H c f e D q
  obtain ⟨x, s1, e1, ea⟩ := bindS_some e
  obtain ⟨y, s2, e2, eb⟩ := bindS_some ea
  obtain ⟨z, s3, e3, ec⟩ := bindS_some eb
  cases ec
  refine r_par3 (r_cons (ha _ _ _ _ _ c _ _ e1 _ fun vs a F1 H1 c1 q1 hp r1 => r_cons (hb _ _ _ _ _ (c1.junk hp (.lst vs)) _ _ e2 _ fun v F2 H2 c2 q2 r2 => r_cons (hc _ _ _ _ _ c2 _ _ e3 _ fun vs3 a3 F3 H3 c3 q3 hp3 r3 => r_nil ?_))))
  exact ⟨_, _, _, rfl, q _ F3 _ (((c3.ownHeld rfl p ⟨vs, rfl, Paired.imp (fun _ _ => Enc.mono (q2.trans q3)) r1⟩).set p' (Enc.mono q3 r2)).own p'' hp3 ⟨vs3, rfl, r3⟩) (q1.trans (q2.trans q3))⟩
theorem js_par3DDO {α β γ : Type} [Enc α] [Enc β] [Enc γ] {i j k : Nat} (p : Pos S (Dt α) i) (p' : Pos S (Dt β) j) (p'' : Pos S (Own (List γ)) k) {ta tb tc : TE} {m : M S α} {n : M S β} {l : M S (List γ)} (ha : JE K d F0 H0 S ta m) (hb : JE K d F0 H0 S tb n) (hc : JF K d F0 H0 S tc l) :
    JS K d F0 H0 S RT (tPar3 i j k (tCons ta (tCons tb (tCons tc tNil)))) (par3OM m n l (pName p) (pName p') (pOwn p'')) := by
  intro s σ F H c f e D q
  obtain ⟨x, s1, e1, ea⟩ := bindS_some e
  obtain ⟨y, s2, e2, eb⟩ := bindS_some ea
  obtain ⟨z, s3, e3, ec⟩ := bindS_some eb
  cases ec
  refine r_par3 (r_cons (ha _ _ _ _ _ c _ _ e1 _ fun u F1 H1 c1 q1 r1 => r_cons (hb _ _ _ _ _ c1 _ _ e2 _ fun v F2 H2 c2 q2 r2 => r_cons (hc _ _ _ _ _ c2 _ _ e3 _ fun vs3 a3 F3 H3 c3 q3 hp3 r3 => r_nil ?_))))
  exact ⟨_, _, _, rfl, q _ F3 _ (((c3.set p (Enc.mono (q2.trans q3) r1)).set p' (Enc.mono q3 r2)).own p'' hp3 ⟨vs3, rfl, r3⟩) (q1.trans (q2.trans q3))⟩
theorem js_par3DOD {α β γ : Type} [Enc α] [Enc β] [Enc γ] {i j k : Nat} (p : Pos S (Dt α) i) (p' : Pos S (Own (List β)) j) (p'' : Pos S (Dt γ) k) {ta tb tc : TE} {m : M S α} {n : M S (List β)} {l : M S γ} (ha : JE K d F0 H0 S ta m) (hb : JF K d F0 H0 S tb n) (hc : JE K d F0 H0 S tc l) :
    JS K d F0 H0 S RT (tPar3 i j k (tCons ta (tCons tb (tCons tc tNil)))) (par3OM m n l (pName p) (pOwn p') (pName p'')) := by
  intro s σ F H c f e D q
  obtain ⟨x, s1, e1, ea⟩ := bindS_some e
  obtain ⟨y, s2, e2, eb⟩ := bindS_some ea
  obtain ⟨z, s3, e3, ec⟩ := bindS_some eb
  cases ec
  refine r_par3 (r_cons (ha _ _ _ _ _ c _ _ e1 _ fun u F1 H1 c1 q1 r1 => r_cons (hb _ _ _ _ _ c1 _ _ e2 _ fun vs a F2 H2 c2 q2 hp r2 => r_cons (hc _ _ _ _ _ (c2.junk hp (.lst vs)) _ _ e3 _ fun w F3 H3 c3 q3 r3 => r_nil ?_))))
  exact ⟨_, _, _, rfl, q _ F3 _ (((c3.set p (Enc.mono (q2.trans q3) r1)).ownHeld rfl p' ⟨vs, rfl, Paired.imp (fun _ _ => Enc.mono q3) r2⟩).set p'' r3) (q1.trans (q2.trans q3))⟩
theorem js_par3DOO {α β γ : Type} [Enc α] [Enc β] [Enc γ] {i j k : Nat} (p : Pos S (Dt α) i) (p' : Pos S (Own (List β)) j) (p'' : Pos S (Own (List γ)) k) {ta tb tc : TE} {m : M S α} {n : M S (List β)} {l : M S (List γ)} (ha : JE K d F0 H0 S ta m) (hb : JF K d F0 H0 S tb n) (hc : JF K d F0 H0 S tc l) :
    JS K d F0 H0 S RT (tPar3 i j k (tCons ta (tCons tb (tCons tc tNil)))) (par3OM m n l (pName p) (pOwn p') (pOwn p'')) := by
  intro s σ F H c f e D q
  obtain ⟨x, s1, e1, ea⟩ := bindS_some e
  obtain ⟨y, s2, e2, eb⟩ := bindS_some ea
  obtain ⟨z, s3, e3, ec⟩ := bindS_some eb
  cases ec
  refine r_par3 (r_cons (ha _ _ _ _ _ c _ _ e1 _ fun u F1 H1 c1 q1 r1 => r_cons (hb _ _ _ _ _ c1 _ _ e2 _ fun vs a F2 H2 c2 q2 hp r2 => r_cons (hc _ _ _ _ _ (c2.junk hp (.lst vs)) _ _ e3 _ fun vs3 a3 F3 H3 c3 q3 hp3 r3 => r_nil ?_))))
  exact ⟨_, _, _, rfl, q _ F3 _ (((c3.set p (Enc.mono (q2.trans q3) r1)).ownHeld rfl p' ⟨vs, rfl, Paired.imp (fun _ _ => Enc.mono q3) r2⟩).own p'' hp3 ⟨vs3, rfl, r3⟩) (q1.trans (q2.trans q3))⟩
end
end Rm
namespace Rm
open PySem PySem.Spec PyProof.Rows L2 Rg
open Enc (rel)
open Cell (cel)
open Slot (srel)
open Slots (srels)
section
variable {K : PySem.W.Frag} {d : Addr → Prop} {F0 H0 : Hp} {S : Type} [Slots S]
/-! ### a built-in that is handed a variable's own list, and whose result does not lead to it -/
theorem cx_unit {F H : Hp} (h : Same F H) : Cx K (fun _ => False) F H (S := Unit) (fun _ => none) () [] F H :=
  ⟨Gr.refl h, fun _ z => z.elim, fun _ => none, fun _ _ e => (nomatch e), fun _ _ e => (nomatch e), rfl⟩
theorem same_own {F H : Hp} {a : Addr} {o : HO} (s : Same F H) (ha : H a = some o) : Same (upd F a o) H := fun b u z => by
  by_cases n : b = a
  · subst n; rw [upd_same] at z; rw [← z]; exact ha
  · rw [upd_ne n] at z; exact s b u z
theorem j_cbO {α A B γ : Type} [Enc α] [EncA A] [Enc γ] [Flat γ] {r : List V → Hp → VK → Prop} {f : A → Option γ} {k : Nat} (h : ∀ F0 H0, RB K (fun _ => False) F0 H0 Unit r f) (p : Pos S (Own (List α)) k) {t : TA} {m : M S B} {ins : List α → B → A} (ha : JX K d F0 H0 S k t m ins) :
    JE K d F0 H0 S (tCB r t) (ixO p m fun x y => f (ins x y)) := by
  intro Z s σ F H c x s' e Q q
  obtain ⟨x0, i, y, e0, e1, e2, e3⟩ := ixO_some e
  obtain ⟨a, vs0, h1, _, _⟩ := c.peek p e0
  refine r_cb (ha _ _ _ _ _ c a h1 _ _ e1 _ fun vs F1 H1 c1 q1 r1 => ?_)
  obtain ⟨a', o, h1', hh, ⟨ws, rfl, pr⟩, fa, _⟩ := c1.mut p e2
  rw [h1] at h1'
  cases h1'
  refine h _ _ _ _ _ _ _ (cx_unit (same_own c1.fh hh)) vs (ins y i) x (r1 _ _ (Same.new fa) (rel_newl fa pr)) e3 Q fun v F2 H2 c2 sf r => ?_
  have gl := gr_less fa hh c2.1
  exact q _ _ _ (c1.call gl.1) (q1.trans gl.1.ff) (Flat.fl r gl.2)
theorem jf_cbO {α A B γ : Type} [Enc α] [EncA A] [Enc γ] [Flat γ] {r : List V → Hp → VK → Prop} {f : A → Option (List γ)} {k : Nat} (h : ∀ F0 H0, RBF K (fun _ => False) F0 H0 Unit r f) (p : Pos S (Own (List α)) k) {t : TA} {m : M S B} {ins : List α → B → A} (ha : JX K d F0 H0 S k t m ins) :
    JF K d F0 H0 S (tCB r t) (ixO p m fun x y => f (ins x y)) := by
  intro Z s σ F H c x s' e Q q
  obtain ⟨x0, i, y, e0, e1, e2, e3⟩ := ixO_some e
  obtain ⟨a, vs0, h1, _, _⟩ := c.peek p e0
  refine r_cb (ha _ _ _ _ _ c a h1 _ _ e1 _ fun vs F1 H1 c1 q1 r1 => ?_)
  obtain ⟨a', o, h1', hh, ⟨ws, rfl, pr⟩, fa, _⟩ := c1.mut p e2
  rw [h1] at h1'
  cases h1'
  refine h _ _ _ _ _ _ _ (cx_unit (same_own c1.fh hh)) vs (ins y i) x (r1 _ _ (Same.new fa) (rel_newl fa pr)) e3 Q fun zs l F2 H2 c2 sf hl r => ?_
  have gl := gr_less fa hh c2.1
  exact q _ _ _ _ (c1.call gl.1) (q1.trans gl.1.ff) hl (Paired.imp (fun _ _ r => Flat.fl r gl.2) r)
/-! ### own lists within an own list: told = [new list, value, ..], where told[i] is changed later -/
inductive Tre (fl : List Bool) (A : Type) | no | mine (x : A) | cut (j : Nat)
class TrA (fl : List Bool) (A : Type) where
  rels : PySem.W.Frag → (Addr → Prop) → Hp → Hp → List V → A → List Addr → Prop
  ds : A → List PyData
  ln : Nat
  ok : A → Bool
  len : ∀ {K : PySem.W.Frag} {g : Addr → Prop} {F H : Hp} {vs : List V} {x : A} {as : List Addr}, rels K g F H vs x as → vs.length = ln
  gd : ∀ {K : PySem.W.Frag} {g : Addr → Prop} {F H : Hp} {vs : List V} {x : A} {as : List Addr}, rels K g F H vs x as → ∀ a ∈ as, g a ∧ ∃ us, H a = some (.lst us)
  grow : ∀ {K : PySem.W.Frag} {g g' : Addr → Prop} {F H F' H' : Hp} {vs : List V} {x : A} {as : List Addr}, rels K g F H vs x as → Same F F' → (∀ a ∈ as, g a → g' a ∧ H' a = H a) → rels K g' F' H' vs x as
  dps : ∀ {K : PySem.W.Frag} {g : Addr → Prop} {F H : Hp} {vs : List V} {x : A} {as : List Addr}, Same F H → rels K g F H vs x as → DpAll K H vs (ds x)
  own : ∀ {K : PySem.W.Frag} {g : Addr → Prop} {F H : Hp} {vs : List V} {x : A} {as : List Addr}, rels K g F H vs x as → as.Nodup → ok x = true → ∃ bs : Nat → Addr, (∀ i, fl[i]? = some true → vs[i]? = some (.ref (bs i)) ∧ bs i ∈ as ∧ g (bs i) ∧ ∃ us, H (bs i) = some (.lst us) ∧ us.length < 100000) ∧ ∀ i i', i < i' → fl[i]? = some true → fl[i']? = some true → bs i ≠ bs i'
instance : TrA [] Unit where
  rels := fun _ _ _ _ vs _ as => vs = [] ∧ as = []
  ds := fun _ => []
  ln := 0
  ok := fun _ => true
  len := fun h => by rw [h.1]; rfl
  gd := fun h a ha => by rw [h.2] at ha; cases ha
  grow := fun h _ _ => h
  dps := fun _ h => by rw [h.1]; exact .nil
  own := fun _ _ _ => ⟨fun _ => 0, fun i h => by simp at h, fun i i' _ h => by simp at h⟩
instance {fl : List Bool} {α A : Type} [Enc α] [EncD α] [TrA fl A] : TrA (false :: fl) (α × A) where
  rels := fun K g F H vs x as => ∃ v ws, vs = v :: ws ∧ rel K F v x.1 ∧ TrA.rels fl K g F H ws x.2 as
  ds := fun x => EncD.d x.1 :: TrA.ds fl x.2
  ln := TrA.ln fl A + 1
  ok := fun x => TrA.ok fl x.2
  len := fun ⟨v, ws, e, r, t⟩ => by rw [e, List.length_cons, TrA.len t]
  gd := fun ⟨v, ws, e, r, t⟩ => TrA.gd t
  grow := fun ⟨v, ws, e, r, t⟩ s k => ⟨v, ws, e, Enc.mono s r, TrA.grow t s k⟩
  dps := fun s ⟨v, ws, e, r, t⟩ => by rw [e]; exact .cons (Dp.same s (EncD.dp r)) (TrA.dps s t)
  own := fun ⟨v, ws, e, r, t⟩ nd ok => by
    obtain ⟨bs, h1, h2⟩ := TrA.own t nd ok
    refine ⟨fun i => match i with | 0 => 0 | n + 1 => bs n, fun i hi => ?_, fun i i' hl hi hi' => ?_⟩
    · cases i with
      | zero => simp at hi
      | succ n => rw [e]; simpa using h1 n (by simpa using hi)
    · cases i with
      | zero => simp at hi
      | succ n =>
        cases i' with
        | zero => omega
        | succ n' => exact h2 n n' (by omega) (by simpa using hi) (by simpa using hi')
instance {fl : List Bool} {α A : Type} [Enc α] [EncD α] [TrA fl A] : TrA (true :: fl) (List α × A) where
  rels := fun K g F H vs x as => ∃ b us ws bs, vs = .ref b :: ws ∧ as = b :: bs ∧ g b ∧ H b = some (.lst us) ∧ Paired (rel K F) us x.1 ∧ TrA.rels fl K g F H ws x.2 bs
  ds := fun x => EncD.d x.1 :: TrA.ds fl x.2
  ln := TrA.ln fl A + 1
  ok := fun x => decide (x.1.length < 100000) && TrA.ok fl x.2
  len := fun ⟨b, us, ws, bs, e, e2, g, h, r, t⟩ => by rw [e, List.length_cons, TrA.len t]
  gd := fun ⟨b, us, ws, bs, e, e2, g, h, r, t⟩ a ha => by
    rw [e2] at ha
    rcases List.mem_cons.mp ha with rfl | ha
    · exact ⟨g, us, h⟩
    · exact TrA.gd t a ha
  grow := fun ⟨b, us, ws, bs, e, e2, g, h, r, t⟩ s k => by
    have z := k b (by rw [e2]; exact List.mem_cons_self ..) g
    exact ⟨b, us, ws, bs, e, e2, z.1, by rw [z.2]; exact h, Paired.imp (fun _ _ => Enc.mono s) r, TrA.grow t s fun a ha => k a (by rw [e2]; exact List.mem_cons_of_mem _ ha)⟩
  dps := fun s ⟨b, us, ws, bs, e, e2, g, h, r, t⟩ => by
    rw [e]
    exact .cons (.lst (sqe h) (DpAll.same s (dpAll_of r))) (TrA.dps s t)
  own := fun ⟨b, us, ws, bs, e, e2, g, h, r, t⟩ nd ok => by
    subst e2
    have nd := List.nodup_cons.mp nd
    have ok := (Bool.and_eq_true _ _).mp ok
    obtain ⟨bs', h1, h2⟩ := TrA.own t nd.2 ok.2
    refine ⟨fun i => match i with | 0 => b | n + 1 => bs' n, fun i hi => ?_, fun i i' hl hi hi' => ?_⟩
    · cases i with
      | zero => exact ⟨by rw [e]; rfl, List.mem_cons_self .., g, us, h, by rw [Paired.length r]; exact of_decide_eq_true ok.1⟩
      | succ n =>
        obtain ⟨q1, q2, q3⟩ := h1 n (by simpa using hi)
        exact ⟨by rw [e]; simpa using q1, List.mem_cons_of_mem _ q2, q3⟩
    · cases i' with
      | zero => omega
      | succ n' =>
        cases i with
        | zero => exact fun z => nd.1 (by have := (h1 n' (by simpa using hi')).2.1; rw [← (show b = bs' n' from z)] at this; exact this)
        | succ n => exact h2 n n' (by omega) (by simpa using hi) (by simpa using hi')
/-- what a slot holds of lists that may still be changed -/
def CutR (fl : List Bool) (good : Addr → Prop) (H : Hp) (a : Addr) (vs : List V) (j : Nat) : Prop := ∃ bs : Nat → Addr, (∀ i, j ≤ i → fl[i]? = some true → vs[i]? = some (.ref (bs i)) ∧ bs i ≠ a ∧ good (bs i) ∧ ∃ us, H (bs i) = some (.lst us) ∧ us.length < 100000) ∧ ∀ i i', j ≤ i → i < i' → fl[i]? = some true → fl[i']? = some true → bs i ≠ bs i'
theorem CutR.grow {fl : List Bool} {good good' : Addr → Prop} {H H' : Hp} {a : Addr} {vs : List V} {j : Nat} (h : CutR fl good H a vs j) (k : ∀ b, good b → H b ≠ none → good' b ∧ H' b = H b) : CutR fl good' H' a vs j := by
  obtain ⟨bs, h1, h2⟩ := h
  refine ⟨bs, fun i hj hi => ?_, h2⟩
  obtain ⟨q1, q2, q3, us, q4, q5⟩ := h1 i hj hi
  obtain ⟨z1, z2⟩ := k _ q3 (by rw [q4]; simp)
  exact ⟨q1, q2, z1, us, by rw [z2]; exact q4, q5⟩
instance {fl : List Bool} {A : Type} [TrA fl A] : Slot (Tre fl A) := ⟨fun K P own F H i ov x => match x with
    | .no => True
    | .mine x => ∃ a vs as, ov = some (.ref a) ∧ (a :: as).Nodup ∧ (own a = some i ∧ P false a ∧ F a = none) ∧ H a = some (.lst vs) ∧ TrA.ok fl x = true ∧ TrA.rels fl K (fun b => own b = some i ∧ P false b ∧ F b = none) F H vs x as
    | .cut j => ∃ a vs, ov = some (.ref a) ∧ (own a = some i ∧ P false a ∧ F a = none) ∧ H a = some (.lst vs) ∧ CutR fl (fun b => own b = some i ∧ P false b ∧ F b = none) H a vs j,
  fun {K P own own' F H F' H' L i ov x} h s l => match x, h with
  | .no, h => trivial
  | .mine x, ⟨a, vs, as, e, nd, ⟨w, p, f⟩, g, ok, r⟩ => by
    obtain ⟨w', f', g'⟩ := s.ow i a l w f (by rw [g]; simp)
    refine ⟨a, vs, as, e, nd, ⟨w', p, f'⟩, by rw [g']; exact g, ok, TrA.grow r s.ff fun b hb ⟨w1, p1, f1⟩ => ?_⟩
    obtain ⟨_, us, hu⟩ := TrA.gd r b hb
    obtain ⟨w2, f2, g2⟩ := s.ow i b l w1 f1 (by rw [hu]; simp)
    exact ⟨⟨w2, p1, f2⟩, g2⟩
  | .cut j, ⟨a, vs, e, ⟨w, p, f⟩, g, r⟩ => by
    obtain ⟨w', f', g'⟩ := s.ow i a l w f (by rw [g]; simp)
    refine ⟨a, vs, e, ⟨w', p, f'⟩, by rw [g']; exact g, r.grow fun b ⟨w1, p1, f1⟩ hn => ?_⟩
    obtain ⟨w2, f2, g2⟩ := s.ow i b l w1 f1 hn
    exact ⟨⟨w2, p1, f2⟩, g2⟩⟩
/-- its items as they come -/
def JTr (K : PySem.W.Frag) (d : Addr → Prop) (F0 H0 : Hp) (S : Type) [Slots S] (fl : List Bool) {A : Type} [TrA fl A] (t : TA) (m : M S A) : Prop :=
  ∀ (Z : Hp) (s : S) (σ : L2.St) (F H : Hp), Cx K d F0 H0 Z s σ F H → ∀ (x : A) (s' : S), m s = some (x, s') → ∀ Q : List V → Hp → Prop,
    (∀ vs as F' H' Z', Cx K d F0 H0 Z' s' σ F' H' → Same F F' → (∀ a o, Z a = some o → Z' a = some o) → as.Nodup → (∀ a ∈ as, Z a = none) → TrA.rels fl K (fun b => Z' b ≠ none) F' Z' vs x as → Q vs H') → t σ H Q
theorem jtr_nil : JTr K d F0 H0 S [] tNil (nilA) := by
  intro Z s σ F H c x s' e Q q
  cases e
  exact r_nil (q _ [] _ _ _ c (Same.refl _) (fun _ _ e => e) List.nodup_nil (fun _ h => by cases h) ⟨rfl, rfl⟩)
theorem jtr_dat {fl : List Bool} {α A : Type} [Enc α] [EncD α] [TrA fl A] {ta : TE} {tb : TA} {ma : M S α} {mb : M S A} (ha : JE K d F0 H0 S ta ma) (hb : JTr K d F0 H0 S fl tb mb) : JTr K d F0 H0 S (false :: fl) (tCons ta tb) (consA ma mb) := by
  intro Z s σ F H c x s' e Q q
  obtain ⟨y1, s1, e1, e⟩ := bnd_some e
  obtain ⟨y2, s2, e2, e⟩ := bnd_some e
  cases e
  refine r_cons (ha _ _ _ _ _ c _ _ e1 _ fun v F1 H1 c1 q1 r1 => hb _ _ _ _ _ c1 _ _ e2 _ fun vs as F2 H2 Z2 c2 q2 hz nd ha hr => q _ as _ _ _ c2 (q1.trans q2) hz nd ha ⟨v, vs, rfl, Enc.mono q2 r1, hr⟩)
theorem jtr_new {fl : List Bool} {α A : Type} [Enc α] [EncD α] [TrA fl A] {ta : TE} {tb : TA} {ma : M S (List α)} {mb : M S A} (ha : JF K d F0 H0 S ta ma) (hb : JTr K d F0 H0 S fl tb mb) : JTr K d F0 H0 S (true :: fl) (tCons ta tb) (consA ma mb) := by
  intro Z s σ F H c x s' e Q q
  obtain ⟨y1, s1, e1, e⟩ := bnd_some e
  obtain ⟨y2, s2, e2, e⟩ := bnd_some e
  cases e
  refine r_cons (ha _ _ _ _ _ c _ _ e1 _ fun ws p F1 H1 c1 q1 hp r1 => hb _ _ _ _ _ (c1.junk hp (.lst ws)) _ _ e2 _ fun vs as F2 H2 Z2 c2 q2 hz nd ha hr => ?_)
  have zp : Z p = none := by
    cases z : Z p with
    | none => rfl
    | some o => have := (c1.hz z).1; rw [hp] at this; cases this
  have hz2 : Z2 p = some (.lst ws) := hz _ _ upd_same
  have np : p ∉ as := fun h => by have := ha p h; rw [upd_same] at this; cases this
  refine q _ (p :: as) _ _ _ c2 (q1.trans q2) (fun a o e => hz a o ?_) (List.nodup_cons.mpr ⟨np, nd⟩) (fun a h => ?_) ⟨p, ws, vs, as, rfl, rfl, by show Z2 p ≠ none; rw [hz2]; simp, hz2, Paired.imp (fun _ _ => Enc.mono q2) r1, hr⟩
  · rw [upd_ne (fun z => by subst z; rw [zp] at e; cases e)]
    exact e
  · rcases List.mem_cons.mp h with h | h
    · rw [h]; exact zp
    · have := ha a h
      rw [upd_ne (fun z => by rw [z] at h; exact np h)] at this
      exact this
/-- a variable takes new objects as its own -/
theorem Cx.ownT {fl : List Bool} {A : Type} [TrA fl A] {k : Nat} {Z Z' : Hp} {s : S} {σ : L2.St} {F H : Hp} (c : Cx K d F0 H0 Z' s σ F H) (p : Pos S (Tre fl A) k) {a : Addr} {as : List Addr} {vs : List V} {x : A} (ha : H a = none) (hz : ∀ a o, Z a = some o → Z' a = some o) (nd : as.Nodup) (hn : ∀ a ∈ as, Z a = none) (hok : TrA.ok fl x = true)
    (hr : TrA.rels fl K (fun b => Z' b ≠ none) F Z' vs x as) : Cx K d F0 H0 Z (p.put s (.mine x)) (σ.set k (some (.ref a))) F (upd H a (.lst vs)) := by
  obtain ⟨g, dn, own, w1, w2, sl⟩ := c
  have fa : F a = none := g.fh.free ha
  have h0 : H0 a = none := by
    cases q : H0 a with
    | none => rfl
    | some z => exact absurd ha (g.dm a (by rw [q]; simp))
  have ne : ∀ b, H b ≠ none → b ≠ a := fun b n z => n (by rw [z]; exact ha)
  have ia : ∀ b ∈ as, ∃ us, Z' b = some (.lst us) := fun b hb => (TrA.gd hr b hb).2
  have za : ∀ b ∈ as, H b ≠ none ∧ F b = none ∧ own b = none ∧ ¬ d b ∧ H0 b = none ∧ H b = Z' b := fun b hb => by
    obtain ⟨us, hu⟩ := ia b hb
    obtain ⟨q1, q2, q3, q4, q5⟩ := w2 b _ hu
    exact ⟨by rw [q1]; simp, q2, q3, q4, q5, by rw [q1, hu]⟩
  have na : a ∉ as := fun h => (za a h).1 ha
  refine ⟨⟨g.ff, fun b u q => ?_, fun b u n q => ?_, g.fr, fun b n => ?_⟩, dn, (fun b => if b = a ∨ b ∈ as then some k else own b), fun b j q => ?_, fun b u q => ?_, ?_⟩
  · rw [upd_ne (fun z => by subst z; rw [fa] at q; cases q)]
    exact g.fh b u q
  · rw [upd_ne (fun z => by subst z; rw [h0] at q; cases q)]
    exact g.hh b u n q
  · rw [upd_ne (ne b (g.dm b n))]
    exact g.dm b n
  · by_cases h : b = a
    · subst h; rw [upd_same]; simp
    · rw [upd_ne h]
      by_cases h2 : b ∈ as
      · exact (za b h2).1
      · simp [h, h2] at q
        exact w1 b j q
  · obtain ⟨q1, q2, q3, q4, q5⟩ := w2 b u (hz b u q)
    have n : b ≠ a := ne_of_none q1 ha
    have n2 : b ∉ as := fun h => by rw [hn b h] at q; cases q
    rw [upd_ne n]
    exact ⟨q1, q2, by simp [n, n2, q3], q4, q5⟩
  · refine p.wr (own' := fun b => if b = a ∨ b ∈ as then some k else own b) sl ⟨Same.refl _, fun j b l q f n => ?_⟩ ⟨a, vs, as, rfl, List.nodup_cons.mpr ⟨na, nd⟩, ⟨by simp, h0, fa⟩, upd_same, hok, TrA.grow hr (Same.refl _) fun b hb _ => ?_⟩
    · have z := ne b n
      have z2 : b ∉ as := fun h => by rw [(za b h).2.2.1] at q; cases q
      exact ⟨by simp [z, z2, q], f, upd_ne z⟩
    · obtain ⟨q1, q2, q3, q4, q5, q6⟩ := za b hb
      have n : b ≠ a := fun z => na (z ▸ hb)
      exact ⟨⟨by simp [hb], q5, q2⟩, by rw [upd_ne n]; exact q6⟩
/-- read as a whole -/
theorem Cx.peekT {fl : List Bool} {A : Type} [TrA fl A] {k : Nat} {Z : Hp} {s : S} {σ : L2.St} {F H : Hp} (c : Cx K d F0 H0 Z s σ F H) (p : Pos S (Tre fl A) k) {x : A} (e : p.get s = .mine x) : ∃ a vs, σ[k]? = some (some (.ref a)) ∧ H a = some (.lst vs) ∧ DpAll K H vs (TrA.ds fl x) := by
  obtain ⟨g, dn, own, w1, w2, sl⟩ := c
  obtain ⟨ov, h1, h2⟩ := p.rd sl
  rw [e] at h2
  obtain ⟨a, vs, as, rfl, nd, w, ha, ok, hr⟩ := h2
  exact ⟨a, vs, h1, ha, TrA.dps g.fh hr⟩
def cutOf {fl : List Bool} {A : Type} (i : Nat) : Tre fl A → Option (Tre fl A)
  | .no => none
  | .mine _ => some (.cut (i + 1))
  | .cut j => if j ≤ i then some (.cut (i + 1)) else none
theorem Cx.chgT {fl : List Bool} {A : Type} [TrA fl A] {k i : Nat} {Z : Hp} {s : S} {σ : L2.St} {F H : Hp} (c : Cx K d F0 H0 Z s σ F H) (p : Pos S (Tre fl A) k) (hi : fl[i]? = some true) {y : Tre fl A} (e : cutOf i (p.get s) = some y) :
    ∃ a vs b us, σ[k]? = some (some (.ref a)) ∧ H a = some (.lst vs) ∧ vs[i]? = some (.ref b) ∧ H b = some (.lst us) ∧ us.length < 100000 ∧ ∀ o, Cx K d F0 H0 Z (p.put s y) σ F (upd H b o) := by
  obtain ⟨g, dn, own, w1, w2, sl⟩ := c
  obtain ⟨ov, h1, h2⟩ := p.rd sl
  have key : ∃ a vs j, j ≤ i ∧ y = .cut (i + 1) ∧ ov = some (.ref a) ∧ (own a = some (0 + k) ∧ kind d H0 false a ∧ F a = none) ∧ H a = some (.lst vs) ∧ CutR fl (fun b => own b = some (0 + k) ∧ kind d H0 false b ∧ F b = none) H a vs j := by
    cases h : p.get s with
    | no => rw [h] at e; cases e
    | mine x =>
      rw [h] at e h2
      cases e
      obtain ⟨a, vs, as, rfl, nd, w, ha, ok, hr⟩ := h2
      have nd := List.nodup_cons.mp nd
      obtain ⟨bs, q1, q2⟩ := TrA.own hr nd.2 ok
      exact ⟨a, vs, 0, Nat.zero_le _, rfl, rfl, w, ha, bs, fun i _ hi => by
        obtain ⟨z1, z2, z3, z4⟩ := q1 i hi
        exact ⟨z1, fun z => nd.1 (z ▸ z2), z3, z4⟩, fun i i' _ => q2 i i'⟩
    | cut j =>
      rw [h] at e h2
      unfold cutOf at e
      by_cases z : j ≤ i
      · simp only [if_pos z] at e
        cases e
        obtain ⟨a, vs, rfl, w, ha, hr⟩ := h2
        exact ⟨a, vs, j, z, rfl, rfl, w, ha, hr⟩
      · simp only [if_neg z] at e
        cases e
  obtain ⟨a, vs, j, hj, rfl, rfl, w, ha, bs, q1, q2⟩ := key
  obtain ⟨z1, z2, ⟨wb, pb, fb⟩, us, z4, z5⟩ := q1 i hj hi
  have pb : H0 (bs i) = none := pb
  refine ⟨a, vs, bs i, us, h1, ha, z1, z4, z5, fun o => ?_⟩
  refine ⟨⟨g.ff, fun b' u q => ?_, fun b' u n q => ?_, g.fr, fun b' n => ?_⟩, dn, own, fun b' j q => ?_, fun b' u q => ?_, ?_⟩
  · rw [upd_ne (fun z => by subst z; rw [fb] at q; cases q)]
    exact g.fh b' u q
  · rw [upd_ne (fun z => by subst z; rw [pb] at q; cases q)]
    exact g.hh b' u n q
  · by_cases h : b' = bs i
    · subst h; rw [upd_same]; simp
    · rw [upd_ne h]; exact g.dm b' n
  · by_cases h : b' = bs i
    · subst h; rw [upd_same]; simp
    · rw [upd_ne h]; exact w1 b' j q
  · obtain ⟨q1, q2, q3, q4⟩ := w2 b' u q
    rw [upd_ne (fun z => by subst z; rw [wb] at q3; cases q3)]
    exact ⟨q1, q2, q3, q4⟩
  · have r := p.wr (own' := own) (F' := F) (H' := upd H (bs i) o) (ov := some (.ref a)) (x := Tre.cut (i + 1)) sl ⟨Same.refl _, fun j b' l q f n => ⟨q, f, ?_⟩⟩ ⟨a, vs, rfl, w, by rw [upd_ne (fun z => z2 z.symm)]; exact ha, bs, fun i' hi' hf => ?_, fun i1 i2 h1 => q2 i1 i2 (by omega)⟩
    · rw [set_same h1] at r
      exact r
    · rw [upd_ne (fun z => by subst z; rw [wb] at q; exact l (Option.some.inj q).symm)]
    · obtain ⟨y1, y2, y3, us', y4, y5⟩ := q1 i' (by omega) hf
      exact ⟨y1, y2, y3, us', by rw [upd_ne (fun z => q2 i i' hj (by omega) hi hf z.symm)]; exact y4, y5⟩
variable {ρ : Type} {RT : S → Hp → VK → ρ → Prop} [RTm RT]
def pTre {S : Type} [Slots S] {fl : List Bool} {A : Type} [TrA fl A] {k : Nat} (p : Pos S (Tre fl A) k) : A → S → Option S := fun x s => if TrA.ok fl x = true then some (p.put s (.mine x)) else none
theorem js_tre {fl : List Bool} {A : Type} [TrA fl A] {k : Nat} (p : Pos S (Tre fl A) k) {t : TA} {m : M S A} (hl : TrA.ln fl A ≤ 100000) (h : JTr K d F0 H0 S fl t m) : JS K d F0 H0 S RT (tAsg (tLst t) (gName k)) (asgM m (pTre p)) := by
  intro s σ F H c f e D q
  obtain ⟨x, s1, e1, ea⟩ := bindS_some e
  unfold pTre at ea
  by_cases z : TrA.ok fl x = true
  · rw [if_pos z] at ea
    cases ea
    refine r_asg (r_lst (h _ _ _ _ _ c _ _ e1 _ fun vs as F1 H1 Z1 c1 q1 hz nd ha hr => ⟨by rw [TrA.len hr]; exact Nat.le_trans hl (by decide), fun a hp => r_name ?_⟩))
    exact q _ F1 _ (c1.ownT p hp hz nd ha z hr) q1
  · rw [if_neg z] at ea
    cases ea
/-- read as a whole -/
def rdT {S : Type} [Slots S] {fl : List Bool} {A : Type} [TrA fl A] {k : Nat} (p : Pos S (Tre fl A) k) : M S A := fun s => match p.get s with | .mine x => some (x, s) | _ => none
theorem rdT_some {fl : List Bool} {A : Type} [TrA fl A] {k : Nat} {p : Pos S (Tre fl A) k} {s s' : S} {x : A} (h : rdT p s = some (x, s')) : p.get s = .mine x ∧ s' = s := by
  unfold rdT at h
  cases e : p.get s with
  | no => rw [e] at h; cases h
  | mine y => rw [e] at h; cases h; exact ⟨rfl, rfl⟩
  | cut y => rw [e] at h; cases h
/-- repr(told) -/
theorem j_reprT1 {fl : List Bool} {A : Type} [TrA fl A] [EncA A] [EncAD A] {k : Nat} (p : Pos S (Tre fl A) k) (hd : ∀ x : A, TrA.ds fl x = EncAD.ds x) : JE K d F0 H0 S (tCB (rReprA K) (tCons (tVar k) tNil)) (op1 (fun x : A => gRepr (Hl.mk x)) (rdT p)) := by
  intro Z s σ F H c x s' e Q q
  obtain ⟨y1, s1, e1, e⟩ := bnd_some e
  obtain ⟨e3, rfl⟩ := lft_some e
  obtain ⟨e1, rfl⟩ := rdT_some e1
  obtain ⟨k, rfl⟩ := gRepr_some e3
  obtain ⟨a, vs, h1, ha, dp⟩ := c.peekT p e1
  rw [hd] at dp
  exact r_cb (r_cons ⟨.ref a, h1, r_nil ⟨_, _, rfl, .inl (.lst (sqe ha) dp), .inl k, q _ _ _ c (Same.refl _) rfl⟩⟩)
def ixT {S β γ : Type} [Slots S] {fl : List Bool} {A : Type} [TrA fl A] {k : Nat} (p : Pos S (Tre fl A) k) (m : M S β) (f : A → β → Option γ) : M S γ := bnd (rdT p) fun _ => bnd m fun i => bnd (rdT p) fun x => lft (f x i)
theorem ixT_some {β γ : Type} {fl : List Bool} {A : Type} [TrA fl A] {k : Nat} {p : Pos S (Tre fl A) k} {m : M S β} {f : A → β → Option γ} {s s' : S} {z : γ} (h : ixT p m f s = some (z, s')) : ∃ x0 i x, p.get s = .mine x0 ∧ m s = some (i, s') ∧ p.get s' = .mine x ∧ f x i = some z := by
  obtain ⟨y0, s0, e0, e⟩ := bnd_some h
  obtain ⟨e0, rfl⟩ := rdT_some e0
  obtain ⟨y1, s1, e1, e⟩ := bnd_some e
  obtain ⟨y2, s2, e2, e⟩ := bnd_some e
  obtain ⟨e3, rfl⟩ := lft_some e
  obtain ⟨e2, rfl⟩ := rdT_some e2
  exact ⟨y0, y1, y2, e0, e1, e2, e3⟩
/-- repr([told, x]) -/
theorem j_reprT2 {fl : List Bool} {A α : Type} [TrA fl A] [EncA A] [EncAD A] [Enc α] [EncD α] {k : Nat} (p : Pos S (Tre fl A) k) (hd : ∀ x : A, TrA.ds fl x = EncAD.ds x) {t : TE} {m : M S α} (h : JE K d F0 H0 S t m) :
    JE K d F0 H0 S (tCB (rReprA K) (tCons (tLst (tCons (tVar k) (tCons t tNil))) tNil)) (ixT p m fun (x : A) (y : α) => gRepr (Hl.mk (Hl.mk x, y, ()))) := by
  intro Z s σ F H c x s' e Q q
  obtain ⟨x0, i, y, e0, e1, e2, e3⟩ := ixT_some e
  obtain ⟨kk, rfl⟩ := gRepr_some e3
  obtain ⟨a, vs, h1, _, _⟩ := c.peekT p e0
  refine r_cb (r_cons (r_lst (r_cons ⟨.ref a, h1, r_cons (h _ _ _ _ _ c _ _ e1 _ fun v F' H' c' sf r => r_nil ⟨by show 2 ≤ sizeLine; decide, fun l hl => r_nil ?_⟩)⟩)))
  obtain ⟨a', vs, h1', ha, dp⟩ := c'.peekT p e2
  rw [h1] at h1'
  cases h1'
  rw [hd] at dp
  have sl : Same H' (upd H' l (.lst [.ref a, v])) := Same.new hl
  exact ⟨_, _, rfl, .inl (.lst (.inl (.inl upd_same)) (.cons (.lst (Same.seq sl (sqe ha)) (DpAll.same sl dp)) (.cons (Dp.same (c'.fh.trans sl) (EncD.dp r)) .nil))), .inl kk, q _ _ _ (c'.drop hl _) sf rfl⟩
theorem dpAll_len {F : Hp} : ∀ {vs : List V} {ds : List PyData}, DpAll K F vs ds → vs.length = ds.length
  | _, _, .nil => rfl
  | _, _, .cons _ t => by rw [List.length_cons, List.length_cons, dpAll_len t]
theorem dpAll_app {F : Hp} : ∀ {vs us : List V} {ds es : List PyData}, DpAll K F vs ds → DpAll K F us es → DpAll K F (vs ++ us) (ds ++ es)
  | _, _, _, _, .nil, h => h
  | _, _, _, _, .cons a t, h => .cons a (dpAll_app t h)
/-- repr(told + [x]) -/
theorem j_reprT3 {fl : List Bool} {A B α : Type} [TrA fl A] [EncA A] [EncAD A] [EncA B] [EncAD B] [Enc α] [EncD α] {k : Nat} (p : Pos S (Tre fl A) k) (hd : ∀ x : A, TrA.ds fl x = EncAD.ds x) {f : A → α → B} (hf : ∀ x y, EncAD.ds (f x y) = EncAD.ds x ++ [EncD.d y]) (hl : ∀ x : A, (TrA.ds fl x).length ≤ 1000) {t : TE} {m : M S α} (h : JE K d F0 H0 S t m) :
    JE K d F0 H0 S (tCB (rReprA K) (tCons (tOp (rCatR K) (tVar k) (tLst (tCons t tNil))) tNil)) (ixT p m fun (x : A) (y : α) => gRepr (Hl.mk (f x y))) := by
  intro Z s σ F H c x s' e Q q
  obtain ⟨x0, i, y, e0, e1, e2, e3⟩ := ixT_some e
  obtain ⟨kk, rfl⟩ := gRepr_some e3
  obtain ⟨a, vs, h1, _, _⟩ := c.peekT p e0
  refine r_cb (r_cons (r_op ⟨.ref a, h1, r_lst (r_cons (h _ _ _ _ _ c _ _ e1 _ fun v F' H' c' sf r => r_nil ⟨by show 1 ≤ sizeLine; decide, fun l hl2 => ?_⟩))⟩))
  obtain ⟨a', vs, h1', ha, dp⟩ := c'.peekT p e2
  rw [h1] at h1'
  cases h1'
  have sl : Same H' (upd H' l (.lst [v])) := Same.new hl2
  have ln := dpAll_len dp
  have lx := hl y
  refine r_catR (Same.seq sl (sqe ha)) (.inl (.inl upd_same)) (by rw [ln, List.length_singleton]; omega) fun l3 hl3 => r_nil ?_
  have s3 : Same (upd H' l (.lst [v])) (upd (upd H' l (.lst [v])) l3 (.lst (vs ++ [v]))) := Same.new hl3
  rw [hd] at dp
  refine ⟨_, EncD.d (Hl.mk (f y i)), rfl, .inl (.lst (.inl (.inl upd_same)) ?_), .inl kk, q _ _ _ ((c'.drop hl2 _).drop hl3 _) sf rfl⟩
  rw [show EncAD.ds (Hl.mk (f y i)).it = _ from hf y i]
  exact dpAll_app (DpAll.same (sl.trans s3) dp) (.cons (Dp.same (c'.fh.trans (sl.trans s3)) (EncD.dp r)) .nil)
def appT {S ρ : Type} [Slots S] {fl : List Bool} {A : Type} [TrA fl A] {k : Nat} (p : Pos S (Tre fl A) k) (i : Nat) : MS S ρ := fun s => (cutOf i (p.get s)).map fun y => .nx (p.put s y)
theorem js_appT {fl : List Bool} {A : Type} [TrA fl A] {k : Nat} (p : Pos S (Tre fl A) k) (i : Nat) (hi : fl[i]? = some true) (v : V) : JS K d F0 H0 S RT (tDrop (tBM K "list" rAppend (tOp (rIxL K) (tVar k) (tC (.int i))) (tCons (tC v) tNil))) (appT p i) := by
  intro s σ F H c f e D q
  unfold appT at e
  cases e1 : cutOf i (p.get s) with
  | none => rw [e1] at e; cases e
  | some y =>
    rw [e1] at e
    cases e
    obtain ⟨a, vs, b, us, h1, ha, hv, hb, hl, k⟩ := c.chgT p hi e1
    refine r_drop (r_bm (r_op ⟨.ref a, h1, ?_⟩))
    show rIxL K (.ref a) (.int i) H fun x H1 => tyV K "list" x H1 ∧ tCons (tC v) tNil σ H1 fun xs H2 => rAppend x xs H2 fun x H1 => D.nx σ H1
    refine r_ixL (sqe ha) (by rw [atI_nat']; exact hv) ?_
    refine ⟨.inl ⟨rfl, _, sqe hb⟩, ?_⟩
    show rAppend (.ref b) [v] H fun x H1 => D.nx σ H1
    exact r_app hb hl (q _ _ _ (k _) (Same.refl _))
end
section
variable {S α β γ A ρ : Type} [Slots S] {s s' : S} {γ' δ' : Type} {Q : Option γ' → Option δ' → Prop} [BR Q]
theorem e_rdT {fl : List Bool} [TrA fl A] {k : Nat} {p : Pos S (Tre fl A) k} {x : A} (h : p.get s = .mine x) : rdT p s = some (x, s) := by unfold rdT; rw [h]
theorem e_ixT {fl : List Bool} [TrA fl A] {k : Nat} {p : Pos S (Tre fl A) k} {m : M S β} {f : A → β → Option γ} {s : S} : ixT p m f s = (rdT p s).bind fun p1 => (m p1.2).bind fun i => (rdT p i.2).bind fun x => (f x.1 i.1).bind fun z => some (z, x.2) := nrfl rfl
theorem v_rdT {fl : List Bool} [TrA fl A] {k : Nat} {p : Pos S (Tre fl A) k} {x : A} (h : p.get s = .mine x) : rdT p s = some (x, s) := e_rdT h
theorem v_ixT {fl : List Bool} [TrA fl A] {k : Nat} {p : Pos S (Tre fl A) k} {m : M S β} {f : A → β → Option γ} {x : A} {y : β} {z : γ} (h : p.get s = .mine x) (e : m s = some (y, s)) (e2 : f x y = some z) : ixT p m f s = some (z, s) := by
  rw [e_ixT, v_rdT h]; simp only [Option.bind_some, e, v_rdT h, e2]
theorem o_ixT {fl : List Bool} [TrA fl A] {k : Nat} {p : Pos S (Tre fl A) k} {m : M S β} {f : A → β → Option γ} {x : A} {y : β} {t : Option γ} (h : p.get s = .mine x) (e : m s = some (y, s)) (e2 : f x y = t) : ixT p m f s = t.bind fun z => some (z, s) := by
  rw [e_ixT, v_rdT h]; simp only [Option.bind_some, e, v_rdT h, e2]
theorem k_ixT {fl : List Bool} [TrA fl A] {k : Nat} {p : Pos S (Tre fl A) k} {m : M S β} {f : A → β → Option γ} {x : A} {k' : γ × S → Option γ'} {o : Option δ'} (h : p.get s = .mine x)
    (K : Q ((m s).bind fun q => (rdT p q.2).bind fun r => (f r.1 q.1).bind fun z => k' (z, r.2)) o) : Q ((ixT p m f s).bind k') o := by
  rw [e_ixT, v_rdT h]; simp only [Option.bind_assoc, Option.bind_some]; exact K
/-- the lists are short -/
def okT (fl : List Bool) [TrA fl A] (x : A) : Option Unit := if TrA.ok fl x = true then some () else none
theorem p_tre {fl : List Bool} [TrA fl A] {k : Nat} {p : Pos S (Tre fl A) k} {x : A} {k' : S → Option γ'} {o : Unit → Option δ'} (h : p.put s (.mine x) = s') (K : ∀ u, Q (k' s') (o u)) : Q ((pTre p x s).bind k') ((okT fl x).bnd o) := by
  subst h
  unfold pTre okT
  by_cases c : TrA.ok fl x = true
  · rw [if_pos c, if_pos c]
    exact BR.bnd (some ()) (f := fun _ => k' _) K
  · rw [if_neg c, if_neg c]
    exact BR.bnd none (f := fun _ => k' _) K
theorem s_appT {fl : List Bool} [TrA fl A] {k i : Nat} {p : Pos S (Tre fl A) k} {y : Tre fl A} {kf : Fl S ρ → Option γ'} {o : Option δ'} (h : cutOf i (p.get s) = some y) (hs : p.put s y = s') (K : Q (kf (.nx s')) o) : Q ((appT (ρ := ρ) p i s).bind kf) o := by
  unfold appT
  rw [h]
  subst hs
  exact K
end
end Rm
namespace Rm
open PySem PySem.Spec PyProof.Rows L2 Rg
open Enc (rel)
open Cell (cel)
open Slot (srel)
open Slots (srels)
/-! ### comprehensions with two sources -/
theorem wipe_get (σ : L2.St) (k : Nat) : ∀ vs : List Nat, (wipe σ vs)[k]? = if k ∈ vs then σ[k]?.map (fun _ => none) else σ[k]?
  | [] => by simp [wipe]
  | v :: vs => by
    unfold wipe
    have ih := wipe_get σ k vs
    by_cases e : v = k
    · subst e
      by_cases hl : v < (wipe σ vs).length
      · rw [List.getElem?_set_self hl, if_pos (List.mem_cons_self ..)]
        have hl2 : v < σ.length := by
          rcases Nat.lt_or_ge v σ.length with z | z
          · exact z
          · rw [List.getElem?_eq_none z] at ih
            rw [List.getElem?_eq_getElem hl] at ih
            simp at ih
        rw [List.getElem?_eq_getElem hl2]
        rfl
      · rw [List.getElem?_eq_none (by rw [List.length_set]; omega), if_pos (List.mem_cons_self ..)]
        rw [List.getElem?_eq_none (by omega)] at ih
        have : σ[v]? = none := by
          cases z : σ[v]? with
          | none => rfl
          | some y => rw [z] at ih; split at ih <;> simp at ih
        rw [this]; rfl
    · rw [List.getElem?_set_ne e, ih]
      by_cases h : k ∈ vs
      · rw [if_pos h, if_pos (List.mem_cons_of_mem _ h)]
      · rw [if_neg h, if_neg (fun z => by rcases List.mem_cons.mp z with z | z; exact e z.symm; exact h z)]
theorem wipe_sub {σ : L2.St} {ws vs : List Nat} (h : ∀ i ∈ ws, i ∈ vs) : wipe (wipe σ ws) vs = wipe σ vs := by
  refine List.ext_getElem? fun k => ?_
  rw [wipe_get, wipe_get, wipe_get]
  by_cases a : k ∈ vs
  · rw [if_pos a, if_pos a]
    by_cases b : k ∈ ws
    · rw [if_pos b, Option.map_map]; rfl
    · rw [if_neg b]
  · rw [if_neg a, if_neg a, if_neg (fun z => a (h _ z))]
section
variable {K : PySem.W.Frag} {d : Addr → Prop} {F0 H0 : Hp} {S : Type} [Slots S]
def lc2L {S α β γ : Type} (wp : S → S) (put : α → S → Option S) (mt : M S Bool) (mi1 : M S (List β)) (wp1 : S → S) (put1 : β → S → Option S) (mt1 : M S Bool) (me : M S γ) : List α → S → Option (List γ × S)
  | [], s => some ([], wp s)
  | x :: xs, s => (put x (wp s)).bind fun s1 => (mt s1).bind fun p => if p.1 = true then (mi1 p.2).bind fun q => (lcL wp1 put1 mt1 me q.1 q.2).bind fun r => (lc2L wp put mt mi1 wp1 put1 mt1 me xs r.2).map fun r2 => (r.1 ++ r2.1, r2.2) else lc2L wp put mt mi1 wp1 put1 mt1 me xs p.2
def shortS {S α : Type} (r : List α × S) : Option (List α × S) := if r.1.length ≤ 100000 then some r else none
def lc2M {S α β γ : Type} (mi : M S (List α)) (wp : S → S) (put : α → S → Option S) (mt : M S Bool) (mi1 : M S (List β)) (wp1 : S → S) (put1 : β → S → Option S) (mt1 : M S Bool) (me : M S γ) : M S (List γ) := bnd mi fun xs s => (lc2L wp put mt mi1 wp1 put1 mt1 me xs s).bind shortS
theorem jf_lc2 {α β γ : Type} [Enc α] [Enc β] [Enc γ] {is is1 vs vs1 : List Nat} {ti ti1 : TI} {g g1 : TG} {tt tt1 : TT} {te : TE} {mi : M S (List α)} {put : α → S → Option S} {mt : M S Bool} {mi1 : M S (List β)} {put1 : β → S → Option S} {mt1 : M S Bool} {me : M S γ} (w : Wp S vs) (w1 : Wp S vs1)
    (hi : JI K d F0 H0 S ti mi) (hg : JG K d F0 H0 S is g put) (hv : ∀ i ∈ is, i ∈ vs) (ht : JT K d F0 H0 S tt mt) (hi1 : JI K d F0 H0 S ti1 mi1) (hg1 : JG K d F0 H0 S is1 g1 put1) (hv1 : ∀ i ∈ is1, i ∈ vs1) (hs : ∀ i ∈ vs1, i ∈ vs) (ht1 : JT K d F0 H0 S tt1 mt1) (he : JE K d F0 H0 S te me) :
    JF K d F0 H0 S (tLc2 ti g tt ti1 g1 tt1 te vs vs1) (lc2M mi w.wp put mt mi1 w1.wp put1 mt1 me) := by
  intro Z s σ F H c ys s' e Q q
  obtain ⟨xs, s1, e1, e⟩ := bnd_some e
  cases e0 : lc2L w.wp put mt mi1 w1.wp put1 mt1 me xs s1 with
  | none => rw [e0] at e; cases e
  | some r0 =>
    rw [e0] at e
    unfold shortS at e
    obtain ⟨hl, er⟩ := ite_some (show (if r0.1.length ≤ 100000 then some r0 else none) = some (ys, s') from e)
    subst er
    show ti σ H _
    refine hi _ _ _ _ _ c _ _ e1 _ fun J F1 H1 c1 sf1 it D hD => ?_
    have ZD : Z D = none := by
      cases z : Z D with
      | none => rfl
      | some o => have := (c1.hz z).1; rw [hD] at this; cases this
    let W : Nat → Nat → Hp → Prop := fun i m h => i + m = xs.length ∧ ∃ s F acc zs pre, Cx K d F0 H0 (upd Z D (.lst acc)) (w.wp s) (wipe σ vs) F h ∧ Same F1 F ∧ Paired (rel K F) acc pre ∧ lc2L w.wp put mt mi1 w1.wp put1 mt1 me (xs.drop i) s = some (zs, s') ∧ pre ++ zs = ys
    refine ⟨W, ⟨xs.length, by omega, s1, F1, [], ys, [], (c1.junk hD _).wipe w, Same.refl _, .nil, e0, rfl⟩, fun i m h hw => ?_⟩
    obtain ⟨em, s2, F2, acc, zs, pre, c2, sf2, pa, e2, ey⟩ := hw
    cases m with
    | zero =>
      have ei : i = xs.length := by omega
      subst ei
      rw [List.drop_length] at e2
      cases e2
      refine .inl ⟨it.stop _ _ sf2 c2.fh, ?_⟩
      rw [List.append_nil] at ey
      subst ey
      obtain ⟨H3, h3, rfl, c3⟩ := (c2.unwipe w).back ZD
      exact q acc D F2 H3 c3 (sf1.trans sf2) h3 pa
    | succ m =>
      have hi : i < xs.length := by omega
      have gx : xs[i]? = some xs[i] := List.getElem?_eq_getElem hi
      rw [List.drop_eq_getElem_cons hi] at e2
      unfold lc2L at e2
      refine .inr ⟨it.go _ _ _ hi sf2 c2.fh, W (i + 1) m, fun H' w => ⟨m, Nat.lt_succ_self m, w⟩, fun x H3 y => ?_⟩
      cases e3 : put xs[i] (w.wp s2) with
      | none => rw [e3] at e2; cases e2
      | some s3 =>
        rw [e3] at e2
        cases e4 : mt s3 with
        | none => rw [Option.bind_some, e4] at e2; cases e2
        | some p4 =>
          rw [Option.bind_some, e4] at e2
          have e2 : (if p4.1 = true then (mi1 p4.2).bind fun q => (lcL w1.wp put1 mt1 me q.1 q.2).bind fun r => (lc2L w.wp put mt mi1 w1.wp put1 mt1 me (xs.drop (i + 1)) r.2).map fun r2 => (r.1 ++ r2.1, r2.2) else lc2L w.wp put mt mi1 w1.wp put1 mt1 me (xs.drop (i + 1)) p4.2) = some (zs, s') := e2
          have fin : ∀ F3, Cx K d F0 H0 (upd Z D (.lst acc)) (w.wp s2) (wipe σ vs) F3 H3 → Same F2 F3 → rel K F3 x xs[i] → g x (wipe σ vs) H3 fun σ2 H2 => wipe σ2 vs = wipe σ vs ∧ tt σ2 H2 fun b H3 =>
              if b = true then ti1 σ2 H3 fun J1 H4 => ∃ W1 : Nat → Nat → Hp → Prop, (∃ m, W1 0 m H4) ∧ ∀ j k H, W1 j k H →
                (J1.stop j H ∧ W (i + 1) m H) ∨ (J1.go j H ∧ ∃ Nx1 : Hp → Prop, (∀ H', Nx1 H' → ∃ k', k' < k ∧ W1 (j + 1) k' H') ∧ ∀ x H', J1.yld j H x H' → g1 x (wipe σ2 vs1) H' fun σ3 H5 => wipe σ3 vs1 = wipe σ2 vs1 ∧ tt1 σ3 H5 fun b H6 =>
                  if b = true then te σ3 H6 fun y H7 => ∃ acc, H7 D = some (.lst acc) ∧ acc.length < sizeLine ∧ Nx1 (upd H7 D (.lst (acc ++ [y]))) else Nx1 H6)
              else W (i + 1) m H3 := by
            intro F3 c3 sf3 r3
            refine hg _ _ _ _ _ c3 _ _ _ r3 e3 _ fun σ4 c4 wi => ?_
            have wi := wi vs hv
            have wi2 : wipe σ4 vs = wipe σ vs := by rw [wi, wipe_sub fun _ h => h]
            refine ⟨wi2, ht _ _ _ _ _ c4 p4.1 p4.2 e4 _ fun b F5 H5 c5 sf5 r5 => ?_⟩
            subst r5
            have s15 := sf2.trans (sf3.trans sf5)
            cases hb : p4.1 with
            | false =>
              rw [hb] at e2
              show W (i + 1) m H5
              refine ⟨by omega, p4.2, F5, acc, zs, pre, ?_, s15, Paired.imp (fun _ _ => Enc.mono (sf3.trans sf5)) pa, e2, ey⟩
              have c6 := c5.wipe w
              rw [wi2] at c6
              exact c6
            | true =>
              rw [hb, if_pos rfl] at e2
              show ti1 σ4 H5 _
              cases e6 : mi1 p4.2 with
              | none => rw [e6] at e2; cases e2
              | some q6 =>
                rw [e6] at e2
                have e2 : ((lcL w1.wp put1 mt1 me q6.1 q6.2).bind fun r => (lc2L w.wp put mt mi1 w1.wp put1 mt1 me (xs.drop (i + 1)) r.2).map fun r2 => (r.1 ++ r2.1, r2.2)) = some (zs, s') := e2
                cases e7 : lcL w1.wp put1 mt1 me q6.1 q6.2 with
                | none => rw [e7] at e2; cases e2
                | some r7 =>
                  rw [e7] at e2
                  have e2 : (lc2L w.wp put mt mi1 w1.wp put1 mt1 me (xs.drop (i + 1)) r7.2).map (fun r2 => (r7.1 ++ r2.1, r2.2)) = some (zs, s') := e2
                  cases e8 : lc2L w.wp put mt mi1 w1.wp put1 mt1 me (xs.drop (i + 1)) r7.2 with
                  | none => rw [e8] at e2; cases e2
                  | some r8 =>
                    rw [e8] at e2
                    cases e2
                    refine hi1 _ _ _ _ _ c5 q6.1 q6.2 e6 _ fun J1 F6 H6 c6 sf6 it1 => ?_
                    have s16 := s15.trans sf6
                    have pa6 := Paired.imp (fun _ _ => Enc.mono (sf3.trans (sf5.trans sf6))) pa
                    let W1 : Nat → Nat → Hp → Prop := fun j k h => j + k = q6.1.length ∧ ∃ s F acc zs pre, Cx K d F0 H0 (upd Z D (.lst acc)) (w1.wp s) (wipe σ4 vs1) F h ∧ Same F6 F ∧ Paired (rel K F) acc pre ∧ lcL w1.wp put1 mt1 me (q6.1.drop j) s = some (zs, r7.2) ∧ pre ++ zs ++ r8.1 = ys
                    refine ⟨W1, ⟨q6.1.length, by omega, q6.2, F6, acc, r7.1, pre, c6.wipe w1, Same.refl _, pa6, by rw [List.drop_zero]; exact e7, by rw [List.append_assoc]; exact ey⟩, fun j k h hw1 => ?_⟩
                    obtain ⟨ek, sA, FA, accA, zsA, preA, cA, sfA, paA, eA, eyA⟩ := hw1
                    cases k with
                    | zero =>
                      have ej : j = q6.1.length := by omega
                      subst ej
                      rw [List.drop_length] at eA
                      unfold lcL at eA
                      injection eA with eA
                      injection eA with eA1 eA2
                      subst eA1
                      refine .inl ⟨it1.stop _ _ sfA cA.fh, by omega, r7.2, FA, accA, r8.1, preA, ?_, s16.trans sfA, paA, e8, by rw [List.append_nil] at eyA; exact eyA⟩
                      have cB := cA.wipe w
                      rw [wipe_sub hs, wi2, eA2] at cB
                      exact cB
                    | succ k =>
                      have hj : j < q6.1.length := by omega
                      have gy : q6.1[j]? = some q6.1[j] := List.getElem?_eq_getElem hj
                      rw [List.drop_eq_getElem_cons hj] at eA
                      unfold lcL at eA
                      refine .inr ⟨it1.go _ _ _ hj sfA cA.fh, W1 (j + 1) k, fun H' w => ⟨k, Nat.lt_succ_self k, w⟩, fun x1 H7 y1 => ?_⟩
                      cases eB : put1 q6.1[j] (w1.wp sA) with
                      | none => rw [eB] at eA; cases eA
                      | some sB =>
                        rw [eB] at eA
                        cases eC : mt1 sB with
                        | none => rw [Option.bind_some, eC] at eA; cases eA
                        | some pC =>
                          rw [Option.bind_some, eC] at eA
                          have eA : (if pC.1 = true then (me pC.2).bind fun q => (lcL w1.wp put1 mt1 me (q6.1.drop (j + 1)) q.2).map fun r => (q.1 :: r.1, r.2) else lcL w1.wp put1 mt1 me (q6.1.drop (j + 1)) pC.2) = some (zsA, r7.2) := eA
                          have fin1 : ∀ F3, Cx K d F0 H0 (upd Z D (.lst accA)) (w1.wp sA) (wipe σ4 vs1) F3 H7 → Same FA F3 → rel K F3 x1 q6.1[j] → g1 x1 (wipe σ4 vs1) H7 fun σ3 H5 => wipe σ3 vs1 = wipe σ4 vs1 ∧ tt1 σ3 H5 fun b H6 =>
                              if b = true then te σ3 H6 fun y H7 => ∃ acc, H7 D = some (.lst acc) ∧ acc.length < sizeLine ∧ W1 (j + 1) k (upd H7 D (.lst (acc ++ [y]))) else W1 (j + 1) k H6 := by
                            intro F3 cD sfD rD
                            refine hg1 _ _ _ _ _ cD _ _ _ rD eB _ fun σ6 cE wj => ?_
                            have wj := wj vs1 hv1
                            have wj2 : wipe σ6 vs1 = wipe σ4 vs1 := by rw [wj, wipe_sub fun _ h => h]
                            refine ⟨wj2, ht1 _ _ _ _ _ cE pC.1 pC.2 eC _ fun b F7 H8 cF sfF rF => ?_⟩
                            subst rF
                            cases hc : pC.1 with
                            | false =>
                              rw [hc] at eA
                              show W1 (j + 1) k H8
                              refine ⟨by omega, pC.2, F7, accA, zsA, preA, ?_, sfA.trans (sfD.trans sfF), Paired.imp (fun _ _ => Enc.mono (sfD.trans sfF)) paA, eA, eyA⟩
                              have cG := cF.wipe w1
                              rw [wj2] at cG
                              exact cG
                            | true =>
                              rw [hc, if_pos rfl] at eA
                              cases eH : me pC.2 with
                              | none => rw [eH] at eA; cases eA
                              | some qH =>
                                rw [eH] at eA
                                have eA : (lcL w1.wp put1 mt1 me (q6.1.drop (j + 1)) qH.2).map (fun r => (qH.1 :: r.1, r.2)) = some (zsA, r7.2) := eA
                                cases eI : lcL w1.wp put1 mt1 me (q6.1.drop (j + 1)) qH.2 with
                                | none => rw [eI] at eA; cases eA
                                | some rI =>
                                  rw [eI] at eA
                                  have eA := Option.some.inj eA
                                  injection eA with eA1 eA2
                                  subst eA1
                                  show te σ6 H8 _
                                  refine he _ _ _ _ _ cF qH.1 qH.2 eH _ fun y F8 H9 cJ sfJ rJ => ?_
                                  have hz := cJ.hz (upd_same (H := Z) (a := D))
                                  have la : accA.length ≤ 100000 := by
                                    have p1 := Paired.length paA
                                    have p2 := congrArg List.length eyA
                                    simp only [List.length_append] at p2
                                    have p3 : ys.length ≤ 100000 := hl
                                    omega
                                  refine ⟨accA, hz.1, Nat.lt_of_le_of_lt la (by decide), by omega, qH.2, F8, accA ++ [y], rI.1, preA ++ [qH.1], ?_, sfA.trans (sfD.trans (sfF.trans sfJ)), Paired.append (Paired.imp (fun _ _ => Enc.mono (sfD.trans (sfF.trans sfJ))) paA) (.cons rJ .nil), by rw [eI, ← eA2], by rw [← eyA]; simp only [List.append_assoc, List.cons_append, List.nil_append]⟩
                                  have cK := (cJ.held (upd_same (H := Z) (a := D)) (.lst (accA ++ [y]))).wipe w1
                                  rw [wj2, upd_upd] at cK
                                  exact cK
                          rcases it1.yld j _ _ _ _ _ gy sfA cA.fh y1 with ⟨rfl, r⟩ | ⟨p, o, hp, rfl, r⟩
                          · exact fin1 _ cA (Same.refl _) r
                          · have n := cA.new hp o
                            exact fin1 _ n.1 n.2 r
          rcases it.yld i _ _ _ _ _ gx sf2 c2.fh y with ⟨rfl, r⟩ | ⟨p, o, hp, rfl, r⟩
          · exact fin _ c2 (Same.refl _) r
          · have n := c2.new hp o
            exact fin _ n.1 n.2 r
end
/-! its plain function -/
def lc2O {α β γ : Type} (t : α → Option Bool) (ys : α → Option (List β)) (t1 : α → β → Option Bool) (g : α → β → Option γ) : List α → Option (List γ)
  | [] => some []
  | x :: xs => (t x).bind fun b => if b = true then (ys x).bind fun y => (fmapO (t1 x) (g x) y).bind fun r => (lc2O t ys t1 g xs).bind fun rs => some (r ++ rs) else lc2O t ys t1 g xs
section
variable {S α β γ : Type} [Slots S] {s s0 : S} {γ' δ' : Type} {Q : Option γ' → Option δ' → Prop} [BR Q]
theorem lc2_f {wp wp1 : S → S} {put : α → S → Option S} {mt : M S Bool} {mi1 : M S (List β)} {put1 : β → S → Option S} {mt1 : M S Bool} {me : M S γ} {t : α → Option Bool} {ys : α → Option (List β)} {t1 : α → β → Option Bool} {g : α → β → Option γ} {s1 s2 : α → S} {s3 : α → β → S}
    (hp : ∀ x, put x s0 = some (s1 x)) (ht : ∀ x, mt (s1 x) = (t x).bind fun b => some (b, s1 x)) (hy : ∀ x, mi1 (s1 x) = (ys x).bind fun y => some (y, s1 x)) (hw1 : ∀ x, wp1 (s1 x) = s2 x) (hp1 : ∀ x y, put1 y (s2 x) = some (s3 x y)) (ht1 : ∀ x y, mt1 (s3 x y) = (t1 x y).bind fun b => some (b, s3 x y))
    (hg : ∀ x y, me (s3 x y) = (g x y).bind fun z => some (z, s3 x y)) (hw3 : ∀ x y, wp1 (s3 x y) = s2 x) (hw : ∀ x, wp (s1 x) = s0) (hw2 : ∀ x, wp (s2 x) = s0) : ∀ (xs : List α) (s : S), wp s = s0 → lc2L wp put mt mi1 wp1 put1 mt1 me xs s = (lc2O t ys t1 g xs).bind fun zs => some (zs, s0)
  | [], s, h => by unfold lc2L lc2O; rw [h]; rfl
  | x :: xs, s, h => by
    have ih := lc2_f hp ht hy hw1 hp1 ht1 hg hw3 hw hw2 xs
    unfold lc2L lc2O
    rw [h, hp]
    simp only [Option.bind_some, ht]
    cases t x with
    | none => rfl
    | some b => cases b with
      | false => simp only [Option.bind_some, Bool.false_eq_true, if_false]; exact ih (s1 x) (hw x)
      | true =>
        simp only [Option.bind_some, if_true, hy]
        cases ys x with
        | none => rfl
        | some y =>
          simp only [Option.bind_some]
          rw [lc_f (s0 := s2 x) (hp1 x) (ht1 x) (hg x) (hw3 x) y (s1 x) (hw1 x)]
          cases fmapO (t1 x) (g x) y with
          | none => rfl
          | some r =>
            simp only [Option.bind_some, ih (s2 x) (hw2 x)]
            cases lc2O t ys t1 g xs <;> rfl
theorem k_lc2M {mi : M S (List α)} {wp wp1 : S → S} {put : α → S → Option S} {mt : M S Bool} {mi1 : M S (List β)} {put1 : β → S → Option S} {mt1 : M S Bool} {me : M S γ} {k : List γ × S → Option γ'} {o : Option δ'} (K : Q ((mi s).bind fun p => ((lc2L wp put mt mi1 wp1 put1 mt1 me p.1 p.2).bind shortS).bind k) o) : Q ((lc2M mi wp put mt mi1 wp1 put1 mt1 me s).bind k) o := by
  have e : lc2M mi wp put mt mi1 wp1 put1 mt1 me s = (mi s).bind fun p => (lc2L wp put mt mi1 wp1 put1 mt1 me p.1 p.2).bind shortS := by
    unfold lc2M
    rw [e_bnd]
  rw [e, Option.bind_assoc]
  exact K
theorem k_lc2 {wp wp1 : S → S} {put : α → S → Option S} {mt : M S Bool} {mi1 : M S (List β)} {put1 : β → S → Option S} {mt1 : M S Bool} {me : M S γ} {t : α → Option Bool} {ys : α → Option (List β)} {t1 : α → β → Option Bool} {g : α → β → Option γ} {s1 s2 : α → S} {s3 : α → β → S} {xs : List α} {k : List γ × S → Option γ'} {o : List γ → Option δ'}
    (hw0 : wp s = s0) (hp : ∀ x, put x s0 = some (s1 x)) (ht : ∀ x, mt (s1 x) = (t x).bind fun b => some (b, s1 x)) (hy : ∀ x, mi1 (s1 x) = (ys x).bind fun y => some (y, s1 x)) (hw1 : ∀ x, wp1 (s1 x) = s2 x) (hp1 : ∀ x y, put1 y (s2 x) = some (s3 x y)) (ht1 : ∀ x y, mt1 (s3 x y) = (t1 x y).bind fun b => some (b, s3 x y))
    (hg : ∀ x y, me (s3 x y) = (g x y).bind fun z => some (z, s3 x y)) (hw3 : ∀ x y, wp1 (s3 x y) = s2 x) (hw : ∀ x, wp (s1 x) = s0) (hw2 : ∀ x, wp (s2 x) = s0) (K : ∀ zs, Q (k (zs, s0)) (o zs)) : Q (((lc2L wp put mt mi1 wp1 put1 mt1 me xs s).bind shortS).bind k) (((lc2O t ys t1 g xs).bind shortL).bnd o) := by
  rw [lc2_f hp ht hy hw1 hp1 ht1 hg hw3 hw hw2 xs s hw0]
  cases lc2O t ys t1 g xs with
  | none => exact BR.bnd none fun ys => K ys
  | some zs =>
    simp only [Option.bind_some]
    unfold shortS shortL
    by_cases c : zs.length ≤ 100000
    · rw [if_pos c, if_pos c]
      exact BR.bnd (some zs) fun ys => K ys
    · rw [if_neg c, if_neg c]
      exact BR.bnd none fun ys => K ys
end
end Rm
namespace Rm
open PySem PySem.Spec PyProof.Rows L2 Rg
open Enc (rel)
open Cell (cel)
open Slot (srel)
open Slots (srels)
/-! ### more of dicts by ints -/
def rLenD : List V → Hp → VK → Prop := fun xs H Q => ∃ (a : Addr) (kvs : List (Key × V)), xs = [.ref a] ∧ Rd H a (.dK kvs) ∧ Q (.int kvs.length) H
theorem call_lenDD {X : L2.Cx} : CallR X (.builtin "len") rLenD := by
  intro pins s σ H xs us Q I r h
  obtain ⟨a, kvs, rfl, hd, q⟩ := h
  cases r with
  | cons r1 r2 =>
    cases r2
    cases r1
    exact d_len I hd fun t s' I' => ⟨.int kvs.length, H, I', ⟨t, rfl⟩, q⟩
section
variable {K : PySem.W.Frag} {d : Addr → Prop} {F0 H0 : Hp} {S : Type} [Slots S]
/-- len(d) -/
theorem j_lenDO {α : Type} [Enc α] {k : Nat} (p : Pos S (Own (DI α)) k) : JE K d F0 H0 S (tCB rLenD (tCons (tVar k) tNil)) (op1 (fun x : DI α => some (x.kvs.length : Int)) (rdd p)) := by
  intro Z s σ F H c x s' e Q q
  obtain ⟨y1, s1, e1, e⟩ := bnd_some e
  obtain ⟨e3, rfl⟩ := lft_some e
  cases e3
  obtain ⟨e1, rfl⟩ := rdd_some e1
  obtain ⟨a, kvs, h1, ha, pr⟩ := c.peekD p e1
  refine r_cb (r_cons ⟨.ref a, h1, r_nil ⟨a, kvs, rfl, .inl ha, ?_⟩⟩)
  rw [Paired.length pr]
  exact q _ _ _ c (Same.refl _) rfl
theorem rb_lenD {α : Type} [Enc α] : RB K d F0 H0 S rLenD (fun x : DI α × Unit => some (x.1.kvs.length : Int)) := by
  intro Z s σ F H c vs x z r e Q q
  cases e
  obtain ⟨v, ws, rfl, ⟨a, kvs, rfl, hf, pr⟩, rfl⟩ := r
  refine ⟨a, kvs, rfl, .inl (c.fh _ _ hf), ?_⟩
  rw [Paired.length pr]
  exact q _ _ _ c (Same.refl _) rfl
theorem di_some {α : Type} [Enc α] {F : Hp} {k : Int} {kvs : List (Key × V)} {xs : List (Int × α)} (p : Paired (KvR K F) kvs xs) : (valV kvs (Sum.inl k)).isSome = ((DI.mk xs).get k).isSome := by
  cases e : (DI.mk xs).get k with
  | none => rw [(di_get (k := k) p).2 e]; rfl
  | some y => obtain ⟨v, hv, _⟩ := (di_get (k := k) p).1 y e; rw [hv]; rfl
def dqM {S α γ δ : Type} [Slots S] [Enc α] {k : Nat} (p : Pos S (Own (DI α)) k) (m : M S γ) (f : DI α → γ → Option δ) : M S δ := bnd m fun i => bnd (rdd p) fun x => lft (f x i)
/-- k in d, k not in d -/
theorem j_inDO {α : Type} [Enc α] {k : Nat} (p : Pos S (Own (DI α)) k) {t : TE} {m : M S Int} (h : JE K d F0 H0 S t m) : JE K d F0 H0 S (tDIn t (tVar k)) (dqM p m fun y x => some (y.get x).isSome) := by
  intro Z s σ F H c x s' e Q q
  obtain ⟨y1, s1, e1, e⟩ := bnd_some e
  obtain ⟨y2, s2, e2, e⟩ := bnd_some e
  obtain ⟨e3, rfl⟩ := lft_some e
  cases e3
  obtain ⟨e2, rfl⟩ := rdd_some e2
  refine h _ _ _ _ _ c _ _ e1 _ fun v F' H' c' sf r => ?_
  cases r
  obtain ⟨a, kvs, h1, ha, pr⟩ := c'.peekD p e2
  refine ⟨.ref a, h1, a, _, rfl, DGet.k (k := (Sum.inl y1 : Key)) ha, ?_⟩
  rw [di_some pr]
  exact q _ _ _ c' sf rfl
theorem j_ninDO {α : Type} [Enc α] {k : Nat} (p : Pos S (Own (DI α)) k) {t : TE} {m : M S Int} (h : JE K d F0 H0 S t m) : JE K d F0 H0 S (tDNotIn t (tVar k)) (dqM p m fun y x => some (!(y.get x).isSome)) := by
  intro Z s σ F H c x s' e Q q
  obtain ⟨y1, s1, e1, e⟩ := bnd_some e
  obtain ⟨y2, s2, e2, e⟩ := bnd_some e
  obtain ⟨e3, rfl⟩ := lft_some e
  cases e3
  obtain ⟨e2, rfl⟩ := rdd_some e2
  refine h _ _ _ _ _ c _ _ e1 _ fun v F' H' c' sf r => ?_
  cases r
  obtain ⟨a, kvs, h1, ha, pr⟩ := c'.peekD p e2
  refine ⟨.ref a, h1, a, _, rfl, DGet.k (k := (Sum.inl y1 : Key)) ha, ?_⟩
  rw [di_some pr]
  exact q _ _ _ c' sf rfl
/-- a frozen dict's value -/
theorem j_dgetF {α : Type} [Enc α] {t u : TE} {m : M S (DI α)} {n : M S Int} (h : JE K d F0 H0 S t m) (h2 : JE K d F0 H0 S u n) : JE K d F0 H0 S (tDGet t u) (op2 (fun (x : DI α) (i : Int) => x.get i) m n) := by
  intro Z s σ F H c x s' e Q q
  obtain ⟨y1, s1, e1, e⟩ := bnd_some e
  obtain ⟨y2, s2, e2, e⟩ := bnd_some e
  obtain ⟨e3, rfl⟩ := lft_some e
  refine h _ _ _ _ _ c _ _ e1 _ fun v F1 H1 c1 q1 r1 => h2 _ _ _ _ _ c1 _ _ e2 _ fun w F2 H2 c2 q2 r2 => ?_
  cases r2
  obtain ⟨a, kvs, rfl, hf, pr⟩ := Enc.mono q2 r1
  obtain ⟨v, hv, rv⟩ := (di_get (k := y2) pr).1 x e3
  have g := DGet.k (k := (Sum.inl y2 : Key)) (c2.fh _ _ hf)
  rw [hv] at g
  exact ⟨a, v, rfl, g, q _ _ _ c2 (q1.trans q2) rv⟩
/-- a list's item taken away: xs.remove(x) -/
def remL (xs : List Int) (y : Int) : Option (List Int) := if y ∈ xs then some (xs.eraseIdx (xs.idxOf y)) else none
def remM {S ρ : Type} [Slots S] {k : Nat} (p : Pos S (Own (List Int)) k) (m : M S Int) : MS S ρ := bindS (rdo p) fun _ => bindS m fun y => bindS (rdo p) fun xs s => (remL xs y).map fun zs => .nx (p.put s (.mine zs))
variable {ρ : Type} {RT : S → Hp → VK → ρ → Prop} [RTm RT]
theorem js_rem {k : Nat} (p : Pos S (Own (List Int)) k) {t : TE} {m : M S Int} (h : JE K d F0 H0 S t m) : JS K d F0 H0 S RT (tDrop (tBM K "list" rRemI (tVar k) (tCons t tNil))) (remM p m) := by
  intro s σ F H c f e D q
  obtain ⟨x0, s0, ea, eb⟩ := bindS_some e
  obtain ⟨e0, es⟩ := rdo_some ea
  rw [es] at eb
  obtain ⟨y, s1, e1, ec⟩ := bindS_some eb
  obtain ⟨xs, s2, ed, ef⟩ := bindS_some ec
  obtain ⟨e2, es2⟩ := rdo_some ed
  rw [es2] at ef
  unfold remL at ef
  by_cases hm : y ∈ xs
  · rw [if_pos hm] at ef
    cases ef
    obtain ⟨a, vs, h1, ha, _⟩ := c.peek p e0
    refine r_drop (r_bm ⟨.ref a, h1, .inl ⟨rfl, _, sqe ha⟩, r_cons (h _ _ _ _ _ c _ _ e1 _ fun v F' H' c' sf r => r_nil ?_)⟩)
    cases r
    obtain ⟨a', o, h1', ha', ⟨vs', rfl, pr⟩, _, k⟩ := c'.mut p e2
    rw [h1] at h1'
    cases h1'
    have e := paired_ints pr
    subst e
    have hl := List.idxOf_lt_length_iff.mpr hm
    refine ⟨a, xs, y, xs.idxOf y, rfl, rfl, ha', ?_, fun m hm2 hz => ?_, q _ _ _ (k _ _ ⟨_, rfl, Paired.ofmap (R := rel K F') (f := V.int) (fun _ => rfl) _⟩) sf⟩
    · rw [List.getElem?_eq_getElem hl]; simp
    · have hm3 : m < xs.length := by omega
      rw [List.getElem?_eq_getElem hm3] at hz
      have := List.not_of_lt_findIdx (p := (· == y)) (xs := xs) hm2
      simp at this
      exact this (Option.some.inj hz)
  · rw [if_neg hm] at ef
    cases ef
/-! ### a call that is handed two own lists -/
def JXX (K : PySem.W.Frag) (d : Addr → Prop) (F0 H0 : Hp) (S : Type) [Slots S] {α β A B : Type} [Enc α] [Enc β] [EncA A] (k l : Nat) (t : TA) (m : M S B) (ins : List α → List β → B → A) : Prop :=
  ∀ (Z : Hp) (s : S) (σ : L2.St) (F H : Hp), Cx K d F0 H0 Z s σ F H → ∀ a b, σ[k]? = some (some (.ref a)) → σ[l]? = some (some (.ref b)) → ∀ y s', m s = some (y, s') → ∀ Q : List V → Hp → Prop,
    (∀ vs F' H', Cx K d F0 H0 Z s' σ F' H' → Same F F' → (∀ F2 x1 x2, Same F' F2 → rel K F2 (.ref a) x1 → rel K F2 (.ref b) x2 → EncA.rels K F2 vs (ins x1 x2 y)) → Q vs H') → t σ H Q
theorem jxx_here {α β A B : Type} [Enc α] [Enc β] [EncA A] {k l : Nat} {t : TA} {m : M S B} {ins : List β → B → A} (h : JX K d F0 H0 S l t m ins) : JXX K d F0 H0 S k l (tCons (tVar k) t) m (fun (x1 : List α) x2 y => (x1, ins x2 y)) := by
  intro Z s σ F H c a b ha hb y s' e Q q
  exact r_cons ⟨_, ha, h _ _ _ _ _ c b hb _ _ e _ fun vs F' H' c' sf r => q _ _ _ c' sf fun F2 x1 x2 s2 r1 r2 => ⟨_, _, rfl, r1, r F2 x2 s2 r2⟩⟩
theorem jxx_cons {α β γ A B : Type} [Enc α] [Enc β] [Enc γ] [EncA A] {k l : Nat} {t1 : TE} {t : TA} {m1 : M S γ} {m : M S B} {ins : List α → List β → B → A} (h1 : JE K d F0 H0 S t1 m1) (h : JXX K d F0 H0 S k l t m ins) : JXX K d F0 H0 S k l (tCons t1 t) (consA m1 m) (fun x1 x2 y => (y.1, ins x1 x2 y.2)) := by
  intro Z s σ F H c a b ha hb y s' e Q q
  obtain ⟨y1, s1, e1, e⟩ := bnd_some e
  obtain ⟨y2, s2, e2, e⟩ := bnd_some e
  cases e
  exact r_cons (h1 _ _ _ _ _ c _ _ e1 _ fun v F1 H1 c1 q1 r1 => h _ _ _ _ _ c1 a b ha hb _ _ e2 _ fun vs F2 H2 c2 q2 r2 => q _ _ _ c2 (q1.trans q2) fun F3 x1 x2 s3 rx ry => ⟨_, _, rfl, Enc.mono (q2.trans s3) r1, r2 F3 x1 x2 s3 rx ry⟩)
def ixOO {S α β γ B : Type} [Slots S] [Slot (Own (List α))] [Slot (Own (List β))] {k l : Nat} (p : Pos S (Own (List α)) k) (p2 : Pos S (Own (List β)) l) (m : M S B) (f : List α → List β → B → Option γ) : M S γ := bnd (rdo p) fun _ => bnd (rdo p2) fun _ => bnd m fun i => bnd (rdo p) fun x => bnd (rdo p2) fun x2 => lft (f x x2 i)
theorem Cx.two {α β : Type} [Enc α] [Enc β] {Z : Hp} {s : S} {σ : L2.St} {F H : Hp} {k l : Nat} (c : Cx K d F0 H0 Z s σ F H) (p : Pos S (Own (List α)) k) (p2 : Pos S (Own (List β)) l) (hne : k ≠ l) {x : List α} {y : List β} (e : p.get s = .mine x) (e2 : p2.get s = .mine y) {a b : Addr} (h1 : σ[k]? = some (some (.ref a))) (h2 : σ[l]? = some (some (.ref b))) : a ≠ b := by
  obtain ⟨g, dn, own, w1, w2, sl⟩ := c
  obtain ⟨ov, g1, r1⟩ := p.rd sl
  obtain ⟨ov2, g2, r2⟩ := p2.rd sl
  rw [e] at r1
  rw [e2] at r2
  obtain ⟨a', o, rfl, w, _⟩ := r1
  obtain ⟨b', o2, rfl, w', _⟩ := r2
  rw [h1] at g1
  rw [h2] at g2
  cases g1
  cases g2
  intro z
  subst z
  rw [w] at w'
  have := Option.some.inj w'
  omega
theorem j_callOO {α β A B γ : Type} [Enc α] [Enc β] [EncA A] [Enc γ] [Flat γ] {f : A → Option γ} {E : XK} {k l : Nat} (p : Pos S (Own (List α)) k) (p2 : Pos S (Own (List β)) l) (hne : k ≠ l) {t : TA} {m : M S B} {ins : List α → List β → B → A} (h : JXX K d F0 H0 S k l t m ins) :
    JE K d F0 H0 S (tCall (spP K f) [] E t) (ixOO p p2 m fun x x2 y => f (ins x x2 y)) := by
  intro Z s σ F H c z s' e Q q
  obtain ⟨x0, s0, ea, i1⟩ := bnd_some e
  obtain ⟨e0, q0⟩ := rdo_some ea
  rw [q0] at i1
  obtain ⟨w0, s1, eb, i2⟩ := bnd_some i1
  obtain ⟨e00, q1⟩ := rdo_some eb
  rw [q1] at i2
  obtain ⟨y, s2, e1, i3⟩ := bnd_some i2
  obtain ⟨x, s3, ec, i4⟩ := bnd_some i3
  obtain ⟨e2, q3⟩ := rdo_some ec
  rw [q3] at i4
  obtain ⟨x2, s4, ed, i5⟩ := bnd_some i4
  obtain ⟨e22, q4⟩ := rdo_some ed
  rw [q4] at i5
  obtain ⟨e3, q5⟩ := lft_some i5
  subst q5
  obtain ⟨a, vs0, h1, _, _⟩ := c.peek p e0
  obtain ⟨b, ws0, h2, _, _⟩ := c.peek p2 e00
  refine r_call (h _ _ _ _ _ c a b h1 h2 _ _ e1 _ fun vs F1 H1 c1 q1 r1 => ?_)
  obtain ⟨a', o, h1', ha, ⟨ws, rfl, pr⟩, fa, _⟩ := c1.mut p e2
  rw [h1] at h1'
  cases h1'
  obtain ⟨b', o2, h2', hb, ⟨us, rfl, pr2⟩, fb, _⟩ := c1.mut p2 e22
  rw [h2] at h2'
  cases h2'
  have hab : b ≠ a := fun z => c1.two p p2 hne e2 e22 h1 h2 z.symm
  have fb1 : upd F1 a (.lst ws) b = none := by rw [upd_ne hab]; exact fb
  have rb : rel K (upd (upd F1 a (.lst ws)) b (.lst us)) (.ref b) x2 := rel_newl fb1 (Paired.imp (fun _ _ => Enc.mono (Same.new fa)) pr2)
  have ra : rel K (upd (upd F1 a (.lst ws)) b (.lst us)) (.ref a) x := Enc.mono (Same.new fb1) (rel_newl fa pr)
  refine ⟨upd (upd F1 a (.lst ws)) b (.lst us), ins x x2 y, z, same_own (same_own c1.fh ha) hb, r1 _ _ _ ((Same.new fa).trans (Same.new fb1)) ra rb, e3, fun v F2 H2 g r => ?_⟩
  have g1 := gr_less fb1 hb g
  have g2 := gr_less fa ha g1.1
  exact q _ _ _ (c1.call g2.1) (q1.trans g2.1.ff) (Flat.fl (Flat.fl r g1.2) g2.2)
end
section
variable {S α β γ B ρ : Type} [Slots S] {s s' : S} {γ' δ' : Type} {Q : Option γ' → Option δ' → Prop} [BR Q]
theorem hset_v {τ : Type} {T : Type} [Slot τ] {k : Nat} {p : Pos S τ k} {mv : M S T} {v : T} {x : τ} (hv : mv s = some (v, s)) (h : p.get s = x) : ∀ q, mv s = some q → p.get q.2 = x := fun q e => by rw [hv] at e; cases e; exact h
theorem hset_o {τ : Type} {T : Type} [Slot τ] {k : Nat} {p : Pos S τ k} {mv : M S T} {t : Option T} {x : τ} (hv : mv s = t.bind fun y => some (y, s)) (h : p.get s = x) : ∀ q, mv s = some q → p.get q.2 = x := fun q e => by
  rw [hv] at e
  cases t with
  | none => cases e
  | some y => cases e; exact h
theorem e_dqM {δ : Type} [Enc α] {k : Nat} {p : Pos S (Own (DI α)) k} {m : M S γ} {f : DI α → γ → Option δ} {s : S} : dqM p m f s = (m s).bind fun i => (rdd p i.2).bind fun x => (f x.1 i.1).bind fun z => some (z, x.2) := nrfl rfl
theorem v_dqM {δ : Type} [Enc α] {k : Nat} {p : Pos S (Own (DI α)) k} {m : M S γ} {f : DI α → γ → Option δ} {x : DI α} {y : γ} {z : δ} (h : p.get s = .mine x) (e : m s = some (y, s)) (e2 : f x y = some z) : dqM p m f s = some (z, s) := by rw [e_dqM, e]; simp only [Option.bind_some, v_rdd h, e2]
theorem o_dqM {δ : Type} [Enc α] {k : Nat} {p : Pos S (Own (DI α)) k} {m : M S γ} {f : DI α → γ → Option δ} {x : DI α} {y : γ} {t : Option δ} (h : p.get s = .mine x) (e : m s = some (y, s)) (e2 : f x y = t) : dqM p m f s = t.bind fun z => some (z, s) := by rw [e_dqM, e]; simp only [Option.bind_some, v_rdd h, e2]
theorem k_dqM {δ : Type} [Enc α] {k : Nat} {p : Pos S (Own (DI α)) k} {m : M S γ} {f : DI α → γ → Option δ} {k' : δ × S → Option γ'} {o : Option δ'}
    (K : Q ((m s).bind fun q => (rdd p q.2).bind fun r => (f r.1 q.1).bind fun z => k' (z, r.2)) o) : Q ((dqM p m f s).bind k') o := by
  rw [e_dqM]; simp only [Option.bind_assoc, Option.bind_some]; exact K
theorem e_ixOO [Enc α] [Enc β] {k l : Nat} {p : Pos S (Own (List α)) k} {p2 : Pos S (Own (List β)) l} {m : M S B} {f : List α → List β → B → Option γ} {s : S} {x : List α} {y : List β} (h : p.get s = .mine x) (h2 : p2.get s = .mine y) : ixOO p p2 m f s = (m s).bind fun i => (rdo p i.2).bind fun x => (rdo p2 x.2).bind fun y => (f x.1 y.1 i.1).bind fun z => some (z, y.2) := by
  have e : ixOO p p2 m f s = (rdo p s).bind fun p1 => (rdo p2 p1.2).bind fun p3 => (m p3.2).bind fun i => (rdo p i.2).bind fun x => (rdo p2 x.2).bind fun y => (f x.1 y.1 i.1).bind fun z => some (z, y.2) := nrfl rfl
  rw [e, v_rdo h]
  simp only [Option.bind_some, v_rdo h2]
theorem v_ixOO [Enc α] [Enc β] {k l : Nat} {p : Pos S (Own (List α)) k} {p2 : Pos S (Own (List β)) l} {m : M S B} {f : List α → List β → B → Option γ} {x : List α} {y : List β} {i : B} {z : γ} (h : p.get s = .mine x) (h2 : p2.get s = .mine y) (e : m s = some (i, s)) (e2 : f x y i = some z) : ixOO p p2 m f s = some (z, s) := by
  rw [e_ixOO h h2]; simp only [Option.bind_some, e, v_rdo h, v_rdo h2, e2]
theorem o_ixOO [Enc α] [Enc β] {k l : Nat} {p : Pos S (Own (List α)) k} {p2 : Pos S (Own (List β)) l} {m : M S B} {f : List α → List β → B → Option γ} {x : List α} {y : List β} {i : B} {t : Option γ} (h : p.get s = .mine x) (h2 : p2.get s = .mine y) (e : m s = some (i, s)) (e2 : f x y i = t) : ixOO p p2 m f s = t.bind fun z => some (z, s) := by
  rw [e_ixOO h h2]; simp only [Option.bind_some, e, v_rdo h, v_rdo h2, e2]
theorem k_ixOO [Enc α] [Enc β] {k l : Nat} {p : Pos S (Own (List α)) k} {p2 : Pos S (Own (List β)) l} {m : M S B} {f : List α → List β → B → Option γ} {x : List α} {y : List β} {k' : γ × S → Option γ'} {o : Option δ'} (h : p.get s = .mine x) (h2 : p2.get s = .mine y)
    (K : Q ((m s).bind fun q => (rdo p q.2).bind fun r => (rdo p2 r.2).bind fun r2 => (f r.1 r2.1 q.1).bind fun z => k' (z, r2.2)) o) : Q ((ixOO p p2 m f s).bind k') o := by
  rw [e_ixOO h h2]; simp only [Option.bind_assoc, Option.bind_some]; exact K
theorem s_rem {k : Nat} {p : Pos S (Own (List Int)) k} {m : M S Int} {x : List Int} {kf : Fl S ρ → Option γ'} {o : Option δ'} (h : p.get s = .mine x) (K : Q ((m s).bind fun y => (rdo p y.2).bind fun xs => (remL xs.1 y.1).bind fun zs => kf (.nx (p.put xs.2 (.mine zs)))) o) : Q ((remM (ρ := ρ) p m s).bind kf) o := by
  have e : remM (ρ := ρ) p m s = (rdo p s).bind fun p1 => (m p1.2).bind fun y => (rdo p y.2).bind fun xs => (remL xs.1 y.1).map fun zs => .nx (p.put xs.2 (.mine zs)) := nrfl rfl
  rw [e, v_rdo h]
  simp only [Option.bind_some, Option.bind_assoc, Option.bind_map]
  exact K
end
end Rm
namespace Rm
open PySem PySem.Spec PyProof.Rows L2 Rg
open Enc (rel)
open Cell (cel)
open Slot (srel)
open Slots (srels)
/-! ### sorted pairs of ints -/
def leP (p q : Int × Int) : Bool := decide (p.1 < q.1) || (decide (p.1 = q.1) && decide (p.2 ≤ q.2))
theorem leP_iff {p q : Int × Int} : leP p q = true ↔ p.1 < q.1 ∨ (p.1 = q.1 ∧ p.2 ≤ q.2) := by unfold leP; simp
def insP (p : Int × Int) : List (Int × Int) → List (Int × Int)
  | [] => [p]
  | q :: r => if leP p q = true then p :: q :: r else q :: insP p r
def sortP : List (Int × Int) → List (Int × Int)
  | [] => []
  | p :: r => insP p (sortP r)
theorem insP_perm (p : Int × Int) : ∀ xs, (insP p xs).Perm (p :: xs)
  | [] => List.Perm.refl _
  | q :: r => by
    unfold insP
    split
    · exact List.Perm.refl _
    · exact (List.Perm.cons q (insP_perm p r)).trans (List.Perm.swap p q r)
theorem sortP_perm : ∀ xs, (sortP xs).Perm xs
  | [] => List.Perm.refl _
  | p :: r => (insP_perm p _).trans (List.Perm.cons p (sortP_perm r))
theorem leP_total (p q : Int × Int) : leP p q = true ∨ leP q p = true := by rw [leP_iff, leP_iff]; omega
theorem leP_trans {p q r : Int × Int} (h : leP p q = true) (k : leP q r = true) : leP p r = true := by rw [leP_iff] at *; omega
theorem leP_anti {p q : Int × Int} (h : leP p q = true) (k : leP q p = true) : p = q := by
  rw [leP_iff] at *
  exact Prod.ext (by omega) (by omega)
theorem insP_sorted (p : Int × Int) : ∀ {xs : List (Int × Int)}, xs.Pairwise (fun a b => leP a b = true) → (insP p xs).Pairwise (fun a b => leP a b = true)
  | [], _ => by unfold insP; exact List.pairwise_singleton _ _
  | q :: r, h => by
    have h' := List.pairwise_cons.mp h
    unfold insP
    split
    · rename_i c
      exact List.pairwise_cons.mpr ⟨fun z hz => by
        rcases List.mem_cons.mp hz with rfl | hz
        · exact c
        · exact leP_trans c (h'.1 z hz), h⟩
    · rename_i c
      refine List.pairwise_cons.mpr ⟨fun z hz => ?_, insP_sorted p h'.2⟩
      rcases List.mem_cons.mp ((insP_perm p r).mem_iff.mp hz) with rfl | hz
      · exact (leP_total q z).resolve_right c
      · exact h'.1 z hz
theorem sortP_sorted : ∀ xs : List (Int × Int), (sortP xs).Pairwise (fun a b => leP a b = true)
  | [] => List.Pairwise.nil
  | p :: r => insP_sorted p (sortP_sorted r)
theorem sortP_unique : ∀ {xs ys : List (Int × Int)}, xs.Perm ys → xs.Pairwise (fun a b => leP a b = true) → ys.Pairwise (fun a b => leP a b = true) → xs = ys
  | [], ys, h, _, _ => (List.Perm.nil_eq h)
  | x :: xs, [], h, _, _ => absurd h.length_eq (by simp)
  | x :: xs, y :: ys, h, hx, hy => by
    have hx := List.pairwise_cons.mp hx
    have hy := List.pairwise_cons.mp hy
    have e : x = y := by
      have m1 := h.mem_iff.mp (List.mem_cons_self ..)
      have m2 := h.mem_iff.mpr (List.mem_cons_self ..)
      rcases List.mem_cons.mp m1 with e | m1
      · exact e
      · rcases List.mem_cons.mp m2 with e | m2
        · exact e.symm
        · exact leP_anti (hx.1 _ m2) (hy.1 _ m1)
    subst e
    rw [sortP_unique (List.Perm.cons_inv h) hx.2 hy.2]
theorem Paired.perm {α β : Type} {R : α → β → Prop} {us vs : List α} (h : vs.Perm us) : ∀ {xs : List β}, Paired R us xs → ∃ ys, Paired R vs ys ∧ ys.Perm xs := by
  induction h with
  | nil => intro xs p; exact ⟨xs, p, List.Perm.refl _⟩
  | cons x _ ih =>
    intro xs p
    cases p with
    | cons a t =>
      obtain ⟨ys, q, pm⟩ := ih t
      exact ⟨_, .cons a q, List.Perm.cons _ pm⟩
  | swap x y l =>
    intro xs p
    cases p with
    | cons a t => cases t with
      | cons b t => exact ⟨_, .cons b (.cons a t), List.Perm.swap _ _ _⟩
  | trans _ _ h1 h2 =>
    intro xs p
    obtain ⟨ys, q, pm⟩ := h2 p
    obtain ⟨zs, q2, pm2⟩ := h1 q
    exact ⟨zs, q2, pm2.trans pm⟩
@[irreducible] def gSortP (xs : List (Int × Int)) : Option (List (Int × Int)) := if xs.length < 64 ∧ xs.all (fun p => decide (0 ≤ p.1) && decide (p.1 < 2 ^ 200) && decide (0 ≤ p.2) && decide (p.2 < 2 ^ 200)) = true then some (sortP xs) else none
section
variable {K : PySem.W.Frag} {d : Addr → Prop} {F0 H0 : Hp} {S : Type} [Slots S]
theorem rel_pair {F : Hp} {v : V} {p : Int × Int} (h : rel K F v p) : L2.TupI K F v [p.1, p.2] := by
  obtain ⟨a, x, y, rfl, hs, r1, r2⟩ := h
  cases r1
  cases r2
  exact ⟨a, rfl, hs⟩
theorem code2 {B x y : Int} : TS.code B [x, y] = x * B + y := by
  show x * B ^ 1 + (y * B ^ 0 + 0) = _
  rw [Int.pow_succ, Int.pow_zero, Int.one_mul, Int.mul_one, Int.add_zero]
theorem code_leP {B : Int} {p q : Int × Int} (h1 : 0 ≤ p.2 ∧ p.2 < B) (h2 : 0 ≤ q.2 ∧ q.2 < B) (h : TS.code B [p.1, p.2] ≤ TS.code B [q.1, q.2]) : leP p q = true := by
  rw [code2, code2] at h
  rw [leP_iff]
  rcases Int.lt_trichotomy p.1 q.1 with c | c | c
  · exact .inl c
  · right
    rw [c] at h
    exact ⟨c, by omega⟩
  · exfalso
    have := Int.mul_le_mul_of_nonneg_right (show q.1 + 1 ≤ p.1 by omega) (show 0 ≤ B by omega)
    rw [Int.add_mul, Int.one_mul] at this
    omega
theorem rbf_sortedP : RBF K d F0 H0 S (rSortU K 2 (2 ^ 200)) (fun x : List (Int × Int) × Unit => gSortP x.1) := by
  intro Z s σ F H c vs x z r e Q q
  unfold gSortP at e
  obtain ⟨⟨hl, ha⟩, rfl⟩ := ite_some e
  obtain ⟨v, ws, rfl, ⟨a, us, rfl, hs, p⟩, rfl⟩ := r
  have bd : ∀ y ∈ x.1, (0 ≤ y.1 ∧ y.1 < 2 ^ 200) ∧ 0 ≤ y.2 ∧ y.2 < 2 ^ 200 := fun y hy => by
    have := List.all_eq_true.mp ha y hy
    simp only [Bool.and_eq_true, decide_eq_true_eq] at this
    exact ⟨⟨this.1.1.1, this.1.1.2⟩, this.1.2, this.2⟩
  refine ⟨a, us, rfl, Same.seq c.fh hs, by rw [Paired.length p]; exact hl, fun u hu => ?_, fun ys l pm pw hp => ?_⟩
  · obtain ⟨i, hi, rfl⟩ := List.getElem_of_mem hu
    obtain ⟨y, hy, ry⟩ := Paired.getL p (List.getElem?_eq_getElem hi)
    have b := bd y (List.mem_of_getElem? hy)
    obtain ⟨t, e1, e2⟩ := rel_pair ry
    exact ⟨[y.1, y.2], ⟨t, e1, SqT.same e2 c.fh⟩, rfl, fun m hm => by
      simp only [List.mem_cons, List.not_mem_nil, or_false] at hm
      rcases hm with rfl | rfl
      · exact b.1
      · exact b.2⟩
  · obtain ⟨zs, pz, pm2⟩ := Paired.perm pm p
    have sz : zs.Pairwise (fun a b => leP a b = true) := by
      rw [List.pairwise_iff_getElem]
      intro i j hi hj hij
      have pl := Paired.length pz
      have wi : i < ys.length := by omega
      have wj : j < ys.length := by omega
      obtain ⟨y1, g1, r1⟩ := Paired.getL pz (List.getElem?_eq_getElem wi)
      obtain ⟨y2, g2, r2⟩ := Paired.getL pz (List.getElem?_eq_getElem wj)
      rw [List.getElem?_eq_getElem hi] at g1
      rw [List.getElem?_eq_getElem hj] at g2
      cases g1
      cases g2
      obtain ⟨t1, e1, s1⟩ := rel_pair r1
      obtain ⟨t2, e2, s2⟩ := rel_pair r2
      have k := (List.pairwise_iff_getElem.mp pw) i j wi wj hij [zs[i].1, zs[i].2] [zs[j].1, zs[j].2] ⟨t1, e1, SqT.same s1 c.fh⟩ ⟨t2, e2, SqT.same s2 c.fh⟩
      exact code_leP (bd _ (pm2.mem_iff.mp (List.getElem_mem hi))).2 (bd _ (pm2.mem_iff.mp (List.getElem_mem hj))).2 k
    have e := sortP_unique (pm2.trans (sortP_perm _).symm) sz (sortP_sorted _)
    subst e
    exact q ys l F H c (Same.refl _) hp pz
/-! ### a list of things that may be none, none of which is -/
def allO {α : Type} : List (Option α) → Option (List α)
  | [] => some []
  | x :: xs => x.bind fun y => (allO xs).map fun ys => y :: ys
theorem allO_rel {α : Type} [Enc α] {F : Hp} : ∀ {vs : List V} {xs : List (Option α)} {ys : List α}, Paired (rel K F) vs xs → allO xs = some ys → Paired (rel K F) vs ys
  | _, [], ys, p, e => by cases e; cases p; exact .nil
  | _, x :: xs, ys, p, e => by
    cases p with
    | cons a t =>
      unfold allO at e
      cases x with
      | none => cases e
      | some y =>
        cases e2 : allO xs with
        | none => rw [e2] at e; cases e
        | some zs =>
          rw [e2] at e
          cases e
          exact .cons a (allO_rel t e2)
theorem j_theL {α : Type} [Enc α] {t : TE} {m : M S (List (Option α))} (h : JE K d F0 H0 S t m) : JE K d F0 H0 S t (op1 allO m) := by
  intro Z s σ F H c x s' e Q q
  obtain ⟨y1, s1, e1, e⟩ := bnd_some e
  obtain ⟨e3, rfl⟩ := lft_some e
  refine h _ _ _ _ _ c _ _ e1 _ fun v F1 H1 c1 q1 r1 => q v _ _ c1 q1 ?_
  obtain ⟨a, vs, rfl, hs, p⟩ := r1
  exact ⟨a, vs, rfl, hs, allO_rel p e3⟩
/-! ### an optional thing put where it must be one -/
def pThe {S α : Type} (f : α → S → Option S) : Option α → S → Option S := fun o s => o.bind fun x => f x s
theorem jg_the {α : Type} [Enc α] {is : List Nat} {g : TG} {f : α → S → Option S} (h : JG K d F0 H0 S is g f) : JG K d F0 H0 S is g (pThe f) := by
  intro Z s σ F H c v x s' r e R q
  cases x with
  | none => cases e
  | some y => exact h _ _ _ _ _ c v y s' r e R q
end
section
variable {S α : Type} [Slots S] {s s' : S} {γ' δ' : Type} {Q : Option γ' → Option δ' → Prop} [BR Q]
theorem p_the {f : α → S → Option S} {o : Option α} {k' : S → Option γ'} {g : α → Option δ'} (K : ∀ x, Q ((f x s).bind k') (g x)) : Q ((pThe f o s).bind k') (o.bnd g) := by
  unfold pThe
  rw [Option.bind_assoc]
  exact BR.bnd o K
end
section
variable {K : PySem.W.Frag} {d : Addr → Prop} {F0 H0 : Hp} {S : Type} [Slots S] {ρ : Type} {RT : S → Hp → VK → ρ → Prop} [RTm RT]
def pOwnD {S α : Type} [Slots S] [Enc α] {k : Nat} (p : Pos S (Own (DI α)) k) : DI α → S → Option S := fun x s => some (p.put s (.mine x))
theorem js_par3KOD {α β γ : Type} [Enc α] [Enc β] [Enc γ] {i j k : Nat} (p : Pos S (Own (DI α)) i) (p' : Pos S (Own (List β)) j) (p'' : Pos S (Dt γ) k) {tb tc : TE} {n : M S (List β)} {l : M S γ} (hb : JF K d F0 H0 S tb n) (hc : JE K d F0 H0 S tc l) :
    JS K d F0 H0 S RT (tPar3 i j k (tCons tDNewK (tCons tb (tCons tc tNil)))) (par3OM (pur (DI.mk [])) n l (pOwnD p) (pOwn p') (pName p'')) := by
  intro s σ F H c f e D q
  obtain ⟨x, s1, e1, ea⟩ := bindS_some e
  obtain ⟨y, s2, e2, eb⟩ := bindS_some ea
  obtain ⟨z, s3, e3, ec⟩ := bindS_some eb
  cases e1
  cases ec
  refine r_par3 (r_cons fun a ha => r_cons (hb _ _ _ _ _ (c.junk ha (.dK [])) _ _ e2 _ fun vs b F2 H2 c2 q2 hp r2 => r_cons (hc _ _ _ _ _ (c2.junk hp (.lst vs)) _ _ e3 _ fun w F3 H3 c3 q3 r3 => r_nil ?_)))
  have ne : b ≠ a := fun z => by subst z; have := (c2.hz upd_same).1; rw [hp] at this; cases this
  have zc : upd (upd Z0 a (.dK [])) b (.lst vs) = upd (upd Z0 b (.lst vs)) a (.dK []) := by
    funext x
    by_cases h1 : x = b
    · subst h1; rw [upd_same, upd_ne ne, upd_same]
    · rw [upd_ne h1]
      by_cases h2 : x = a
      · subst h2; rw [upd_same, upd_same]
      · rw [upd_ne h2, upd_ne h2, upd_ne h1]
  rw [zc] at c3
  have c4 := c3.ownHeld (Z := upd Z0 b (.lst vs)) (by rw [upd_ne (fun z => ne z.symm)]) p ⟨[], rfl, .nil⟩
  have c5 := c4.ownHeld (Z := Z0) rfl p' ⟨vs, rfl, Paired.imp (fun _ _ => Enc.mono q3) r2⟩
  exact ⟨_, _, _, rfl, q _ F3 _ (c5.set p'' r3) (q2.trans q3)⟩
theorem js_asg3KOD {α β γ : Type} [Enc α] [Enc β] [Enc γ] {i j k : Nat} (p : Pos S (Own (DI α)) i) (p' : Pos S (Own (List β)) j) (p'' : Pos S (Dt γ) k) {tb tc : TE} {n : M S (List β)} {l : M S γ} (hb : JF K d F0 H0 S tb n) (hc : JE K d F0 H0 S tc l) :
    JS K d F0 H0 S RT (tAsg (tTup (tCons tDNewK (tCons tb (tCons tc tNil)))) (gTup K 3 (gCons (gName i) (gCons (gName j) (gCons (gName k) gNil))))) (par3OM (pur (DI.mk [])) n l (pOwnD p) (pOwn p') (pName p'')) := by
  intro s σ F H c f e D q
  obtain ⟨x, s1, e1, ea⟩ := bindS_some e
  obtain ⟨y, s2, e2, eb⟩ := bindS_some ea
  obtain ⟨z, s3, e3, ec⟩ := bindS_some eb
  cases e1
  cases ec
  refine r_asg (r_tup (r_cons fun a ha => r_cons (hb _ _ _ _ _ (c.junk ha (.dK [])) _ _ e2 _ fun vs b F2 H2 c2 q2 hp r2 => r_cons (hc _ _ _ _ _ (c2.junk hp (.lst vs)) _ _ e3 _ fun w F3 H3 c3 q3 r3 => r_nil ⟨by show 3 ≤ sizeLine; decide, fun t ht => ?_⟩))))
  have ne : b ≠ a := fun z => by subst z; have := (c2.hz upd_same).1; rw [hp] at this; cases this
  have zc : upd (upd Z0 a (.dK [])) b (.lst vs) = upd (upd Z0 b (.lst vs)) a (.dK []) := by
    funext x
    by_cases h1 : x = b
    · subst h1; rw [upd_same, upd_ne ne, upd_same]
    · rw [upd_ne h1]
      by_cases h2 : x = a
      · subst h2; rw [upd_same, upd_same]
      · rw [upd_ne h2, upd_ne h2, upd_ne h1]
  rw [zc] at c3
  have c3 := c3.drop ht (.tup [.ref a, .ref b, w])
  have c4 := c3.ownHeld (Z := upd Z0 b (.lst vs)) (by rw [upd_ne (fun z => ne z.symm)]) p ⟨[], rfl, .nil⟩
  have c5 := c4.ownHeld (Z := Z0) rfl p' ⟨vs, rfl, Paired.imp (fun _ _ => Enc.mono q3) r2⟩
  refine r_gtup (.inl (.inl upd_same)) rfl (r_gcons (r_name (r_gcons (r_name (r_gcons (r_name (r_gnil ?_)))))))
  exact q _ F3 _ (c5.set p'' r3) (q2.trans q3)
end
section
variable {S α : Type} [Slots S] {s s' : S} {γ' δ' : Type} {Q : Option γ' → Option δ' → Prop} [BR Q]
theorem p_ownD [Enc α] {k : Nat} {p : Pos S (Own (DI α)) k} {x : DI α} {k' : S → Option γ'} {o : Option δ'} (h : p.put s (.mine x) = s') (K : Q (k' s') o) : Q ((pOwnD p x s).bind k') o := by subst h; exact K
end
end Rm
namespace Rm
open PySem PySem.Spec PyProof.Rows L2 Rg
open Enc (rel)
open Cell (cel)
open Slot (srel)
open Slots (srels)
/-! ### three names at once through a tuple: data and two own lists -/
section
variable {K : PySem.W.Frag} {d : Addr → Prop} {F0 H0 : Hp} {S : Type} [Slots S] {ρ : Type} {RT : S → Hp → VK → ρ → Prop} [RTm RT]
theorem js_asg3DOO {α β γ : Type} [Enc α] [Enc β] [Enc γ] {i j k : Nat} (p : Pos S (Dt α) i) (p' : Pos S (Own (List β)) j) (p'' : Pos S (Own (List γ)) k) {ta tb tc : TE} {m : M S α} {n : M S (List β)} {l : M S (List γ)} (ha : JE K d F0 H0 S ta m) (hb : JF K d F0 H0 S tb n) (hc : JF K d F0 H0 S tc l) :
    JS K d F0 H0 S RT (tAsg (tTup (tCons ta (tCons tb (tCons tc tNil)))) (gTup K 3 (gCons (gName i) (gCons (gName j) (gCons (gName k) gNil))))) (par3OM m n l (pName p) (pOwn p') (pOwn p'')) := by
  intro s σ F H c f e D q
  obtain ⟨x, s1, e1, ea⟩ := bindS_some e
  obtain ⟨y, s2, e2, eb⟩ := bindS_some ea
  obtain ⟨z, s3, e3, ec⟩ := bindS_some eb
  cases ec
  refine r_asg (r_tup (r_cons (ha _ _ _ _ _ c _ _ e1 _ fun v F1 H1 c1 q1 r1 => r_cons (hb _ _ _ _ _ c1 _ _ e2 _ fun vs b F2 H2 c2 q2 hp r2 => r_cons (hc _ _ _ _ _ (c2.junk hp (.lst vs)) _ _ e3 _ fun ws a F3 H3 c3 q3 ha r3 => r_nil ⟨by show 3 ≤ sizeLine; decide, fun t ht => ?_⟩)))))
  have ne : a ≠ b := fun z => by subst z; have := (c3.hz upd_same).1; rw [ha] at this; cases this
  have c3 := c3.junk ha (.lst ws)
  have zc : upd (upd Z0 b (.lst vs)) a (.lst ws) = upd (upd Z0 a (.lst ws)) b (.lst vs) := by
    funext x
    by_cases h1 : x = a
    · subst h1; rw [upd_same, upd_ne ne, upd_same]
    · rw [upd_ne h1]
      by_cases h2 : x = b
      · subst h2; rw [upd_same, upd_same]
      · rw [upd_ne h2, upd_ne h2, upd_ne h1]
  rw [zc] at c3
  have c3 := c3.drop ht (.tup [v, .ref b, .ref a])
  have c4 := (c3.set p (Enc.mono (q2.trans q3) r1)).ownHeld (Z := upd Z0 a (.lst ws)) (by rw [upd_ne (fun z => ne z.symm)]) p' ⟨vs, rfl, Paired.imp (fun _ _ => Enc.mono q3) r2⟩
  have c5 := c4.ownHeld (Z := Z0) rfl p'' ⟨ws, rfl, r3⟩
  refine r_gtup (.inl (.inl upd_same)) rfl (r_gcons (r_name (r_gcons (r_name (r_gcons (r_name (r_gnil ?_)))))))
  exact q _ F3 _ c5 (q1.trans (q2.trans q3))
end
end Rm
namespace Rg
open PySem PySem.Spec PyProof.Rows L2
/-! ### the greatest of pairs of ints -/
section
variable {X : L2.Cx}
def rMaxP (K : PySem.W.Frag) : List V → Hp → VK → Prop := fun vs H Q => ∃ (a : Addr) (xs : List V) (y : Int × Int) (ys : List (Int × Int)), vs = [V.ref a] ∧ SqL K H a xs ∧
  Paired (fun v (p : Int × Int) => ∃ t, v = V.ref t ∧ SqT K H t [V.int p.1, V.int p.2]) xs (y :: ys) ∧
  ∀ (i : Nat) v, xs[i]? = some v → (y :: ys)[i]? = some (PySem.W.maxOf y ys) → Q v H
theorem holds_pairs {K : PySem.W.Frag} {H : Hp} {h : Heap} (tp : ∀ {t xs}, SqT K H t xs → ∃ its2, Vals xs its2 ∧ IsTup h t its2.toArray) : ∀ {l1 : List V} {l2 : List (Int × Int)} {l3 : List Value},
    Paired (fun v (p : Int × Int) => ∃ t, v = V.ref t ∧ SqT K H t [V.int p.1, V.int p.2]) l1 l2 → Vals l1 l3 → PySem.W.HoldAll h l3 l2 := by
  intro l1 l2 l3 p
  induction p generalizing l3 with
  | nil => intro r; cases r; exact ⟨[], .nil⟩
  | cons a t ih =>
    intro r
    cases r with
    | cons hr r2 =>
      obtain ⟨t, rfl, ht⟩ := a
      obtain ⟨its2, v2, ⟨o, e1, e2, n, e3⟩⟩ := tp ht
      obtain ⟨as, ra⟩ := ih r2
      have hr : _ = Value.ref t := hr
      subst hr
      have hi : IntsAre its2 _ := intsAre_of (ns := [_, _]) v2
      exact ⟨_, .cons (.tuple (as := []) e1 e2 e3 (PySem.W.readsAll_of_ints hi)) ra⟩
theorem cr_maxP (hc : X.calm = true) (hu : X.A.units + 64 < cLine) : CallR X (.builtin "max") (rMaxP X.K) := by
  intro pins s σ H vs us Q I r h
  obtain ⟨a, xs, y, ys, rfl, hs, pt, q⟩ := h
  obtain ⟨its, rv, pl, hz⟩ := I.list hs
  rw [Vals.ref1 r]
  have hl : s.heap.IsList a its.toArray := pl.isList
  have tp : ∀ {t xs}, SqT X.K H t xs → ∃ its2, Vals xs its2 ∧ IsTup s.heap t its2.toArray := fun ht => by
    obtain ⟨its2, r2, p2, _⟩ := I.tuple ht
    exact ⟨its2, r2, p2⟩
  have hh := holds_pairs tp pt rv
  refine PySem.W.max_list_datum (I.ok.hd hc) hl (x := y) (xs := ys) hh (by show X.A.units + 1 + _ < _; have : PySem.W.Datum.depth (Int × Int) ≤ 4 := by decide
                                                                           omega) fun i v h' tk hv hm hk => ?_
  have hv : its[i]? = some v := by simpa using hv
  have lx : i < xs.length := by rw [rv.length]; exact (List.getElem?_eq_some_iff.mp hv).1
  obtain ⟨u, hu1, hr⟩ := Vals.get rv (List.getElem?_eq_getElem lx)
  rw [hv] at hu1
  cases hu1
  refine ⟨_, H, I.kept hk, hr, q i _ (List.getElem?_eq_getElem lx) ?_⟩
  obtain ⟨p, hp, t, et, ht⟩ := Rm.Paired.getL pt (List.getElem?_eq_getElem lx)
  obtain ⟨its2, v2, ⟨o, e1, e2, n, e3⟩⟩ := tp ht
  rw [et] at hr
  have hr : v = Value.ref t := hr
  subst hr
  obtain ⟨as, rm⟩ := hm
  have hi : IntsAre its2 [p.1, p.2] := intsAre_of (ns := [_, _]) v2
  have rp : Reads h' (.ref t) (PySem.W.Datum.toD p) [] := .tuple (as := []) (hk _ _ e1) e2 e3 (PySem.W.readsAll_of_ints hi)
  have e := PySem.SeqAt.Reads.unique _ _ _ _ _ (by show PyData.canLay0 (.tuple [.int p.1, .int p.2]) = true; simp [PyData.canLay0, PyData.canLayAll0]) rp rm
  rw [hp]
  congr 1
  have e : PyData.tuple [.int p.1, .int p.2] = .tuple [.int (PySem.W.maxOf y ys).1, .int (PySem.W.maxOf y ys).2] := e
  injection e with e
  injection e with ea eb
  injection eb with eb _
  injection ea with ea
  injection eb with eb
  exact Prod.ext ea eb
end
end Rg
namespace Rm
open PySem PySem.Spec PyProof.Rows L2 Rg
open Enc (rel)
open Cell (cel)
open Slot (srel)
open Slots (srels)
def maxTu : List (Int × Int) → Option (Int × Int)
  | [] => none
  | y :: ys => some (PySem.W.maxOf y ys)
section
variable {K : PySem.W.Frag} {d : Addr → Prop} {F0 H0 : Hp} {S : Type} [Slots S]
theorem rb_maxTu : RB K d F0 H0 S (rMaxP K) (fun x : List (Int × Int) × Unit => maxTu x.1) := by
  intro Z s σ F H c vs x z r e Q q
  obtain ⟨v, ws, rfl, ⟨a, us, rfl, hs, p⟩, rfl⟩ := r
  have e : maxTu x.1 = some z := e
  cases hx : x.1 with
  | nil => rw [hx] at e; cases e
  | cons y ys =>
    rw [hx] at e p
    cases e
    refine ⟨a, us, y, ys, rfl, Same.seq c.fh hs, Paired.imp (fun v y h => ?_) p, fun i v hv hi => ?_⟩
    · obtain ⟨t, x1, y1, e, hh, h1, h2⟩ := h
      cases h1
      cases h2
      exact ⟨t, e, SqT.same hh c.fh⟩
    · obtain ⟨w, h1, h2⟩ := Paired.getL p hv
      rw [hi] at h1
      cases h1
      exact q _ _ _ c (Same.refl _) h2
end
/-! ### p < q, pairs of ints -/
theorem op_ltT64 {X : L2.Cx} (hu : X.A.units + 64 < cLine) : OpR X (compareOp .Lt) (rLtT X.K) := op_ltT (by omega)
def ltT2 (x y : Int × Int) : Bool := decide (x.1 < y.1 ∨ (x.1 = y.1 ∧ x.2 < y.2))
section
variable {K : PySem.W.Frag} {d : Addr → Prop} {F0 H0 : Hp} {S : Type} [Slots S]
theorem rj_ltT : RJ2 K d F0 H0 S (rLtT K) (fun x y : Int × Int => some (ltT2 x y)) := by
  intro Z s σ F H c v u x y z r1 r2 e Q q
  obtain ⟨a, x1, x2, rfl, h1, p1, p2⟩ := r1
  obtain ⟨b, y1, y2, rfl, h2, q1, q2⟩ := r2
  cases p1; cases p2; cases q1; cases q2; cases e
  refine ⟨a, b, [x.1, x.2], [y.1, y.2], rfl, rfl, SqT.same h1 c.fh, Rg.SqT.same h2 c.fh, ?_⟩
  rw [lexLt2]
  exact q _ _ _ c (Same.refl _) rfl
end
/-- the greatest of pairs -/
theorem maxTu_spec : ∀ {xs : List (Int × Int)}, xs ≠ [] → ∃ r, maxTu xs = some r ∧ r ∈ xs ∧ ∀ x ∈ xs, x.1 < r.1 ∨ (x.1 = r.1 ∧ x.2 ≤ r.2)
  | [], h => absurd rfl h
  | x :: xs, _ => by
    have lt : ∀ p q : Int × Int, PySem.W.DatumOrd.lt p q = true ↔ p.1 < q.1 ∨ (p.1 = q.1 ∧ p.2 < q.2) := fun p q => by
      show (if p.1 = q.1 then decide (p.2 < q.2) else decide (p.1 < q.1)) = true ↔ _
      split
      · rename_i h; simp [h]
      · rename_i h; simp [h]
    have go : ∀ (ys : List (Int × Int)) (b : Int × Int), ∃ r, PySem.W.maxOf b ys = r ∧ (r = b ∨ r ∈ ys) ∧ (∀ x ∈ ys, x.1 < r.1 ∨ (x.1 = r.1 ∧ x.2 ≤ r.2)) ∧ (b.1 < r.1 ∨ (b.1 = r.1 ∧ b.2 ≤ r.2)) := by
      intro ys
      induction ys with
      | nil => intro b; exact ⟨b, rfl, .inl rfl, (fun x h => by cases h), .inr ⟨rfl, Int.le_refl _⟩⟩
      | cons y ys ih =>
        intro b
        have st : PySem.W.maxOf b (y :: ys) = PySem.W.maxOf (if PySem.W.DatumOrd.lt b y = true then y else b) ys := rfl
        rw [st]
        by_cases h : PySem.W.DatumOrd.lt b y = true
        · rw [if_pos h]
          have h2 := (lt b y).mp h
          obtain ⟨r, e, m, a1, a2⟩ := ih y
          refine ⟨r, e, ?_, fun x hx => ?_, by omega⟩
          · rcases m with rfl | m
            · exact .inr (List.mem_cons_self ..)
            · exact .inr (List.mem_cons_of_mem _ m)
          · rcases List.mem_cons.mp hx with rfl | hx
            · exact a2
            · exact a1 x hx
        · rw [if_neg h]
          have h2 : ¬ (b.1 < y.1 ∨ (b.1 = y.1 ∧ b.2 < y.2)) := fun z => h ((lt b y).mpr z)
          obtain ⟨r, e, m, a1, a2⟩ := ih b
          refine ⟨r, e, ?_, fun x hx => ?_, a2⟩
          · rcases m with rfl | m
            · exact .inl rfl
            · exact .inr (List.mem_cons_of_mem _ m)
          · rcases List.mem_cons.mp hx with rfl | hx
            · omega
            · exact a1 x hx
    obtain ⟨r, e, m, a1, a2⟩ := go xs x
    refine ⟨r, congrArg some e, ?_, fun z hz => ?_⟩
    · rcases m with rfl | m
      · exact List.mem_cons_self ..
      · exact List.mem_cons_of_mem _ m
    · rcases List.mem_cons.mp hz with rfl | hz
      · exact a2
      · exact a1 z hz
end Rm
namespace Rm
open PySem PySem.Spec PyProof.Rows L2 Rg
open Enc (rel)
open Cell (cel)
open Slot (srel)
open Slots (srels)
/-! ### for x in xs, xs a variable's own list that the body leaves as it is -/
section
variable {K : PySem.W.Frag} {d : Addr → Prop} {F0 H0 : Hp} {S : Type} [Slots S] {ρ : Type} {RT : S → Hp → VK → ρ → Prop} [RTm RT]
theorem wipe_out {k : Nat} : ∀ {vs : List Nat} {σ : L2.St}, k ∉ vs → (wipe σ vs)[k]? = σ[k]?
  | [], _, _ => rfl
  | j :: vs, σ, h => by
    have h1 : j ≠ k := fun z => h (by rw [z]; exact List.mem_cons_self ..)
    have h2 : k ∉ vs := fun z => h (List.mem_cons_of_mem _ z)
    unfold wipe
    rw [List.getElem?_set_ne h1, wipe_out h2]
/-- as FlOk, the slot k as it was -/
def FlK (K : PySem.W.Frag) (d : Addr → Prop) (F0 H0 : Hp) {S ρ : Type} [Slots S] (RT : S → Hp → VK → ρ → Prop) (k : Nat) (σ0 : L2.St) (f : Fl S ρ) (F : Hp) (D : Ends) : Prop := match f with
  | .nx s' => ∀ σ' F' H', Cx K d F0 H0 Z0 s' σ' F' H' → Same F F' → σ'[k]? = σ0[k]? → D.nx σ' H'
  | .bk s' => ∀ σ' F' H', Cx K d F0 H0 Z0 s' σ' F' H' → Same F F' → σ'[k]? = σ0[k]? → D.bk σ' H'
  | .ct s' => ∀ σ' F' H', Cx K d F0 H0 Z0 s' σ' F' H' → Same F F' → σ'[k]? = σ0[k]? → D.ct σ' H'
  | .rt r s' => RT s' F D.rt r
def JSk (K : PySem.W.Frag) (d : Addr → Prop) (F0 H0 : Hp) (S : Type) [Slots S] {ρ : Type} (RT : S → Hp → VK → ρ → Prop) (k : Nat) (t : TS) (m : MS S ρ) : Prop :=
  ∀ (s : S) (σ : L2.St) (F H : Hp), Cx K d F0 H0 Z0 s σ F H → ∀ f, m s = some f → ∀ D : Ends, FlK K d F0 H0 RT k σ f F D → t D σ H
theorem FlK.mono {k : Nat} {σ0 σ1 : L2.St} {f : Fl S ρ} {F F' : Hp} {D : Ends} (h : FlK K d F0 H0 RT k σ0 f F D) (s : Same F F') (e : σ1[k]? = σ0[k]?) : FlK K d F0 H0 RT k σ1 f F' D := by
  cases f with
  | nx s' => exact fun σ' F2 H' c q e2 => h σ' F2 H' c (s.trans q) (e2.trans e)
  | bk s' => exact fun σ' F2 H' c q e2 => h σ' F2 H' c (s.trans q) (e2.trans e)
  | ct s' => exact fun σ' F2 H' c q e2 => h σ' F2 H' c (s.trans q) (e2.trans e)
  | rt r s' => exact RTm.mono s h
theorem jk_next {k : Nat} : JSk K d F0 H0 S RT k tNext nextM := by
  intro s σ F H c f e D q
  cases e
  exact q _ _ _ c (Same.refl _) rfl
theorem jk_seq {k : Nat} {t u : TS} {a b : MS S ρ} (ha : JSk K d F0 H0 S RT k t a) (hb : JSk K d F0 H0 S RT k u b) : JSk K d F0 H0 S RT k (tSeq t u) (seqM a b) := by
  intro s σ F H c f e D q
  unfold seqM at e
  cases e1 : a s with
  | none => rw [e1] at e; cases e
  | some g =>
    rw [e1] at e
    refine ha s σ F H c g e1 { D with nx := u D } ?_
    cases g with
    | nx s' => exact fun σ' F' H' c' s1 hk => hb _ _ _ _ c' _ e D (q.mono s1 hk)
    | bk s' => cases e; exact q
    | ct s' => cases e; exact q
    | rt r s' => cases e; exact q
theorem jk_ret {ρ : Type} [Enc ρ] {k : Nat} {t : TE} {m : M S ρ} (h : JE K d F0 H0 S t m) : JSk K d F0 H0 S (RTn K d F0 H0 S) k (tRet t) (retM m) := by
  intro s σ F H c f e D q
  obtain ⟨x, s1, e1, e⟩ := bindS_some e
  cases e
  exact h _ _ _ _ _ c _ _ e1 _ fun v F' H' c' sf r => q v σ F' H' c' sf r
theorem jk_if {k : Nat} {t : TT} {u w : TS} {m : M S Bool} {a b : MS S ρ} (h : JT K d F0 H0 S t m) (ha : JSk K d F0 H0 S RT k u a) (hb : JSk K d F0 H0 S RT k w b) : JSk K d F0 H0 S RT k (tIfS t u w) (ifS m a b) := by
  intro s σ F H c f e D q
  obtain ⟨x, s1, e1, e⟩ := bindS_some e
  refine r_if (h _ _ _ _ _ c _ _ e1 _ fun v F' H' c' sf r => ?_)
  subst r
  cases v with
  | true => exact ha _ _ _ _ c' _ e D (q.mono sf rfl)
  | false => exact hb _ _ _ _ c' _ e D (q.mono sf rfl)
theorem jk_asg {α : Type} [Enc α] {k : Nat} {is : List Nat} {t : TE} {g : TG} {m : M S α} {put : α → S → Option S} (h : JE K d F0 H0 S t m) (hg : JG K d F0 H0 S is g put) (hk : k ∉ is := by decide) : JSk K d F0 H0 S RT k (tAsg t g) (asgM m put) := by
  intro s σ F H c f e D q
  obtain ⟨x, s1, e1, e⟩ := bindS_some e
  cases e2 : put x s1 with
  | none => rw [e2] at e; cases e
  | some s2 =>
    rw [e2] at e
    cases e
    refine r_asg (h _ _ _ _ _ c _ _ e1 _ fun v F' H' c' sf r => hg _ _ _ _ _ c' _ _ _ r e2 _ fun σ' c2 w => q σ' F' H' c2 sf ?_)
    have := w is fun i hi => hi
    rw [← wipe_out hk, this, wipe_out hk]
def peekO {S α : Type} [Slots S] [Slot (Own (List α))] {k : Nat} (p : Pos S (Own (List α)) k) (s : S) : Option (List α) := match p.get s with | .mine z => some z | _ => none
def forOL {S α ρ : Type} [Slots S] [Slot (Own (List α))] [DecidableEq α] {k : Nat} (p : Pos S (Own (List α)) k) (zs : List α) (put : α → S → Option S) (b : MS S ρ) : List α → S → Option (Fl S ρ)
  | [], s => if peekO p s = some zs then some (.nx s) else none
  | x :: xs, s => if peekO p s = some zs then (put x s).bind fun s1 => (b s1).bind fun f => match f with
    | .nx s' => forOL p zs put b xs s'
    | .ct s' => forOL p zs put b xs s'
    | .bk s' => some (.nx s')
    | .rt r s' => some (.rt r s') else none
def forOM {S α ρ : Type} [Slots S] [Slot (Own (List α))] [DecidableEq α] {k : Nat} (p : Pos S (Own (List α)) k) (put : α → S → Option S) (b : MS S ρ) : MS S ρ := fun s => (peekO p s).bind fun zs => forOL p zs put b zs s
theorem peekO_mine {α : Type} [Enc α] {k : Nat} {p : Pos S (Own (List α)) k} {s : S} {zs : List α} (h : peekO p s = some zs) : p.get s = .mine zs := by
  unfold peekO at h
  cases e : p.get s with
  | no => rw [e] at h; cases h
  | gone x => rw [e] at h; cases h
  | mine x => rw [e] at h; cases h; rfl
theorem js_forO {α : Type} [Enc α] [DecidableEq α] {is : List Nat} {k : Nat} (p : Pos S (Own (List α)) k) {g : TG} {tb : TS} {put : α → S → Option S} {b : MS S ρ} (hg : JG K d F0 H0 S is g put) (hk : k ∉ is) (hb : JSk K d F0 H0 S RT k tb b) :
    JS K d F0 H0 S RT (tFor (iList K (tVar k)) g tb) (forOM p put b) := by
  intro s σ F H c f e D q
  unfold forOM at e
  cases e0 : peekO p s with
  | none => rw [e0] at e; cases e
  | some zs =>
    rw [e0] at e
    have e : forOL p zs put b zs s = some f := e
    have m0 := peekO_mine e0
    obtain ⟨a, vs, h1, ha, r⟩ := c.peek p m0
    refine r_for (r_ilist ⟨.ref a, h1, a, rfl, ⟨vs, sqe ha⟩, ?_⟩)
    refine ⟨fun i m σ2 H2 => i + m = zs.length ∧ ∃ s2 F2, Cx K d F0 H0 Z0 s2 σ2 F2 H2 ∧ Same F F2 ∧ σ2[k]? = σ[k]? ∧ forOL p zs put b (zs.drop i) s2 = some f, ⟨zs.length, by omega, s, F, c, Same.refl _, rfl, e⟩, fun i m σ2 H2 hw => ?_⟩
    obtain ⟨em, s2, F2, c2, sf2, hk2, e2⟩ := hw
    have key : peekO p s2 = some zs := by
      cases hd : zs.drop i with
      | nil =>
        rw [hd] at e2
        unfold forOL at e2
        exact (ite_some e2).1
      | cons x xs =>
        rw [hd] at e2
        unfold forOL at e2
        by_cases h : peekO p s2 = some zs
        · exact h
        · rw [if_neg h] at e2; cases e2
    obtain ⟨a', vs', h1', ha', r'⟩ := c2.peek p (peekO_mine key)
    rw [hk2, h1] at h1'
    cases h1'
    have sq : SqL K H2 a vs' := sqe ha'
    have lv : vs'.length = zs.length := Paired.length r'
    cases m with
    | zero =>
      have ei : i = zs.length := by omega
      subst ei
      rw [List.drop_length] at e2
      unfold forOL at e2
      rw [if_pos key] at e2
      cases e2
      exact .inl ⟨⟨vs', sq, by omega⟩, q _ _ _ c2 sf2⟩
    | succ m =>
      have hi : i < zs.length := by omega
      have gx : zs[i]? = some zs[i] := List.getElem?_eq_getElem hi
      obtain ⟨w, hw1, hw2⟩ := Paired.getR r' gx
      rw [List.drop_eq_getElem_cons hi] at e2
      unfold forOL at e2
      rw [if_pos key] at e2
      refine .inr ⟨⟨vs', w, sq, hw1⟩, fun σ' H' => i + 1 + m = zs.length ∧ ∃ s3 F3, Cx K d F0 H0 Z0 s3 σ' F3 H' ∧ Same F F3 ∧ σ'[k]? = σ[k]? ∧ forOL p zs put b (zs.drop (i + 1)) s3 = some f, fun σ' H' w => ⟨m, Nat.lt_succ_self m, w⟩, fun x H3 y => ?_⟩
      obtain ⟨rfl, y⟩ := y
      have ey := y _ sq
      rw [hw1] at ey
      cases ey
      cases e3 : put zs[i] s2 with
      | none => rw [e3] at e2; cases e2
      | some s3 =>
        rw [e3] at e2
        refine hg _ _ _ _ _ c2 _ _ _ hw2 e3 _ fun σ4 c4 wq => ?_
        have k4 : σ4[k]? = σ2[k]? := by
          have := wq is fun i hi => hi
          rw [← wipe_out hk, this, wipe_out hk]
        cases e4 : b s3 with
        | none => rw [show (some s3).bind (fun s1 => (b s1).bind _) = (b s3).bind _ from rfl, e4] at e2; cases e2
        | some fl =>
          rw [show (some s3).bind (fun s1 => (b s1).bind _) = (b s3).bind _ from rfl, e4] at e2
          refine hb _ _ _ _ c4 _ e4 _ ?_
          cases fl with
          | nx s' => exact fun σ' F' H' c' sf' k5 => ⟨by omega, s', F', c', sf2.trans sf', by rw [k5, k4, hk2], e2⟩
          | ct s' => exact fun σ' F' H' c' sf' k5 => ⟨by omega, s', F', c', sf2.trans sf', by rw [k5, k4, hk2], e2⟩
          | bk s' => cases e2; exact fun σ' F' H' c' sf' k5 => q _ _ _ c' (sf2.trans sf')
          | rt r s' => cases e2; exact RTm.mono sf2 q
end
section
variable {S α ρ : Type} [Slots S] {s : S} {γ' δ' : Type} {Q : Option γ' → Option δ' → Prop} [BR Q] {kf : Fl S ρ → Option γ'}
theorem forOL_sim [Enc α] [DecidableEq α] {k : Nat} {p : Pos S (Own (List α)) k} {zs : List α} {σ : Type} {R : S → σ → Prop} {put : α → S → Option S} {b : MS S ρ} {B : σ → α → Option σ} (hR : ∀ s z, R s z → p.get s = .mine zs) (hb : ∀ x s z, R s z → QN R ((put x s).bind b) (B z x)) : ∀ (xs : List α) (s : S) (z : σ), R s z → QN R (forOL p zs put b xs s) (foldO B xs z)
  | [], s, z, h => by
    have e : peekO p s = some zs := by unfold peekO; rw [hR s z h]
    unfold forOL
    rw [if_pos e]
    exact ⟨s, rfl, h⟩
  | x :: xs, s, z, h => by
    have pk : peekO p s = some zs := by unfold peekO; rw [hR s z h]
    have q := hb x s z h
    unfold forOL foldO
    rw [if_pos pk]
    cases e : B z x with
    | none =>
      rw [e] at q
      have q : (put x s).bind b = none := q.p
      refine ⟨?_⟩
      show _ = none
      cases e1 : put x s with
      | none => rfl
      | some s1 =>
        rw [e1] at q
        have q : b s1 = none := q
        simp only [Option.bind_some, q, Option.bind_none]
    | some z1 =>
      rw [e] at q
      obtain ⟨s2, q, r⟩ := q
      cases e1 : put x s with
      | none => rw [e1] at q; cases q
      | some s1 =>
        rw [e1] at q
        have q : b s1 = some (.nx s2) := q
        simp only [Option.bind_some, q]
        exact forOL_sim hR hb xs s2 z1 r
theorem forOL_simR [Enc α] [DecidableEq α] {k : Nat} {p : Pos S (Own (List α)) k} {zs : List α} {σ ρ' : Type} {R : S → σ → Prop} {RR : S → ρ → ρ' → Prop} {put : α → S → Option S} {b : MS S ρ} {B : σ → α → Option (Re σ ρ')} (hR : ∀ s z, R s z → p.get s = .mine zs) (hb : ∀ x s z, R s z → QR R RR ((put x s).bind b) (B z x)) : ∀ (xs : List α) (s : S) (z : σ), R s z → QR R RR (forOL p zs put b xs s) (loopO B xs z)
  | [], s, z, h => by
    have e : peekO p s = some zs := by unfold peekO; rw [hR s z h]
    unfold forOL
    rw [if_pos e]
    exact ⟨s, rfl, h⟩
  | x :: xs, s, z, h => by
    have pk : peekO p s = some zs := by unfold peekO; rw [hR s z h]
    have q := hb x s z h
    unfold forOL loopO
    rw [if_pos pk]
    cases e : B z x with
    | none =>
      rw [e] at q
      have q : (put x s).bind b = none := q.p
      refine ⟨?_⟩
      show _ = none
      cases e1 : put x s with
      | none => rfl
      | some s1 =>
        rw [e1] at q
        have q : b s1 = none := q
        simp only [Option.bind_some, q, Option.bind_none]
    | some z1 => cases z1 with
      | nx z1 =>
        rw [e] at q
        obtain ⟨s2, q, r⟩ := q
        cases e1 : put x s with
        | none => rw [e1] at q; cases q
        | some s1 =>
          rw [e1] at q
          have q : b s1 = some (.nx s2) := q
          simp only [Option.bind_some, q]
          exact forOL_simR hR hb xs s2 z1 r
      | rt z1 =>
        rw [e] at q
        obtain ⟨s2, rr, q, r⟩ := q
        cases e1 : put x s with
        | none => rw [e1] at q; cases q
        | some s1 =>
          rw [e1] at q
          have q : b s1 = some (.rt rr s2) := q
          simp only [Option.bind_some, q]
          exact ⟨s2, rr, rfl, r⟩
theorem s_forOK [Enc α] [DecidableEq α] {k : Nat} {p : Pos S (Own (List α)) k} {zs : List α} {put : α → S → Option S} {b : MS S ρ} {o : Option δ'} (h : p.get s = .mine zs) (K : Q ((forOL p zs put b zs s).bind kf) o) : Q ((forOM p put b s).bind kf) o := by
  unfold forOM peekO
  rw [h]
  exact K
theorem s_forON [Enc α] [DecidableEq α] {k : Nat} {p : Pos S (Own (List α)) k} {zs : List α} {σ : Type} {R : S → σ → Prop} {put : α → S → Option S} {b : MS S ρ} {B : σ → α → Option σ} {xs : List α} {z : σ} {o : σ → Option δ'} (hR : ∀ s z, R s z → p.get s = .mine zs) (hb : ∀ x s z, R s z → QN R ((put x s).bind b) (B z x)) (h0 : R s z) (K : ∀ s' x, R s' x → Q (kf (.nx s')) (o x)) :
    Q ((forOL p zs put b xs s).bind kf) ((foldO B xs z).bnd o) := go_N (forOL_sim hR hb xs s z h0) K
theorem s_forOR [Enc α] [DecidableEq α] {k : Nat} {p : Pos S (Own (List α)) k} {zs : List α} {σ ρ' : Type} {R : S → σ → Prop} {RR : S → ρ → ρ' → Prop} {put : α → S → Option S} {b : MS S ρ} {B : σ → α → Option (Re σ ρ')} {xs : List α} {z : σ} {o : Re σ ρ' → Option δ'} (hR : ∀ s z, R s z → p.get s = .mine zs) (hb : ∀ x s z, R s z → QR R RR ((put x s).bind b) (B z x)) (h0 : R s z)
    (K : ∀ s' x, R s' x → Q (kf (.nx s')) (o (.nx x))) (K2 : ∀ s' r r', RR s' r r' → Q (kf (.rt r s')) (o (.rt r'))) :
    Q ((forOL p zs put b xs s).bind kf) ((loopO B xs z).bnd o) := go_R (forOL_simR hR hb xs s z h0) K K2
end
end Rm
namespace L2
open PySem PySem.Spec PyProof.Rows
section
variable {P : Program} {w : World} {A : Around} {E : Value → Shared → Prop} {s : Shared} {a : Addr} {es : Array (Int × Value)} {ep : Nat} {t : SetTable}
theorem sorted_setW {S : Int → Bool} {n : Nat} {Q : Value → Shared → Prop} (R : SetR w s.heap a S n) (hh : A.handled = none) (hz0 : n ≤ sizeLine)
    (hQ : ∀ s' p (out : Array Value) (c : Nat) (ns : List Int), (∀ b o, s.heap.get? b = some o → s'.heap.get? b = some o) → s'.gens = s.gens → s'.os = s.os → s.heap.objs.size ≤ p →
      s'.heap.get? p = some (seqObj "list" out c) → IntsAre out.toList ns → ns.Pairwise (· < ·) → (∀ k, k ∈ ns ↔ S k = true) → ns.length = n → Q (.ref p) s') :
    wpAny (model P w) A (call (.builtin "sorted") [.ref a]) Q E s := by
  obtain ⟨o, es, ep, t, ho, hex, hd, g, nd, hm, hb, hf, hn, hr, hl⟩ := R
  refine Calls.call_function_entry kind_sorted plain_sorted entry_sorted (args_sorted1 _) ?_
  unfold Builtin.«sorted»
  refine wpAny_bind (m := checkCount "sorted" 1 1 _) (wpAny_pure ?_)
  refine wpAny_bind (collect_set (A := A.in1) hh ⟨o, ho, hex.1, hd⟩ hf hb hr hl fun s1 vs k1 hz g1 o1 pm => ?_)
  have hvl : vs.length = n := by rw [pm.length_eq, List.length_map, Array.length_toList]; exact hn
  have hI : IntsAre vs (vs.map Builtin.Re.reRawOf) := ints_of vs fun v hv => by
    obtain ⟨e, he, q⟩ := List.mem_map.mp (pm.mem_iff.mp hv)
    obtain ⟨k, tk, h1, _⟩ := g e he
    exact ⟨k, tk, by rw [← q]; exact h1⟩
  have pk : (vs.map Builtin.Re.reRawOf).Perm (es.toList.map keyOf) := by
    have q := pm.map Builtin.Re.reRawOf
    rw [List.map_map] at q
    exact q
  refine wpAny_bind (wpAny_newList ?_ (by rw [hvl]; exact hz0))
  have hoL : (s1.heap.push (seqObj "list" vs.toArray 0)).get? s1.heap.objs.size = some (seqObj "list" vs.toArray 0) := Heap.get?_push_size _ rfl
  refine wpAny_bind (wpAny_holding (wpAny_call_entry slot_list_sort ⟨_, hoL, rfl⟩ entry_list_sort (SrtO.list_sort_ord SrtO.swo_int hoL (by rw [hvl]; exact hz0) (fun h2 => SrtO.ints_sortable hI h2) fun out h1 h2 => ⟨_, rfl, ?_⟩) (args_list_sort _)))
  obtain ⟨a1, a2, a3⟩ := SrtO.ints_out hI h1 h2
  obtain ⟨c, hc⟩ := sortedHeap_at (vs := vs) (out := out.toArray) hoL
  have pn : (out.map SrtO.iv).Perm (es.toList.map keyOf) := a2.trans pk
  refine wpAny_pure ⟨_, rfl, hQ _ s1.heap.objs.size out.toArray c (out.map SrtO.iv) (fun b u e => ?_) g1 o1 hz hc a1 (lt_of_le_nodup _ a3 (pn.nodup_iff.mpr nd)) (fun k => by rw [pn.mem_iff, ← hm k]) ?_⟩
  · have q := k1 b u e
    have hlt := Heap.lt_size q
    show (sortedHeap (s1.heap.push (seqObj "list" vs.toArray 0)) s1.heap.objs.size vs out.toArray).get? b = some u
    rw [sortedHeap_old (Nat.ne_of_lt hlt) (by rw [size_push']; exact Nat.lt_succ_of_lt hlt)]
    exact Heap.get?_push_of_some _ q
  · rw [pn.length_eq, List.length_map, Array.length_toList]; exact hn
end
section
variable {X : Cx}
/-- sorted(found), any number of members -/
def rSortedSetW (w : World) : List V → Hp → VK → Prop := fun vs H Q => ∃ (a : Addr) (S : Int → Bool) (n : Nat), vs = [V.ref a] ∧ H a = some (SetO w a S n) ∧ n ≤ 4000 ∧
  ∀ (ns : List Int) (p : Addr), ns.Pairwise (· < ·) → (∀ k : Int, k ∈ ns ↔ S k = true) → ns.length = n → H p = none → Q (.ref p) (upd H p (.lst (ns.map V.int)))
theorem cr_sortedSetW (hc : X.calm = true) : CallR X (.builtin "sorted") (rSortedSetW X.w) := by
  intro pins s σ H vs us Q I r h
  obtain ⟨a, S, n, rfl, ha, h64, q⟩ := h
  have R := setO_get I ha
  rw [Vals.ref1 r]
  refine sorted_setW R (I.ok.hd hc) (by rw [sizeLine_eq]; omega) fun s' p out c ns k g o hp hg hi hs hm hl => ?_
  have hlen : (ns.map V.int).length ≤ sizeLine := by rw [List.length_map, hl, sizeLine_eq]; omega
  have hn : H p = none := I.hok.fresh hp
  have J : Inv X pins σ (upd H p (.lst (ns.map V.int))) { s with heap := s'.heap, gens := s'.gens, drawn := s'.drawn, toks := s'.toks } :=
    I.call (ch := []) (Un.laid k hp hn) (I.hok.laid k hp ⟨hlen, out.toList, c, vals_of_ints hi, hg⟩) (by rw [g]; exact I.bare) (fun _ z => nomatch z)
  have e : s' = { s with heap := s'.heap, gens := s'.gens, drawn := s'.drawn, toks := s'.toks } := by
    cases s'
    cases s
    cases o
    rfl
  rw [e]
  exact ⟨.ref p, _, J, rfl, q ns p hs hm hl hn⟩
end
end L2
namespace Rm
open PySem PySem.Spec PyProof.Rows L2 Rg
open Enc (rel)
open Cell (cel)
open Slot (srel)
open Slots (srels)
section
variable {K : PySem.W.Frag} {d : Addr → Prop} {F0 H0 : Hp} {S : Type} [Slots S]
@[irreducible] def gUsortW (xs : List Int) : Option (List Int) := if xs.length < 4000 then some (usort xs) else none
theorem gUsortW_of {xs : List Int} (h : xs.length < 4000) : gUsortW xs = some (usort xs) := by unfold gUsortW; exact if_pos h
theorem jf_sortedSetW {w : World} {t : TE} {m : M S (List Int)} (h : JE K d F0 H0 S t m) : JF K d F0 H0 S (tCB (rSortedSetW w) (tCons (tCB (rSetOfL K w) (tCons t tNil)) tNil)) (op1 gUsortW m) := by
  intro Z s σ F H c x s' e Q q
  obtain ⟨y1, s1, e1, e⟩ := bnd_some e
  obtain ⟨e3, rfl⟩ := lft_some e
  unfold gUsortW at e3
  obtain ⟨hl, rfl⟩ := ite_some e3
  refine r_cb (r_cons (r_cb (r_cons (h _ _ _ _ _ c _ _ e1 _ fun v F1 H1 c1 q1 r1 => r_nil ?_))))
  obtain ⟨a, vs, rfl, hs, p⟩ := r1
  have e := paired_ints p
  subst e
  refine ⟨a, y1, rfl, Same.seq c1.fh hs, by omega, fun l cc hp hc => r_nil ⟨l, _, cc, rfl, upd_same, by omega, fun ns l2 n1 n2 _ hp2 => ?_⟩⟩
  have eu : ns = usort y1 := asc_unique n1 (usort_asc _) fun k => by rw [n2 k, usort_mem]; simp
  subst eu
  exact q _ _ F1 _ (c1.drop hp _) q1 hp2 (Paired.ofmap (R := rel K F1) (f := V.int) (fun _ => rfl) _)
end
/-! ### a variable of two kinds, one after the other -/
inductive Two (α β : Type) | l (x : α) | r (y : β)
def twoL {α β : Type} : Two α β → Option α | .l x => some x | .r _ => none
def twoR {α β : Type} : Two α β → Option β | .l _ => none | .r y => some y
instance {α β : Type} [Enc α] [Enc β] : Enc (Two α β) := ⟨fun K F v z => match z with | .l x => rel K F v x | .r y => rel K F v y, fun {K F F' v z} s h => match z, h with
  | .l _, h => Enc.mono s h
  | .r _, h => Enc.mono s h⟩
section
variable {K : PySem.W.Frag} {d : Addr → Prop} {F0 H0 : Hp} {S α β : Type} [Slots S] [Enc α] [Enc β]
theorem j_outL {t : TE} {m : M S (Two α β)} (h : JE K d F0 H0 S t m) : JE K d F0 H0 S t (op1 twoL m) := by
  intro Z s σ F H c x s' e Q q
  obtain ⟨y, s1, e1, e⟩ := bnd_some e
  obtain ⟨e3, rfl⟩ := lft_some e
  refine h _ _ _ _ _ c _ _ e1 _ fun v F' H' c' sf r => q v F' H' c' sf ?_
  cases y with
  | l y => cases e3; exact r
  | r y => cases e3
theorem j_outR {t : TE} {m : M S (Two α β)} (h : JE K d F0 H0 S t m) : JE K d F0 H0 S t (op1 twoR m) := by
  intro Z s σ F H c x s' e Q q
  obtain ⟨y, s1, e1, e⟩ := bnd_some e
  obtain ⟨e3, rfl⟩ := lft_some e
  refine h _ _ _ _ _ c _ _ e1 _ fun v F' H' c' sf r => q v F' H' c' sf ?_
  cases y with
  | l y => cases e3
  | r y => cases e3; exact r
theorem j_intoL {t : TE} {m : M S α} (h : JE K d F0 H0 S t m) : JE K d F0 H0 S t (op1 (fun x : α => some (Two.l x : Two α β)) m) := by
  intro Z s σ F H c x s' e Q q
  obtain ⟨y, s1, e1, e⟩ := bnd_some e
  obtain ⟨e3, rfl⟩ := lft_some e
  cases e3
  exact h _ _ _ _ _ c _ _ e1 _ fun v F' H' c' sf r => q v F' H' c' sf r
theorem j_intoR {t : TE} {m : M S β} (h : JE K d F0 H0 S t m) : JE K d F0 H0 S t (op1 (fun x : β => some (Two.r x : Two α β)) m) := by
  intro Z s σ F H c x s' e Q q
  obtain ⟨y, s1, e1, e⟩ := bnd_some e
  obtain ⟨e3, rfl⟩ := lft_some e
  cases e3
  exact h _ _ _ _ _ c _ _ e1 _ fun v F' H' c' sf r => q v F' H' c' sf r
end
end Rm
namespace Rg
open PySem PySem.Spec PyProof.Rows L2
section
variable {X : Cx}
/-- type(x) == str, of a str -/
theorem meta_s {a : String} (h : a = "str") (s' : Shared) : s'.TypeIs (.type a) "type" := by
  subst h
  exact PySem.TypeEq.meta_str s'
def rTyStr (b : Bool) : R2 := fun x y H Q => ∃ a : String, a = "str" ∧ x = .ty a ∧ y = .ty a ∧ Q (.bl b) H
theorem op_eqTyS : OpR X (compareOp .Eq) (rTyStr true) := by
  intro pins s σ H x y v u Q I rx ry h
  obtain ⟨a, ha, rfl, rfl, q⟩ := h
  cases (show v = Value.type a from rx)
  cases (show u = Value.type a from ry)
  exact PySem.TypeEq.eq_type_same (meta_s ha) ⟨.bl true, H, I, rfl, q⟩
theorem op_neTyS (hu : X.A.units + 64 < cLine) : OpR X (compareOp .NotEq) (rTyStr false) := by
  intro pins s σ H x y v u Q I rx ry h
  obtain ⟨a, ha, rfl, rfl, q⟩ := h
  cases (show v = Value.type a from rx)
  cases (show u = Value.type a from ry)
  exact ne_type_same (meta_s ha) (by omega) ⟨.bl false, H, I, rfl, q⟩
/-- a written dict with text keys, asked at a key -/
def rKd (K : PySem.W.Frag) (d : Addr) : R2 := fun x y H Q => ∃ (z : Str) (u0 : Value) (v0 : V), x = .ref d ∧ y = .str z ∧ PySem.W.nsIn K d z = some (some u0) ∧ RelV v0 u0 ∧ Q v0 H
theorem ix_kd {d : Addr} (D : ∃ es n, KDict X.K X.w d es n) : IxR X (rKd X.K d) := by
  intro value slice pins s σ H x y v u Q I rx ry h hs
  obtain ⟨es, n, D⟩ := D
  have h2 := h
  obtain ⟨z, u0, v0, rfl, rfl, e, r, q⟩ := h
  cases rx
  exact tail_any (kd_type D I) slot_dict_getitem.lookup (op_item_kd D pins s σ H (.ref d) (.str z) (.ref d) u Q I rfl ry h2) hs
end
end Rg
namespace Rm
open PySem PySem.Spec PyProof.Rows L2 Rg
open Enc (rel)
open Cell (cel)
open Slot (srel)
open Slots (srels)
section
variable {K : PySem.W.Frag} {d : Addr → Prop} {F0 H0 : Hp} {S : Type} [Slots S]
theorem j_tyStr {b : Bool} {t : TE} {m : M S Str} (h : JE K d F0 H0 S t m) : JE K d F0 H0 S (tOp (rTyStr b) (tCB (rTyp K) (tCons t tNil)) (tC (.ty "str"))) (op1 (fun _ => some b) m) := by
  intro Z s σ F H c x s' e Q q
  obtain ⟨y1, s1, e1, e⟩ := bnd_some e
  obtain ⟨e3, rfl⟩ := lft_some e
  cases e3
  refine r_op (r_cb (r_cons (h _ _ _ _ _ c _ _ e1 _ fun v F1 H1 c1 q1 r1 => r_nil ?_)))
  cases r1
  exact ⟨_, "str", rfl, .str _, "str", rfl, rfl, rfl, q _ _ _ c1 q1 rfl⟩
/-- x in NAMES, a constant tuple of texts -/
theorem j_inC {a : Addr} {cs : List Str} (hl : ∀ H, SqT K H a (cs.map V.str)) (hf : (cs.map V.str).all flatV = true) {neg : Bool} {t : TE} {m : M S Str} (h : JE K d F0 H0 S t m) :
    JE K d F0 H0 S (tOp (rIn K neg) t (tC (.ref a))) (op1 (fun x : Str => some (if neg then !inV (.str x) (cs.map V.str) else inV (.str x) (cs.map V.str))) m) := by
  intro Z s σ F H c x s' e Q q
  obtain ⟨y1, s1, e1, e⟩ := bnd_some e
  obtain ⟨e3, rfl⟩ := lft_some e
  cases e3
  refine r_op (h _ _ _ _ _ c _ _ e1 _ fun v F1 H1 c1 q1 r1 => ?_)
  cases r1
  exact ⟨a, _, rfl, .inr (hl H1), rfl, hf, q _ _ _ c1 q1 rfl⟩
def kdGet (cs : List (Str × Int)) (x : Str) : Option Int := (cs.find? fun p => decide (p.1 = x)).map Prod.snd
/-- TABLE[x], a constant dict by texts -/
theorem j_kd {a : Addr} {cs : List (Str × Int)} (hz : ∀ p ∈ cs, ∃ t, PySem.W.nsIn K a p.1 = some (some (.int p.2 t))) {t : TE} {m : M S Str} (h : JE K d F0 H0 S t m) :
    JE K d F0 H0 S (tOp (rKd K a) (tC (.ref a)) t) (op1 (fun x : Str => kdGet cs x) m) := by
  intro Z s σ F H c x s' e Q q
  obtain ⟨y1, s1, e1, e⟩ := bnd_some e
  obtain ⟨e3, rfl⟩ := lft_some e
  have e3 : (cs.find? fun p => decide (p.1 = y1)).map Prod.snd = some x := e3
  cases f : cs.find? fun p => decide (p.1 = y1) with
  | none => rw [f] at e3; cases e3
  | some p =>
    rw [f] at e3
    cases e3
    have pm := List.mem_of_find?_eq_some f
    have pe : p.1 = y1 := by have := List.find?_some f; exact of_decide_eq_true this
    obtain ⟨tk, z⟩ := hz p pm
    rw [pe] at z
    refine r_op (h _ _ _ _ _ c _ _ e1 _ fun v F1 H1 c1 q1 r1 => ?_)
    cases r1
    exact ⟨y1, _, .int p.2, rfl, rfl, z, ⟨_, rfl⟩, q _ _ _ c1 q1 rfl⟩
end
end Rm
namespace Rm
open PySem PySem.Spec PyProof.Rows L2 Rg
open Enc (rel)
def oqM {S α γ δ : Type} [Slots S] [Enc α] {k : Nat} (p : Pos S (Own (List α)) k) (m : M S γ) (f : List α → γ → Option δ) : M S δ := bnd m fun i => bnd (rdo p) fun x => lft (f x i)
section
variable {K : PySem.W.Frag} {d : Addr → Prop} {F0 H0 : Hp} {S : Type} [Slots S]
theorem j_inOQ {k : Nat} (p : Pos S (Own (List Int)) k) {t : TE} {m : M S Int} (h : JE K d F0 H0 S t m) : JE K d F0 H0 S (tOp (rIn K false) t (tVar k)) (oqM p m fun xs x => some (inL xs x)) := j_inO (neg := false) p h
theorem j_ninOQ {k : Nat} (p : Pos S (Own (List Int)) k) {t : TE} {m : M S Int} (h : JE K d F0 H0 S t m) : JE K d F0 H0 S (tOp (rIn K true) t (tVar k)) (oqM p m fun xs x => some (!inL xs x)) := j_inO (neg := true) p h
end
section
variable {S α γ : Type} [Slots S] {s : S} {γ' δ' : Type} {Q : Option γ' → Option δ' → Prop} [BR Q]
theorem e_oqM {δ : Type} [Enc α] {k : Nat} {p : Pos S (Own (List α)) k} {m : M S γ} {f : List α → γ → Option δ} {s : S} : oqM p m f s = (m s).bind fun i => (rdo p i.2).bind fun x => (f x.1 i.1).bind fun z => some (z, x.2) := nrfl rfl
theorem v_oqM {δ : Type} [Enc α] {k : Nat} {p : Pos S (Own (List α)) k} {m : M S γ} {f : List α → γ → Option δ} {x : List α} {y : γ} {z : δ} (h : p.get s = .mine x) (e : m s = some (y, s)) (e2 : f x y = some z) : oqM p m f s = some (z, s) := by rw [e_oqM, e]; simp only [Option.bind_some, v_rdo h, e2]
theorem o_oqM {δ : Type} [Enc α] {k : Nat} {p : Pos S (Own (List α)) k} {m : M S γ} {f : List α → γ → Option δ} {x : List α} {y : γ} {t : Option δ} (h : p.get s = .mine x) (e : m s = some (y, s)) (e2 : f x y = t) : oqM p m f s = t.bind fun z => some (z, s) := by rw [e_oqM, e]; simp only [Option.bind_some, v_rdo h, e2]
theorem k_oqM {δ : Type} [Enc α] {k : Nat} {p : Pos S (Own (List α)) k} {m : M S γ} {f : List α → γ → Option δ} {k' : δ × S → Option γ'} {o : Option δ'}
    (K : Q ((m s).bind fun q => (rdo p q.2).bind fun r => (f r.1 q.1).bind fun z => k' (z, r.2)) o) : Q ((oqM p m f s).bind k') o := by
  rw [e_oqM]; simp only [Option.bind_assoc, Option.bind_some]; exact K
end
end Rm
namespace Rm
open PySem PySem.Spec PyProof.Rows L2 Rg
open Enc (rel)
open Cell (cel)
section
variable {K : PySem.W.Frag} {d : Addr → Prop} {F0 H0 : Hp} {S : Type} [Slots S] {ρ : Type} {RT : S → Hp → VK → ρ → Prop} [RTm RT]
theorem js_asg3OOD {α β γ : Type} [Enc α] [Enc β] [Enc γ] {i j k : Nat} (p : Pos S (Own (List α)) i) (p' : Pos S (Own (List β)) j) (p'' : Pos S (Dt γ) k) {ta tb tc : TE} {m : M S (List α)} {n : M S (List β)} {l : M S γ} (ha : JF K d F0 H0 S ta m) (hb : JF K d F0 H0 S tb n) (hc : JE K d F0 H0 S tc l) :
    JS K d F0 H0 S RT (tAsg (tTup (tCons ta (tCons tb (tCons tc tNil)))) (gTup K 3 (gCons (gName i) (gCons (gName j) (gCons (gName k) gNil))))) (par3OM m n l (pOwn p) (pOwn p') (pName p'')) := by
  intro s σ F H c f e D q
  obtain ⟨x, s1, e1, ea⟩ := bindS_some e
  obtain ⟨y, s2, e2, eb⟩ := bindS_some ea
  obtain ⟨z, s3, e3, ec⟩ := bindS_some eb
  cases ec
  refine r_asg (r_tup (r_cons (ha _ _ _ _ _ c _ _ e1 _ fun vs a F1 H1 c1 q1 hp1 r1 => r_cons (hb _ _ _ _ _ (c1.junk hp1 (.lst vs)) _ _ e2 _ fun ws b F2 H2 c2 q2 hp2 r2 => r_cons (hc _ _ _ _ _ (c2.junk hp2 (.lst ws)) _ _ e3 _ fun w F3 H3 c3 q3 r3 => r_nil ⟨by show 3 ≤ sizeLine; decide, fun t ht => ?_⟩)))))
  have ne : b ≠ a := fun z => by subst z; have := (c2.hz upd_same).1; rw [hp2] at this; cases this
  have zc : upd (upd Z0 a (.lst vs)) b (.lst ws) = upd (upd Z0 b (.lst ws)) a (.lst vs) := by
    funext x
    by_cases h1 : x = b
    · subst h1; rw [upd_same, upd_ne ne, upd_same]
    · rw [upd_ne h1]
      by_cases h2 : x = a
      · subst h2; rw [upd_same, upd_same]
      · rw [upd_ne h2, upd_ne h2, upd_ne h1]
  rw [zc] at c3
  have c3 := c3.drop ht (.tup [.ref a, .ref b, w])
  have c4 := c3.ownHeld (Z := upd Z0 b (.lst ws)) (by rw [upd_ne (fun z => ne z.symm)]) p ⟨vs, rfl, Paired.imp (fun _ _ => Enc.mono (q2.trans q3)) r1⟩
  have c5 := c4.ownHeld (Z := Z0) rfl p' ⟨ws, rfl, Paired.imp (fun _ _ => Enc.mono q3) r2⟩
  refine r_gtup (.inl (.inl upd_same)) rfl (r_gcons (r_name (r_gcons (r_name (r_gcons (r_name (r_gnil ?_)))))))
  exact q _ F3 _ (c5.set p'' r3) (q1.trans (q2.trans q3))
end
end Rm
namespace Rm
open PySem PySem.Spec PyProof.Rows L2 Rg
open Enc (rel)
open Cell (cel)
open Slot (srel)
open Slots (srels)
/-! ### [.. for x in xs if ..], xs a variable's own list that may change later -/
def lcLO {S α β : Type} [Slots S] [Slot (Own (List α))] [DecidableEq α] {k : Nat} (p : Pos S (Own (List α)) k) (zs : List α) (wp : S → S) (put : α → S → Option S) (mt : M S Bool) (me : M S β) : List α → S → Option (List β × S)
  | [], s => if peekO p (wp s) = some zs then some ([], wp s) else none
  | x :: xs, s => if peekO p (wp s) = some zs then (put x (wp s)).bind fun s1 => (mt s1).bind fun p1 => if p1.1 = true then (me p1.2).bind fun q => (lcLO p zs wp put mt me xs q.2).map fun r => (q.1 :: r.1, r.2) else lcLO p zs wp put mt me xs p1.2 else none
def lcMO {S α β : Type} [Slots S] [Slot (Own (List α))] [DecidableEq α] {k : Nat} (p : Pos S (Own (List α)) k) (wp : S → S) (put : α → S → Option S) (mt : M S Bool) (me : M S β) : M S (List β) := fun s => (peekO p s).bind fun zs => if zs.length ≤ 100000 then lcLO p zs wp put mt me zs s else none
section
variable {K : PySem.W.Frag} {d : Addr → Prop} {F0 H0 : Hp} {S : Type} [Slots S]
theorem jf_lcO {α β : Type} [Enc α] [Enc β] [DecidableEq α] {is vs : List Nat} {k : Nat} (p : Pos S (Own (List α)) k) {g : TG} {tt : TT} {te : TE} {put : α → S → Option S} {mt : M S Bool} {me : M S β} (w : Wp S vs) (hk : k ∉ vs) (hg : JG K d F0 H0 S is g put) (hv : ∀ i ∈ is, i ∈ vs)
    (ht : JT K d F0 H0 S tt mt) (he : JE K d F0 H0 S te me) : JF K d F0 H0 S (tLc (iList K (tVar k)) g tt te vs) (lcMO p w.wp put mt me) := by
  intro Z s σ F H c ys s' e Q q
  obtain ⟨xs, e0, e⟩ : ∃ xs, peekO p s = some xs ∧ (if xs.length ≤ 100000 then lcLO p xs w.wp put mt me xs s else none) = some (ys, s') := by
    unfold lcMO at e
    cases e0 : peekO p s with
    | none => rw [e0] at e; cases e
    | some xs => rw [e0] at e; exact ⟨xs, rfl, e⟩
  obtain ⟨a0, vs0, h1, ha0, r0⟩ := c.peek p (peekO_mine e0)
  by_cases hl : xs.length ≤ 100000
  · rw [if_pos hl] at e
    show iList K (tVar k) σ H _
    refine r_ilist ⟨.ref a0, h1, a0, rfl, ⟨vs0, sqe ha0⟩, fun D hD => ?_⟩
    have c1 := c
    have ZD : Z D = none := by
      cases z : Z D with
      | none => rfl
      | some o => have := (c1.hz z).1; rw [hD] at this; cases this
    obtain ⟨F0', hF0⟩ : ∃ F0', F0' = F := ⟨F, rfl⟩
    have sf1 : Same F0' F := by rw [hF0]; exact Same.refl F
    let W : Nat → Nat → Hp → Prop := fun i m h => i + m = xs.length ∧ ∃ s F acc zs pre, Cx K d F0 H0 (upd Z D (.lst acc)) (w.wp s) (wipe σ vs) F h ∧ Same F0' F ∧ acc.length ≤ i ∧ Paired (rel K F) acc pre ∧ lcLO p xs w.wp put mt me (xs.drop i) s = some (zs, s') ∧ pre ++ zs = ys
    refine ⟨W, ⟨xs.length, by omega, s, F, [], ys, [], (c1.junk hD _).wipe w, sf1, Nat.zero_le _, .nil, e, rfl⟩, fun i m h hw => ?_⟩
    obtain ⟨em, s2, F2, acc, zs, pre, c2, sf2, la, pa, e2, ey⟩ := hw
    have key : peekO p (w.wp s2) = some xs := by
      cases hd : xs.drop i with
      | nil =>
        rw [hd] at e2
        unfold lcLO at e2
        exact (ite_some e2).1
      | cons x xs' =>
        rw [hd] at e2
        unfold lcLO at e2
        by_cases h : peekO p (w.wp s2) = some xs
        · exact h
        · rw [if_neg h] at e2; cases e2
    obtain ⟨a', vs', h1', ha', r'⟩ := c2.peek p (peekO_mine key)
    rw [wipe_out hk, h1] at h1'
    cases h1'
    have sq : SqL K h a0 vs' := sqe ha'
    have lv : vs'.length = xs.length := Paired.length r'
    cases m with
    | zero =>
      have ei : i = xs.length := by omega
      subst ei
      rw [List.drop_length] at e2
      unfold lcLO at e2
      rw [if_pos key] at e2
      cases e2
      refine .inl ⟨⟨vs', sq, by omega⟩, ?_⟩
      rw [List.append_nil] at ey
      subst ey
      obtain ⟨H3, h3, rfl, c3⟩ := (c2.unwipe w).back ZD
      exact q acc D F2 H3 c3 (by rw [← hF0]; exact sf2) h3 pa
    | succ m =>
      have hi : i < xs.length := by omega
      have gx : xs[i]? = some xs[i] := List.getElem?_eq_getElem hi
      obtain ⟨w', hw1, hw2⟩ := Paired.getR r' gx
      rw [List.drop_eq_getElem_cons hi] at e2
      unfold lcLO at e2
      rw [if_pos key] at e2
      refine .inr ⟨⟨vs', w', sq, hw1⟩, W (i + 1) m, fun H' w => ⟨m, Nat.lt_succ_self m, w⟩, fun x H3 y => ?_⟩
      cases e3 : put xs[i] (w.wp s2) with
      | none => rw [e3] at e2; cases e2
      | some s3 =>
        rw [e3] at e2
        cases e4 : mt s3 with
        | none => rw [show (some s3).bind (fun s1 => (mt s1).bind _) = (mt s3).bind _ from rfl, e4] at e2; cases e2
        | some p4 =>
          rw [show (some s3).bind (fun s1 => (mt s1).bind _) = (mt s3).bind _ from rfl, e4] at e2
          have e2 : (if p4.1 = true then (me p4.2).bind fun q => (lcLO p xs w.wp put mt me (xs.drop (i + 1)) q.2).map fun r => (q.1 :: r.1, r.2) else lcLO p xs w.wp put mt me (xs.drop (i + 1)) p4.2) = some (zs, s') := e2
          have fin : ∀ F3, Cx K d F0 H0 (upd Z D (.lst acc)) (w.wp s2) (wipe σ vs) F3 H3 → Same F2 F3 → rel K F3 x xs[i] → g x (wipe σ vs) H3 fun σ2 H2 => wipe σ2 vs = wipe σ vs ∧ tt σ2 H2 fun b H3 =>
              if b = true then te σ2 H3 fun y H4 => ∃ acc, H4 D = some (.lst acc) ∧ acc.length < sizeLine ∧ W (i + 1) m (upd H4 D (.lst (acc ++ [y]))) else W (i + 1) m H3 := by
            intro F3 c3 sf3 r3
            refine hg _ _ _ _ _ c3 _ _ _ r3 e3 _ fun σ4 c4 wi => ?_
            have wi := wi vs hv
            have wi2 : wipe σ4 vs = wipe σ vs := by
              rw [wi]
              have go : ∀ us : List Nat, wipe (wipe σ us) us = wipe σ us := by
                intro us
                have key : ∀ (ws : List Nat) (τ : L2.St), (∀ u ∈ ws, ∀ z, τ[u]? = some z → z = none) → wipe τ ws = τ := by
                  intro ws
                  induction ws with
                  | nil => intro τ _; rfl
                  | cons u ws ih =>
                    intro τ hτ
                    unfold wipe
                    rw [ih τ fun v hv => hτ v (List.mem_cons_of_mem _ hv)]
                    by_cases hu : u < τ.length
                    · have z := hτ u (List.mem_cons_self ..) _ (List.getElem?_eq_getElem hu)
                      exact set_same (by rw [List.getElem?_eq_getElem hu, z])
                    · exact List.set_eq_of_length_le (by omega)
                refine key us _ fun u hu z hz => ?_
                cases z with
                | none => rfl
                | some z => exact absurd hu (wipe_some hz).2
              exact go vs
            refine ⟨wi2, ht _ _ _ _ _ c4 p4.1 p4.2 e4 _ fun b F5 H5 c5 sf5 r5 => ?_⟩
            subst r5
            have s15 := sf2.trans (sf3.trans sf5)
            cases hb : p4.1 with
            | false =>
              rw [hb] at e2
              show W (i + 1) m H5
              refine ⟨by omega, p4.2, F5, acc, zs, pre, ?_, s15, by omega, Paired.imp (fun _ _ => Enc.mono (sf3.trans sf5)) pa, e2, ey⟩
              have c6 := c5.wipe w
              rw [wi2] at c6
              exact c6
            | true =>
              rw [hb] at e2
              cases e6 : me p4.2 with
              | none => rw [if_pos rfl, e6] at e2; cases e2
              | some q6 =>
                rw [if_pos rfl, e6] at e2
                have e2 : (lcLO p xs w.wp put mt me (xs.drop (i + 1)) q6.2).map (fun r => (q6.1 :: r.1, r.2)) = some (zs, s') := e2
                cases e7 : lcLO p xs w.wp put mt me (xs.drop (i + 1)) q6.2 with
                | none => rw [e7] at e2; cases e2
                | some r7 =>
                  rw [e7] at e2
                  cases e2
                  show te σ4 H5 _
                  refine he _ _ _ _ _ c5 q6.1 q6.2 e6 _ fun y F6 H6 c6 sf6 r6 => ?_
                  have hz := c6.hz (upd_same (H := Z) (a := D))
                  refine ⟨acc, hz.1, Nat.lt_of_le_of_lt la (Nat.lt_of_lt_of_le (show i < 100001 by omega) (by decide)), by omega, q6.2, F6, acc ++ [y], r7.1, pre ++ [q6.1], ?_, s15.trans sf6, by rw [List.length_append, List.length_singleton]; omega, Paired.append (Paired.imp (fun _ _ => Enc.mono (sf3.trans (sf5.trans sf6))) pa) (.cons r6 .nil), e7, by rw [List.append_assoc]; exact ey⟩
                  have c7 := (c6.held (upd_same (H := Z) (a := D)) (.lst (acc ++ [y]))).wipe w
                  rw [wi2, upd_upd] at c7
                  exact c7
          obtain ⟨rfl, y⟩ := y
          have ey2 := y _ sq
          rw [hw1] at ey2
          cases ey2
          exact fin _ c2 (Same.refl _) hw2
  · rw [if_neg hl] at e
    cases e
end
section
variable {S α β γ : Type} [Slots S] {s s' s0 : S} {γ' δ' : Type} {Q : Option γ' → Option δ' → Prop} [BR Q]
theorem lcO_f [Enc α] [DecidableEq α] {k : Nat} {p : Pos S (Own (List α)) k} {zs : List α} (hz : p.get s0 = .mine zs) {wp : S → S} {put : α → S → Option S} {mt : M S Bool} {me : M S β} {t : α → Option Bool} {g : α → Option β} {s1 : α → S} (hp : ∀ x, put x s0 = some (s1 x)) (ht : ∀ x, mt (s1 x) = (t x).bind fun b => some (b, s1 x)) (hg : ∀ x, me (s1 x) = (g x).bind fun y => some (y, s1 x))
    (hw : ∀ x, wp (s1 x) = s0) : ∀ (xs : List α) (s : S), wp s = s0 → lcLO p zs wp put mt me xs s = (fmapO t g xs).bind fun ys => some (ys, s0)
  | [], s, h => by
    have pk : peekO p (wp s) = some zs := by rw [h]; unfold peekO; rw [hz]
    unfold lcLO fmapO
    rw [if_pos pk, h]
    rfl
  | x :: xs, s, h => by
    have pk : peekO p (wp s) = some zs := by rw [h]; unfold peekO; rw [hz]
    have ih := lcO_f hz hp ht hg hw xs
    unfold lcLO fmapO
    rw [if_pos pk, h, hp]
    simp only [Option.bind_some, ht]
    cases t x with
    | none => rfl
    | some b => cases b with
      | false => simp only [Option.bind_some, Bool.false_eq_true, if_false]; exact ih (s1 x) (hw x)
      | true =>
        simp only [Option.bind_some, if_true, hg]
        cases g x with
        | none => rfl
        | some y =>
          simp only [Option.bind_some, ih (s1 x) (hw x)]
          cases fmapO t g xs <;> rfl
theorem k_lcfO [Enc α] [DecidableEq α] {kk : Nat} {p : Pos S (Own (List α)) kk} {zs : List α} {wp : S → S} {put : α → S → Option S} {mt : M S Bool} {me : M S β} {t : α → Option Bool} {g : α → Option β} {s1 : α → S} {xs : List α} {k : List β × S → Option γ'} {o : List β → Option δ'} (hz : p.get s0 = .mine zs) (hw0 : wp s = s0) (hp : ∀ x, put x s0 = some (s1 x))
    (ht : ∀ x, mt (s1 x) = (t x).bind fun b => some (b, s1 x)) (hg : ∀ x, me (s1 x) = (g x).bind fun y => some (y, s1 x)) (hw : ∀ x, wp (s1 x) = s0) (K : ∀ ys, Q (k (ys, s0)) (o ys)) : Q ((lcLO p zs wp put mt me xs s).bind k) ((fmapO t g xs).bnd o) := by
  rw [lcO_f hz hp ht hg hw xs s hw0, Option.bind_assoc]
  exact BR.bnd _ fun ys => K ys
theorem k_lcaO [Enc α] [DecidableEq α] {kk : Nat} {p : Pos S (Own (List α)) kk} {zs : List α} {wp : S → S} {put : α → S → Option S} {me : M S β} {g : α → Option β} {s1 : α → S} {xs : List α} {k : List β × S → Option γ'} {o : List β → Option δ'} (hz : p.get s0 = .mine zs) (hw0 : wp s = s0) (hp : ∀ x, put x s0 = some (s1 x))
    (hg : ∀ x, me (s1 x) = (g x).bind fun y => some (y, s1 x)) (hw : ∀ x, wp (s1 x) = s0) (K : ∀ ys, Q (k (ys, s0)) (o ys)) : Q ((lcLO p zs wp put (pur true) me xs s).bind k) ((mapO g xs).bnd o) := by
  rw [← fmapO_yes]
  exact k_lcfO hz hw0 hp (fun _ => rfl) hg hw K
theorem k_lcMO [Enc α] [DecidableEq α] {kk : Nat} {p : Pos S (Own (List α)) kk} {zs : List α} {wp : S → S} {put : α → S → Option S} {mt : M S Bool} {me : M S β} {k : List β × S → Option γ'} {o : Option δ'} (h : p.get s = .mine zs) (K : Q ((short zs).bind fun _ => (lcLO p zs wp put mt me zs s).bind k) o) : Q ((lcMO p wp put mt me s).bind k) o := by
  have pk : peekO p s = some zs := by unfold peekO; rw [h]
  have e : (lcMO p wp put mt me s).bind k = (short zs).bind fun _ => (lcLO p zs wp put mt me zs s).bind k := by
    unfold lcMO short
    rw [pk]
    by_cases c : zs.length ≤ 100000
    · simp [c]
    · simp [c]
  rw [e]
  exact K
end
end Rm
namespace Rm
open PySem PySem.Spec PyProof.Rows L2 Rg
open Enc (rel)
open Cell (cel)
section
variable {K : PySem.W.Frag} {d : Addr → Prop} {F0 H0 : Hp} {S : Type} [Slots S]
/-- .. in (a, b, c, d) -/
theorem ji_tupL {α : Type} [Enc α] {t : TA} {m : M S (List α)} (h : JL K d F0 H0 S t m) : JI K d F0 H0 S (iTup K (tTup t)) (op1 shortL m) := by
  intro Z s σ F H c xs s' e R q
  obtain ⟨y1, s1, e1, e⟩ := bnd_some e
  obtain ⟨e3, rfl⟩ := lft_some e
  obtain ⟨k, rfl⟩ := ite_some e3
  show tTup t σ H _
  refine r_tup (h _ _ _ _ _ c _ _ e1 _ fun vs F1 H1 c1 q1 r1 => ⟨by rw [Paired.length r1]; exact Nat.le_trans k (by decide), fun t ht => ?_⟩)
  have n := c1.new ht (.tup vs)
  have hs : SqT K (upd F1 t (.tup vs)) t vs := .inl (.inl upd_same)
  exact ⟨t, rfl, ⟨vs, SqT.same hs n.1.fh⟩, q _ _ _ n.1 (q1.trans n.2) (it_tup hs (Paired.imp (fun _ _ => Enc.mono n.2) r1))⟩
end
end Rm
namespace Rg
open PySem PySem.Spec PyProof.Rows L2
theorem pt_tru {X : L2.Cx} {a : Expr} {ta : TE} (ha : PE X a ta) (he : ∀ whole, isTrue a X.env whole = (do let v ← whole; standAt a.pos; holding [v] (truthy v)) := by intro _; rfl) : PT X a (tTru X.K ta) := pt_truth ha he
end Rg
namespace Rm
open PySem PySem.Spec PyProof.Rows L2 Rg
open Enc (rel)
/-! ### << and & -/
@[irreducible] def gShl (x y : Int) : Option Int := if 0 ≤ y ∧ y ≤ 1000 ∧ x.natAbs < 2 ^ 64 then some (x * 2 ^ y.toNat) else none
section
variable {K : PySem.W.Frag} {d : Addr → Prop} {F0 H0 : Hp} {S : Type} [Slots S]
theorem rj_shl : RJ2 K d F0 H0 S (rI CPow fun i j => .int (i * 2 ^ j.toNat)) gShl := rj_I fun F i j z h => by
  unfold gShl at h
  obtain ⟨k, rfl⟩ := ite_some h
  exact ⟨⟨k.1, by omega, k.2.2⟩, rfl⟩
theorem rj_and : RJ2 K d F0 H0 S (rI0 fun i j => .int (Builtin.bitAnd i j)) (fun x y : Int => some (Builtin.bitAnd x y)) := rj_I0 fun _ _ _ => rfl
theorem jt_I {t : TE} {m : M S Int} (h : JE K d F0 H0 S t m) : JT K d F0 H0 S (tTru K t) (op1 (fun x : Int => some (!decide (x = 0))) m) := by
  intro Z s σ F H c x s' e Q q
  obtain ⟨y1, s1, e1, e⟩ := bnd_some e
  obtain ⟨e3, rfl⟩ := lft_some e
  cases e3
  refine h _ _ _ _ _ c _ _ e1 _ fun v F1 H1 c1 q1 r1 => ?_
  cases r1
  exact ⟨!decide (y1 = 0), (show (!decide (y1 = 0)) = (y1 != 0) by by_cases z : y1 = 0 <;> simp [z]), q _ _ _ c1 q1 rfl⟩
end
end Rm
namespace CW
/-! ### closed ways on a ring -/
abbrev Rc := Int × Int
def en (m : Int) (r : Rc) : Int := (r.1 + r.2) % m
def wt (m : Int) (r s : Rc) : Int := (s.1 - en m r) % m
/-- weights along a way -/
def ws (g : Rc → Rc → Int) : Rc → List Rc → Int
  | _, [] => 0
  | p, x :: xs => g p x + ws g x xs
def lst : Rc → List Rc → Rc
  | p, [] => p
  | _, x :: xs => lst x xs
def cyc (g : Rc → Rc → Int) : List Rc → Int
  | [] => 0
  | x :: xs => ws g x xs + g (lst x xs) x
theorem lst_app : ∀ (xs : List Rc) (p y : Rc) (ys : List Rc), lst p (xs ++ y :: ys) = lst y ys
  | [], _, _, _ => rfl
  | x :: xs, _, y, ys => lst_app xs x y ys
theorem ws_app (g : Rc → Rc → Int) : ∀ (xs : List Rc) (p y : Rc) (ys : List Rc), ws g p (xs ++ y :: ys) = ws g p xs + g (lst p xs) y + ws g y ys
  | [], p, y, ys => by simp [ws, lst]
  | x :: xs, p, y, ys => by
    have := ws_app g xs x y ys
    simp only [List.cons_append, ws, lst] at this ⊢
    omega
theorem cyc_app (g : Rc → Rc → Int) (a : Rc) (as : List Rc) (b : Rc) (bs : List Rc) : cyc g ((a :: as) ++ (b :: bs)) = ws g a as + g (lst a as) b + ws g b bs + g (lst b bs) a := by
  show ws g a (as ++ b :: bs) + g (lst a (as ++ b :: bs)) a = _
  rw [ws_app, lst_app]
theorem cyc_rot (g : Rc → Rc → Int) : ∀ (A B : List Rc), cyc g (A ++ B) = cyc g (B ++ A)
  | [], B => by simp
  | A, [] => by simp
  | a :: as, b :: bs => by rw [cyc_app, cyc_app]; omega
theorem ws_nn {g : Rc → Rc → Int} (h : ∀ r s, 0 ≤ g r s) : ∀ (xs : List Rc) (p : Rc), 0 ≤ ws g p xs
  | [], _ => Int.le_refl _
  | x :: xs, p => by have := ws_nn h xs x; have := h p x; simp only [ws]; omega
theorem cyc_nn {g : Rc → Rc → Int} (h : ∀ r s, 0 ≤ g r s) : ∀ (xs : List Rc), 0 ≤ cyc g xs
  | [] => Int.le_refl _
  | x :: xs => by have := ws_nn h xs x; have := h (lst x xs) x; simp only [cyc]; omega
/-- a place along a way with a weight -/
theorem ws_pick {g : Rc → Rc → Int} : ∀ (xs : List Rc) (p : Rc), 0 < ws g p xs → ∃ as b bs, xs = as ++ b :: bs ∧ 0 < g (lst p as) b
  | [], _, h => absurd h (Int.lt_irrefl _)
  | x :: xs, p, h => by
    by_cases h1 : 0 < g p x
    · exact ⟨[], x, xs, rfl, h1⟩
    · have h2 : 0 < ws g x xs := by simp only [ws] at h; omega
      obtain ⟨as, b, bs, e, h3⟩ := ws_pick xs x h2
      exact ⟨x :: as, b, bs, by rw [e]; rfl, h3⟩
/-- .. turned so that it stands at the end -/
theorem cyc_pick {g : Rc → Rc → Int} (c : List Rc) (h : 0 < cyc g c) : ∃ y ys, (y :: ys).Perm c ∧ (∀ g', cyc g' (y :: ys) = cyc g' c) ∧ 0 < g (lst y ys) y := by
  cases c with
  | nil => exact absurd h (Int.lt_irrefl _)
  | cons x xs =>
    by_cases h1 : 0 < g (lst x xs) x
    · exact ⟨x, xs, List.Perm.refl _, fun _ => rfl, h1⟩
    · have h2 : 0 < ws g x xs := by simp only [cyc] at h; omega
      obtain ⟨as, b, bs, e, h3⟩ := ws_pick xs x h2
      refine ⟨b, bs ++ (x :: as), ?_, fun g' => ?_, ?_⟩
      · rw [e]
        exact (List.perm_append_comm (l₁ := b :: bs) (l₂ := x :: as)).trans (List.Perm.refl _)
      · rw [e]
        exact cyc_rot g' (b :: bs) (x :: as)
      · rw [lst_app]
        exact h3
/-- the place ahead of a given item -/
theorem cyc_at (c : List Rc) (r : Rc) (h : r ∈ c) : ∃ ys, (r :: ys).Perm c ∧ (∀ g', cyc g' (r :: ys) = cyc g' c) := by
  obtain ⟨as, bs, e⟩ := List.append_of_mem h
  refine ⟨bs ++ as, ?_, fun g' => ?_⟩
  · rw [e]
    exact (List.perm_append_comm (l₁ := r :: bs) (l₂ := as))
  · rw [e]
    exact cyc_rot g' (r :: bs) as
/-- the place behind a given item -/
theorem cyc_behind (c : List Rc) (r : Rc) (h : r ∈ c) : ∃ y ys, (y :: ys).Perm c ∧ (∀ g', cyc g' (y :: ys) = cyc g' c) ∧ lst y ys = r := by
  obtain ⟨as, bs, e⟩ := List.append_of_mem h
  have h1 : ∀ (bs : List Rc), ∃ y ys, bs ++ as ++ [r] = y :: ys ∧ lst y ys = r := by
    intro bs
    cases q : bs ++ as with
    | nil => exact ⟨r, [], rfl, rfl⟩
    | cons y ys => exact ⟨y, ys ++ [r], rfl, lst_app ys y r []⟩
  obtain ⟨y, ys, e2, e3⟩ := h1 bs
  have e4 : c = (as ++ [r]) ++ bs := by rw [e]; simp
  refine ⟨y, ys, ?_, fun g' => ?_, e3⟩
  · rw [← e2, e4, List.append_assoc]
    exact List.perm_append_comm
  · rw [← e2, e4, List.append_assoc]
    exact cyc_rot g' bs (as ++ [r])
/-! ### marks and arcs -/
def ph (m v x : Int) : Int := (x - v - 1) % m
/-- how often a record lies over an arc -/
def ov (m v : Int) (r : Rc) : Int := (ph m v r.1 + r.2) / m
/-- how often a wait does -/
def cr (m v : Int) (r s : Rc) : Int := (ph m v (en m r) + wt m r s) / m
theorem emod_of {m a b : Int} (h : m ∣ a - b) : a % m = b % m := by
  obtain ⟨k, hk⟩ := h
  have : a = b + m * k := by omega
  rw [this, Int.add_mul_emod_self_left]
theorem dvd_emod (m a : Int) : m ∣ a % m - a := ⟨-(a / m), by have := Int.mul_ediv_add_emod a m; rw [Int.mul_neg]; omega⟩
theorem dvd_add {m a b : Int} (h : m ∣ a) (h2 : m ∣ b) : m ∣ a + b := Int.dvd_add h h2
theorem dvd_cast {m a b : Int} (h : m ∣ a) (e : a = b) : m ∣ b := e ▸ h
/-- a number below m with the same rest -/
theorem emod_le {m a b : Int} (hm : 0 < m) (ha : 0 ≤ a) (h : m ∣ b - a) : b % m ≤ a := by
  rw [emod_of h]
  have := Int.mul_ediv_add_emod a m
  have : 0 ≤ m * (a / m) := Int.mul_nonneg (Int.le_of_lt hm) (Int.ediv_nonneg ha (Int.le_of_lt hm))
  omega
theorem emod_is {m a b : Int} (ha : 0 ≤ a) (hb : a < m) (h : m ∣ b - a) : b % m = a := by
  rw [emod_of h, Int.emod_eq_of_lt ha hb]
section
variable {m : Int} (hm : 0 < m)
include hm
theorem wt_nn (r s : Rc) : 0 ≤ wt m r s := Int.emod_nonneg _ (by omega)
theorem wt_lt (r s : Rc) : wt m r s < m := Int.emod_lt_of_pos _ hm
theorem ph_nn (v x : Int) : 0 ≤ ph m v x := Int.emod_nonneg _ (by omega)
theorem ph_lt (v x : Int) : ph m v x < m := Int.emod_lt_of_pos _ hm
theorem ov_eq (v : Int) (r : Rc) : m * ov m v r = ph m v r.1 + r.2 - ph m v (en m r) := by
  have h1 := Int.mul_ediv_add_emod (ph m v r.1 + r.2) m
  have h2 : (ph m v r.1 + r.2) % m = ph m v (en m r) := by
    unfold ph
    refine emod_of ?_
    have d1 := dvd_emod m (r.1 - v - 1)
    have d2 := dvd_emod m (r.1 + r.2)
    exact dvd_cast (Int.dvd_sub d1 d2) (by unfold en; omega)
  unfold ov
  omega
theorem cr_eq (v : Int) (r s : Rc) : m * cr m v r s = wt m r s + ph m v (en m r) - ph m v s.1 := by
  have h1 := Int.mul_ediv_add_emod (ph m v (en m r) + wt m r s) m
  have h2 : (ph m v (en m r) + wt m r s) % m = ph m v s.1 := by
    unfold ph
    refine emod_of ?_
    have d1 := dvd_emod m (en m r - v - 1)
    have d2 := dvd_emod m (s.1 - en m r)
    exact dvd_cast (Int.dvd_add d1 d2) (by unfold wt; omega)
  unfold cr
  omega
theorem cr_nn (v : Int) (r s : Rc) : 0 ≤ cr m v r s := Int.ediv_nonneg (by have := ph_nn hm v (en m r); have := wt_nn hm r s; omega) (by omega)
theorem ov_nn (v : Int) (r : Rc) (h : 0 ≤ r.2) : 0 ≤ ov m v r := Int.ediv_nonneg (by have := ph_nn hm v r.1; omega) (by omega)
/-- a wait lies over an arc just if it goes beyond its begin -/
theorem cr_pos {v : Int} {r s : Rc} : 0 < cr m v r s ↔ (v - en m r) % m < wt m r s := by
  have e : ph m v (en m r) = m - 1 - (v - en m r) % m := by
    unfold ph
    refine emod_is ?_ ?_ ?_
    · have := Int.emod_lt_of_pos (v - en m r) hm; omega
    · have := Int.emod_nonneg (v - en m r) (Int.ne_of_gt hm); omega
    · have d := dvd_emod m (v - en m r)
      exact dvd_cast (Int.dvd_sub d (Int.dvd_refl m)) (by omega)
  have h1 := cr_eq hm v r s
  have h2 := ph_nn hm v s.1
  have h3 := ph_lt hm v s.1
  have h4 := cr_nn hm v r s
  have h5 := wt_lt hm r s
  have h6 := ph_nn hm v (en m r)
  constructor
  · intro h
    have : m * 1 ≤ m * cr m v r s := Int.mul_le_mul_of_nonneg_left (by omega) (by omega)
    omega
  · intro h
    rcases Int.lt_or_eq_of_le h4 with h7 | h7
    · exact h7
    · rw [← h7, Int.mul_zero] at h1
      omega
end
def sm (f : Rc → Int) (xs : List Rc) : Int := (xs.map f).sum
theorem sm_nil (f : Rc → Int) : sm f [] = 0 := rfl
theorem sm_cons (f : Rc → Int) (x : Rc) (xs : List Rc) : sm f (x :: xs) = f x + sm f xs := by simp [sm]
theorem sm_app (f : Rc → Int) (xs ys : List Rc) : sm f (xs ++ ys) = sm f xs + sm f ys := by simp [sm]
theorem sm_perm (f : Rc → Int) {xs ys : List Rc} (h : xs.Perm ys) : sm f xs = sm f ys := by
  induction h with
  | nil => rfl
  | cons x _ ih => rw [sm_cons, sm_cons, ih]
  | swap x y l => rw [sm_cons, sm_cons, sm_cons, sm_cons]; omega
  | trans _ _ h1 h2 => rw [h1, h2]
theorem ws_tel {m : Int} {g1 g2 : Rc → Rc → Int} {a b : Rc → Int} (h : ∀ r s, m * g1 r s = g2 r s + a r - b s) : ∀ (xs : List Rc) (p : Rc), m * ws g1 p xs + a (lst p xs) + sm b xs = ws g2 p xs + a p + sm a xs
  | [], p => by simp [ws, lst, sm_nil]
  | x :: xs, p => by
    have ih := ws_tel h xs x
    have := h p x
    simp only [ws, lst, sm_cons, Int.mul_add] at ih ⊢
    omega
theorem cyc_tel {m : Int} {g1 g2 : Rc → Rc → Int} {a b : Rc → Int} (h : ∀ r s, m * g1 r s = g2 r s + a r - b s) : ∀ (xs : List Rc), m * cyc g1 xs + sm b xs = cyc g2 xs + sm a xs
  | [] => by simp [cyc, sm_nil]
  | x :: xs => by
    have h1 := ws_tel h xs x
    have h2 := h (lst x xs) x
    simp only [cyc, sm_cons, Int.mul_add] at h1 ⊢
    omega
/-! ### several closed ways that read all records -/
def W (g : Rc → Rc → Int) : List (List Rc) → Int
  | [] => 0
  | c :: cs => cyc g c + W g cs
structure Cf (lot : List Rc) (cs : List (List Rc)) : Prop where
  ne : ∀ c ∈ cs, c ≠ []
  pm : cs.flatten.Perm lot
theorem W_nn {g : Rc → Rc → Int} (h : ∀ r s, 0 ≤ g r s) : ∀ cs, 0 ≤ W g cs
  | [] => Int.le_refl _
  | c :: cs => by have := W_nn h cs; have := cyc_nn h c; simp only [W]; omega
theorem W_tel {m : Int} {g1 g2 : Rc → Rc → Int} {a b : Rc → Int} (h : ∀ r s, m * g1 r s = g2 r s + a r - b s) : ∀ cs : List (List Rc), m * W g1 cs + sm b cs.flatten = W g2 cs + sm a cs.flatten
  | [] => by simp [W, sm_nil]
  | c :: cs => by
    have h1 := W_tel h cs
    have h2 := cyc_tel h c
    simp only [W, List.flatten_cons, sm_app, Int.mul_add] at h1 ⊢
    omega
theorem W_pick {g : Rc → Rc → Int} (h : ∀ r s, 0 ≤ g r s) : ∀ (cs : List (List Rc)), 0 < W g cs → ∃ y ys rest, ((y :: ys) :: rest).flatten.Perm cs.flatten ∧ ((∀ c ∈ cs, c ≠ []) → ∀ c ∈ rest, c ≠ []) ∧ rest.length + 1 = cs.length ∧ (∀ g', W g' ((y :: ys) :: rest) = W g' cs) ∧ 0 < g (lst y ys) y ∧ ∃ c ∈ cs, (y :: ys).Perm c
  | [], h1 => absurd h1 (Int.lt_irrefl _)
  | c :: cs, h1 => by
    by_cases h2 : 0 < cyc g c
    · obtain ⟨y, ys, p, e, q⟩ := cyc_pick c h2
      refine ⟨y, ys, cs, ?_, fun hn d hd => hn d (List.mem_cons_of_mem _ hd), by simp, fun g' => by simp only [W, e], q, c, List.mem_cons_self .., p⟩
      rw [List.flatten_cons, List.flatten_cons]
      exact p.append_right _
    · have h3 : 0 < W g cs := by simp only [W] at h1; omega
      obtain ⟨y, ys, rest, p, hn, hl, e, q, d, hd, pd⟩ := W_pick h cs h3
      refine ⟨y, ys, c :: rest, ?_, fun hn' d hd => ?_, by simp; omega, fun g' => ?_, q, d, List.mem_cons_of_mem _ hd, pd⟩
      · rw [List.flatten_cons, List.flatten_cons, List.flatten_cons]
        rw [List.flatten_cons] at p
        refine List.Perm.trans ?_ (List.Perm.append_left c p)
        rw [← List.append_assoc, ← List.append_assoc]
        exact List.perm_append_comm.append_right _
      · rcases List.mem_cons.mp hd with rfl | hd
        · exact hn' _ (List.mem_cons_self ..)
        · exact hn (fun z hz => hn' z (List.mem_cons_of_mem _ hz)) d hd
      · have := e g'
        simp only [W] at this ⊢
        omega
section
variable {m : Int} (hm : 0 < m)
include hm
/-- what is read and waited in all is so many rounds over each arc -/
theorem tot {lot : List Rc} {cs : List (List Rc)} (c : Cf lot cs) (v : Int) : m * (sm (ov m v) lot + W (cr m v) cs) = sm (·.2) lot + W (wt m) cs := by
  have h1 := W_tel (m := m) (g1 := cr m v) (g2 := wt m) (a := fun r => ph m v (en m r)) (b := fun s => ph m v s.1) (fun r s => cr_eq hm v r s) cs
  have h2 : ∀ xs : List Rc, m * sm (ov m v) xs = sm (fun s => ph m v s.1) xs + sm (·.2) xs - sm (fun r => ph m v (en m r)) xs := by
    intro xs
    induction xs with
    | nil => simp [sm_nil]
    | cons x xs ih =>
      have := ov_eq hm v x
      simp only [sm_cons, Int.mul_add]
      omega
  have h3 := h2 lot
  rw [sm_perm _ c.pm, sm_perm _ c.pm] at h1
  rw [Int.mul_add]
  omega
/-- two waits exchanged: the sum of the new ones -/
theorem swap_wt {e1 b1 e2 b2 x : Int} (h1 : (x - e1) % m ≤ (b1 - e1) % m) (h2 : (x - e2) % m ≤ (b2 - e2) % m) : (b2 - e1) % m + (b1 - e2) % m ≤ (b1 - e1) % m + (b2 - e2) % m := by
  have a1 := dvd_emod m (x - e1)
  have a2 := dvd_emod m (x - e2)
  have a3 := dvd_emod m (b1 - e1)
  have a4 := dvd_emod m (b2 - e2)
  have n1 := Int.emod_nonneg (x - e1) (Int.ne_of_gt hm)
  have n2 := Int.emod_nonneg (x - e2) (Int.ne_of_gt hm)
  have l1 : (b2 - e1) % m ≤ (x - e1) % m + ((b2 - e2) % m - (x - e2) % m) := emod_le hm (by omega) (by
    have d := Int.dvd_neg.mpr (Int.dvd_add a1 (Int.dvd_sub a4 a2))
    exact dvd_cast d (by omega))
  have l2 : (b1 - e2) % m ≤ (x - e2) % m + ((b1 - e1) % m - (x - e1) % m) := emod_le hm (by omega) (by
    have d := Int.dvd_neg.mpr (Int.dvd_add a2 (Int.dvd_sub a3 a1))
    exact dvd_cast d (by omega))
  omega
/-- .. at the begin of the first one: a longer wait, or fewer ticks in all -/
theorem swap_grow {e1 b1 e2 b2 : Int} (h2 : (b1 - e2) % m < (b2 - e2) % m) : (b2 - e1) % m + (b1 - e2) % m < (b1 - e1) % m + (b2 - e2) % m ∨ ((b2 - e1) % m + (b1 - e2) % m = (b1 - e1) % m + (b2 - e2) % m ∧ (b1 - e1) % m + 1 ≤ (b2 - e1) % m) := by
  have a2 := dvd_emod m (b1 - e2)
  have a3 := dvd_emod m (b1 - e1)
  have a4 := dvd_emod m (b2 - e2)
  have n1 := Int.emod_nonneg (b1 - e1) (Int.ne_of_gt hm)
  have n2 := Int.emod_nonneg (b1 - e2) (Int.ne_of_gt hm)
  have d : m ∣ (b2 - e1) - ((b1 - e1) % m + ((b2 - e2) % m - (b1 - e2) % m)) := by
    have d := Int.dvd_neg.mpr (Int.dvd_add a3 (Int.dvd_sub a4 a2))
    exact dvd_cast d (by omega)
  by_cases h : (b1 - e1) % m + ((b2 - e2) % m - (b1 - e2) % m) < m
  · have := emod_is (by omega) h d
    right
    omega
  · left
    have := Int.emod_lt_of_pos (b2 - e1) hm
    omega
end
theorem Cf.rest {lot : List Rc} {c : List Rc} {cs : List (List Rc)} (h : Cf lot (c :: cs)) : ∀ d ∈ cs, d ≠ [] := fun d hd => h.ne d (List.mem_cons_of_mem _ hd)
section
variable {m : Int} (hm : 0 < m)
include hm
theorem grow {lot : List Rc} {x : Rc} {xs : List Rc} {rest : List (List Rc)} (cf : Cf lot ((x :: xs) :: rest)) (h : ∀ v, 0 < W (cr m v) ((x :: xs) :: rest)) :
    ∃ y ys rest', Cf lot ((y :: ys) :: rest') ∧ (W (wt m) ((y :: ys) :: rest') < W (wt m) ((x :: xs) :: rest) ∨ (W (wt m) ((y :: ys) :: rest') = W (wt m) ((x :: xs) :: rest) ∧ wt m (lst x xs) x + 1 ≤ wt m (lst y ys) y)) := by
  have h0 : ¬ 0 < cr m x.1 (lst x xs) x := by rw [cr_pos hm]; unfold wt; omega
  have hx := h x.1
  by_cases h1 : 0 < ws (cr m x.1) x xs
  · obtain ⟨as, b, bs, rfl, h3⟩ := ws_pick xs x h1
    rw [cr_pos hm] at h3
    have e0 : lst x (as ++ b :: bs) = lst b bs := lst_app as x b bs
    refine ⟨b, bs, (x :: as) :: rest, ⟨fun c hc => ?_, ?_⟩, ?_⟩
    · rcases List.mem_cons.mp hc with rfl | hc
      · simp
      · rcases List.mem_cons.mp hc with rfl | hc
        · simp
        · exact cf.ne c (List.mem_cons_of_mem _ hc)
    · refine List.Perm.trans ?_ cf.pm
      simp only [List.flatten_cons, ← List.append_assoc]
      exact (List.perm_append_comm (l₁ := b :: bs) (l₂ := x :: as)).append_right _
    · have g := swap_grow hm (e1 := en m (lst b bs)) (b1 := x.1) (e2 := en m (lst x as)) (b2 := b.1) h3
      rw [e0]
      have e1 : cyc (wt m) (x :: (as ++ b :: bs)) = ws (wt m) x as + wt m (lst x as) b + ws (wt m) b bs + wt m (lst b bs) x := cyc_app (wt m) x as b bs
      simp only [W, e1]
      unfold wt at g ⊢
      unfold wt at e1
      simp only [cyc]
      omega
  · have h2 : 0 < W (cr m x.1) rest := by simp only [W, cyc] at hx; omega
    obtain ⟨y, ys, rest', p, hn, hl, e, q, _⟩ := W_pick (cr_nn hm x.1) rest h2
    rw [cr_pos hm] at q
    refine ⟨y, ys ++ x :: xs, rest', ⟨fun c hc => ?_, ?_⟩, ?_⟩
    · rcases List.mem_cons.mp hc with rfl | hc
      · simp
      · exact hn cf.rest c hc
    · refine List.Perm.trans ?_ cf.pm
      simp only [List.flatten_cons] at p ⊢
      refine List.Perm.trans ?_ (List.Perm.append_left (x :: xs) p)
      rw [← List.append_assoc]
      exact (List.perm_append_comm (l₁ := y :: ys) (l₂ := x :: xs)).append_right _
    · have g := swap_grow hm (e1 := en m (lst x xs)) (b1 := x.1) (e2 := en m (lst y ys)) (b2 := y.1) q
      have e0 : lst y (ys ++ x :: xs) = lst x xs := lst_app ys y x xs
      have e1 : cyc (wt m) (y :: (ys ++ x :: xs)) = ws (wt m) y ys + wt m (lst y ys) x + ws (wt m) x xs + wt m (lst x xs) y := cyc_app (wt m) y ys x xs
      have e2 := e (wt m)
      rw [e0]
      simp only [W] at e2 ⊢
      rw [← e2, e1]
      simp only [cyc]
      unfold wt at g ⊢
      omega
theorem grows {lot : List Rc} : ∀ (k : Nat) {x : Rc} {xs : List Rc} {rest : List (List Rc)}, Cf lot ((x :: xs) :: rest) → (∀ cs, Cf lot cs → W (wt m) cs = W (wt m) ((x :: xs) :: rest) → ∀ v, 0 < W (cr m v) cs) → m ≤ wt m (lst x xs) x + k → ∃ cs, Cf lot cs ∧ W (wt m) cs < W (wt m) ((x :: xs) :: rest)
  | 0, x, xs, rest, cf, h, hk => by have := wt_lt hm (lst x xs) x; omega
  | k + 1, x, xs, rest, cf, h, hk => by
    obtain ⟨y, ys, rest', c', g⟩ := grow hm cf (h _ cf rfl)
    rcases g with g | ⟨g1, g2⟩
    · exact ⟨_, c', g⟩
    · obtain ⟨cs, c2, g3⟩ := grows k c' (fun cs cc e => h cs cc (e.trans g1)) (by omega)
      exact ⟨cs, c2, by omega⟩
/-- as few ticks as the greatest cover allows, in closed ways -/
theorem few_ways {lot : List Rc} {R : Int} (hc : ∀ v, sm (ov m v) lot ≤ R) : ∀ (n : Nat) (cs : List (List Rc)), Cf lot cs → W (wt m) cs ≤ n → ∃ cs', Cf lot cs' ∧ sm (·.2) lot + W (wt m) cs' ≤ m * R
  | n, cs, cf, hn => by
    by_cases h : sm (·.2) lot + W (wt m) cs ≤ m * R
    · exact ⟨cs, cf, h⟩
    · have hp : ∀ cs2, Cf lot cs2 → W (wt m) cs2 = W (wt m) cs → ∀ v, 0 < W (cr m v) cs2 := fun cs2 cc e v => by
        have t := tot hm cc v
        have := hc v
        by_cases z : 0 < W (cr m v) cs2
        · exact z
        · have : m * (sm (ov m v) lot + W (cr m v) cs2) ≤ m * R := Int.mul_le_mul_of_nonneg_left (by omega) (by omega)
          omega
      cases cs with
      | nil =>
        have := hp [] cf rfl 0
        simp [W] at this
      | cons c rest =>
        cases c with
        | nil => exact absurd rfl (cf.ne [] (List.mem_cons_self ..))
        | cons x xs =>
          obtain ⟨cs2, c2, g⟩ := grows hm m.toNat cf hp (by have := wt_nn hm (lst x xs) x; omega)
          have w2 := W_nn (wt_nn hm) cs2
          match n with
          | 0 => omega
          | n + 1 => exact few_ways hc n cs2 c2 (by omega)
omit hm in
theorem flat_ones : ∀ lot : List Rc, (lot.map fun r => [r]).flatten = lot
  | [] => rfl
  | r :: rs => by rw [List.map_cons, List.flatten_cons, flat_ones rs]; rfl
theorem few_ways' {lot : List Rc} {R : Int} (hc : ∀ v, sm (ov m v) lot ≤ R) : ∃ cs, Cf lot cs ∧ sm (·.2) lot + W (wt m) cs ≤ m * R := by
  have c0 : Cf lot (lot.map fun r => [r]) := by
    refine ⟨fun c hc => ?_, ?_⟩
    · obtain ⟨r, _, rfl⟩ := List.mem_map.mp hc
      simp
    · rw [flat_ones]
  exact few_ways hm hc (W (wt m) (lot.map fun r => [r])).toNat _ c0 (by have := W_nn (wt_nn hm) (lot.map fun r => [r]); omega)
/-! ### joined by open arcs and by records -/
inductive Cn (m : Int) (op : Int → Prop) (lot : List Rc) : Int → Int → Prop
  | refl (x : Int) : Cn m op lot x x
  | arc {x y : Int} : Cn m op lot x y → op y → Cn m op lot x ((y + 1) % m)
  | cra {x y : Int} : Cn m op lot x ((y + 1) % m) → 0 ≤ y → y < m → op y → Cn m op lot x y
  | rd {x : Int} {r : Rc} : Cn m op lot x r.1 → r ∈ lot → Cn m op lot x (en m r)
  | dr {x : Int} {r : Rc} : Cn m op lot x (en m r) → r ∈ lot → Cn m op lot x r.1
/-- a wait comes by a mark -/
def Tc (m v : Int) (r s : Rc) : Prop := (v - en m r) % m ≤ wt m r s
theorem tc_cr {v : Int} {r s : Rc} (h : 0 < cr m v r s) : Tc m v r s ∧ Tc m ((v + 1) % m) r s := by
  rw [cr_pos hm] at h
  refine ⟨Int.le_of_lt h, ?_⟩
  unfold Tc
  have n1 := Int.emod_nonneg (v - en m r) (Int.ne_of_gt hm)
  have := wt_lt hm r s
  have d1 := dvd_emod m (v - en m r)
  have d2 := dvd_emod m (v + 1)
  rw [emod_is (a := (v - en m r) % m + 1) (by omega) (by omega) (dvd_cast (Int.dvd_sub d2 d1) (by omega))]
  omega
theorem tc_end (r s : Rc) : Tc m (en m r) r s := by
  unfold Tc
  rw [Int.sub_self, Int.zero_emod]
  exact wt_nn hm r s
theorem tc_beg (r s : Rc) : Tc m s.1 r s := Int.le_refl _
/-- two ways joined where both come by -/
theorem join_at {lot : List Rc} {x y : Rc} {xs ys : List Rc} {rest : List (List Rc)} {v : Int} (cf : Cf lot ((x :: xs) :: (y :: ys) :: rest)) (h1 : Tc m v (lst x xs) x) (h2 : Tc m v (lst y ys) y) :
    Cf lot (((x :: xs) ++ (y :: ys)) :: rest) ∧ W (wt m) (((x :: xs) ++ (y :: ys)) :: rest) ≤ W (wt m) ((x :: xs) :: (y :: ys) :: rest) := by
  refine ⟨⟨fun c hc => ?_, ?_⟩, ?_⟩
  · rcases List.mem_cons.mp hc with rfl | hc
    · simp
    · exact cf.ne c (List.mem_cons_of_mem _ (List.mem_cons_of_mem _ hc))
  · have := cf.pm
    simpa only [List.flatten_cons, List.append_assoc] using this
  · have g := swap_wt hm (e1 := en m (lst x xs)) (b1 := x.1) (e2 := en m (lst y ys)) (b2 := y.1) (x := v) h1 h2
    have e1 := cyc_app (wt m) x xs y ys
    simp only [W]
    rw [e1]
    simp only [cyc]
    unfold wt at g ⊢
    omega
theorem mul_le' {a b : Int} (h : m * a ≤ m * b) : a ≤ b := Int.le_of_mul_le_mul_left h hm
theorem mul_lt' {a b : Int} (h : m * a < m * b) : a < b := Int.lt_of_mul_lt_mul_left h (Int.le_of_lt hm)
omit hm in
theorem Cf.turn {lot : List Rc} {c d : List Rc} {cs : List (List Rc)} (h : Cf lot (c :: cs)) (p : d.Perm c) : Cf lot (d :: cs) := ⟨fun z hz => by
  rcases List.mem_cons.mp hz with rfl | hz
  · intro e; subst e; exact h.ne c (List.mem_cons_self ..) (List.Perm.eq_nil p.symm)
  · exact h.ne z (List.mem_cons_of_mem _ hz), by
  rw [List.flatten_cons]
  exact (p.append_right _).trans (by have := h.pm; rwa [List.flatten_cons] at this)⟩
omit hm in
theorem Cf.swap {lot : List Rc} {cs ds : List (List Rc)} (h : Cf lot cs) (p : ds.Perm cs) : Cf lot ds := ⟨fun z hz => h.ne z (p.mem_iff.mp hz), (List.Perm.flatten p).trans h.pm⟩
omit hm in
theorem W_perm (g : Rc → Rc → Int) {cs ds : List (List Rc)} (p : cs.Perm ds) : W g cs = W g ds := by
  induction p with
  | nil => rfl
  | cons x _ ih => simp only [W, ih]
  | swap x y l => simp only [W]; omega
  | trans _ _ h1 h2 => rw [h1, h2]
/-- a way of a list of ways stands first -/
theorem to_front {lot : List Rc} {c d : List Rc} {cs : List (List Rc)} (h : Cf lot (c :: cs)) (hd : d ∈ cs) : ∃ rest, Cf lot (c :: d :: rest) ∧ rest.length + 1 = cs.length ∧ ∀ g, W g (c :: d :: rest) = W g (c :: cs) := by
  obtain ⟨as, bs, e⟩ := List.append_of_mem hd
  have p : (c :: d :: (as ++ bs)).Perm (c :: cs) := by
    rw [e]
    exact List.Perm.cons c (List.perm_middle.symm)
  exact ⟨as ++ bs, h.swap p, by rw [e]; simp; omega, fun g => W_perm g p⟩
abbrev cov (m : Int) (lot : List Rc) (v : Int) : Int := sm (ov m v) lot
/-- a way comes by -/
def By (m : Int) (c : List Rc) (v : Int) : Prop := ∃ x xs, (x :: xs).Perm c ∧ (∀ g, cyc g (x :: xs) = cyc g c) ∧ Tc m v (lst x xs) x
theorem by_beg {c : List Rc} {r : Rc} (h : r ∈ c) : By m c r.1 := by
  obtain ⟨ys, p, e⟩ := cyc_at c r h
  exact ⟨r, ys, p, e, tc_beg hm _ _⟩
theorem by_end {c : List Rc} {r : Rc} (h : r ∈ c) : By m c (en m r) := by
  obtain ⟨y, ys, p, e, el⟩ := cyc_behind c r h
  exact ⟨y, ys, p, e, by rw [el]; exact tc_end hm _ _⟩
theorem join_by {lot : List Rc} {c d : List Rc} {rest : List (List Rc)} {v : Int} (cf : Cf lot (c :: d :: rest)) (h1 : By m c v) (h2 : By m d v) : ∃ c', Cf lot (c' :: rest) ∧ W (wt m) (c' :: rest) ≤ W (wt m) (c :: d :: rest) := by
  obtain ⟨x, xs, p1, e1, t1⟩ := h1
  obtain ⟨y, ys, p2, e2, t2⟩ := h2
  have c1 := ((cf.turn p1).swap (List.Perm.swap _ _ _)).turn p2 |>.swap (List.Perm.swap _ _ _)
  obtain ⟨c2, w⟩ := join_at hm c1 t1 t2
  refine ⟨_, c2, Int.le_trans w ?_⟩
  simp only [W, e1, e2]
  omega
theorem one_way {lot : List Rc} {R : Int} (hn : lot ≠ []) (hc : ∀ v, cov m lot v ≤ R) (hj : ∀ r ∈ lot, ∀ s ∈ lot, Cn m (fun v => cov m lot v < R) lot r.1 s.1) :
    ∀ (n : Nat) (cs : List (List Rc)), cs.length ≤ n → Cf lot cs → sm (·.2) lot + W (wt m) cs ≤ m * R → ∃ c, c.Perm lot ∧ sm (·.2) lot + cyc (wt m) c ≤ m * R
  | n, [], hl, cf, ht => by
    have := cf.pm
    simp only [List.flatten_nil] at this
    exact absurd (List.Perm.eq_nil this.symm) hn
  | n, [c], hl, cf, ht => by
    have := cf.pm
    simp only [List.flatten_cons, List.flatten_nil, List.append_nil] at this
    refine ⟨c, this, ?_⟩
    simp only [W] at ht
    omega
  | 0, c :: d :: rest, hl, cf, ht => by simp at hl
  | n + 1, c :: d :: rest, hl, cf, ht => by
    have hl' : rest.length + 1 ≤ n := by simp at hl; omega
    have key : ∃ cs', cs'.length ≤ n ∧ Cf lot cs' ∧ sm (·.2) lot + W (wt m) cs' ≤ m * R := by
      by_cases hlt : sm (·.2) lot + W (wt m) (c :: d :: rest) < m * R
      · -- two of them anyhow
        cases hcx : c with
        | nil => exact absurd hcx (cf.ne c (List.mem_cons_self ..))
        | cons x xs =>
          cases hdx : d with
          | nil => exact absurd hdx (cf.ne d (List.mem_cons_of_mem _ (List.mem_cons_self ..)))
          | cons y ys =>
            subst hcx hdx
            have c2 : Cf lot (((x :: xs) ++ (y :: ys)) :: rest) := ⟨fun z hz => by
              rcases List.mem_cons.mp hz with rfl | hz
              · simp
              · exact cf.ne z (List.mem_cons_of_mem _ (List.mem_cons_of_mem _ hz)), by
              have := cf.pm
              simpa only [List.flatten_cons, List.append_assoc] using this⟩
            refine ⟨_, by simpa using hl', c2, ?_⟩
            have t1 := tot hm cf 0
            have t2 := tot hm c2 0
            have e1 := cyc_app (wt m) x xs y ys
            have a1 := wt_lt hm (lst x xs) y
            have a2 := wt_lt hm (lst y ys) x
            have a3 := wt_nn hm (lst x xs) x
            have a4 := wt_nn hm (lst y ys) y
            have e2 : W (wt m) (((x :: xs) ++ (y :: ys)) :: rest) ≤ W (wt m) ((x :: xs) :: (y :: ys) :: rest) + 2 * m - 2 := by
              simp only [W]
              rw [e1]
              simp only [cyc]
              omega
            generalize sm (ov m 0) lot + W (cr m 0) ((x :: xs) :: (y :: ys) :: rest) = T at t1
            generalize sm (ov m 0) lot + W (cr m 0) (((x :: xs) ++ (y :: ys)) :: rest) = T' at t2
            have h1 : T < R := mul_lt' hm (by omega)
            have h2 : T' < T + 2 := mul_lt' hm (by rw [Int.mul_add, Int.mul_comm m 2]; omega)
            have h3 : m * T' ≤ m * R := Int.mul_le_mul_of_nonneg_left (by omega) (by omega)
            omega
      · have he : sm (·.2) lot + W (wt m) (c :: d :: rest) = m * R := by omega
        by_cases hno : ∃ v, By m c v ∧ ∃ z ∈ d :: rest, By m z v
        · obtain ⟨v, b1, z, hz, b2⟩ := hno
          obtain ⟨rest', cf', hl2, e⟩ := to_front hm cf hz
          obtain ⟨c', c2, w⟩ := join_by hm cf' b1 b2
          refine ⟨_, ?_, c2, ?_⟩
          · simp at hl2 ⊢; omega
          · have := e (wt m); omega
        · exfalso
          have no : ∀ v, By m c v → ∀ z ∈ d :: rest, ¬ By m z v := fun v b z hz b2 => hno ⟨v, b, z, hz, b2⟩
          have inv1 : ∀ v, cov m lot v < R → (By m c v ↔ By m c ((v + 1) % m)) := fun v ho => by
            have t := tot hm cf v
            have hid : 0 < W (cr m v) (c :: d :: rest) := by
              have e : sm (ov m v) lot + W (cr m v) (c :: d :: rest) = R := Int.eq_of_mul_eq_mul_left (Int.ne_of_gt hm) (by omega)
              unfold cov at ho
              omega
            have hid : ∃ z ∈ c :: d :: rest, 0 < cyc (cr m v) z := by
              have gen : ∀ cs : List (List Rc), 0 < W (cr m v) cs → ∃ z ∈ cs, 0 < cyc (cr m v) z := by
                intro cs
                induction cs with
                | nil => intro h; simp [W] at h
                | cons z cs ih =>
                  intro h
                  by_cases h1 : 0 < cyc (cr m v) z
                  · exact ⟨z, List.mem_cons_self .., h1⟩
                  · obtain ⟨y, hy, h2⟩ := ih (by simp only [W] at h; omega)
                    exact ⟨y, List.mem_cons_of_mem _ hy, h2⟩
              exact gen _ hid
            obtain ⟨z, hz, hp⟩ := hid
            obtain ⟨y, ys, p, e, q⟩ := cyc_pick z hp
            obtain ⟨q1, q2⟩ := tc_cr hm q
            have b1 : By m z v := ⟨y, ys, p, e, q1⟩
            have b2 : By m z ((v + 1) % m) := ⟨y, ys, p, e, q2⟩
            rcases List.mem_cons.mp hz with rfl | hz
            · exact ⟨fun _ => b2, fun _ => b1⟩
            · exact ⟨fun b => absurd b1 (no _ b z hz), fun b => absurd b2 (no _ b z hz)⟩
          have inv2 : ∀ r ∈ lot, (By m c r.1 ↔ By m c (en m r)) := fun r hr => by
            have := cf.pm.mem_iff.mpr hr
            obtain ⟨z, hz, hrz⟩ := List.mem_flatten.mp this
            rcases List.mem_cons.mp hz with rfl | hz
            · exact ⟨fun _ => by_end hm hrz, fun _ => by_beg hm hrz⟩
            · exact ⟨fun b => absurd (by_beg hm hrz) (no _ b z hz), fun b => absurd (by_end hm hrz) (no _ b z hz)⟩
          have inv : ∀ x y, Cn m (fun v => cov m lot v < R) lot x y → (By m c x ↔ By m c y) := fun x y h => by
            induction h with
            | refl => exact Iff.rfl
            | arc h ho ih => exact ih.trans (inv1 _ ho)
            | cra h _ _ ho ih => exact ih.trans (inv1 _ ho).symm
            | rd h hr ih => exact ih.trans (inv2 _ hr)
            | dr h hr ih => exact ih.trans (inv2 _ hr).symm
          have hcn := cf.ne c (List.mem_cons_self ..)
          have hdn := cf.ne d (List.mem_cons_of_mem _ (List.mem_cons_self ..))
          obtain ⟨r, hr⟩ := List.exists_mem_of_ne_nil c hcn
          obtain ⟨s, hs⟩ := List.exists_mem_of_ne_nil d hdn
          have r1 : r ∈ lot := cf.pm.mem_iff.mp (by simp [hr])
          have s1 : s ∈ lot := cf.pm.mem_iff.mp (by simp [hs])
          exact no _ ((inv _ _ (hj r r1 s s1)).mp (by_beg hm hr)) d (List.mem_cons_self ..) (by_beg hm hs)
    obtain ⟨cs', h1, h2, h3⟩ := key
    exact one_way hn hc hj n cs' h1 h2 h3
/-- there is one way with at most R rounds -/
theorem way_ex {lot : List Rc} {R : Int} (hn : lot ≠ []) (hc : ∀ v, cov m lot v ≤ R) (hj : ∀ r ∈ lot, ∀ s ∈ lot, Cn m (fun v => cov m lot v < R) lot r.1 s.1) : ∃ c, c.Perm lot ∧ sm (·.2) lot + cyc (wt m) c ≤ m * R := by
  obtain ⟨cs, cf, h⟩ := few_ways' hm hc
  exact one_way hm hn hc hj cs.length cs (Nat.le_refl _) cf h
theorem cf_one {lot c : List Rc} (hn : lot ≠ []) (p : c.Perm lot) : Cf lot [c] := ⟨fun z hz => by
  rw [List.mem_singleton] at hz
  subst hz
  intro e; subst e
  exact hn (List.Perm.eq_nil p.symm), by simpa using p⟩
/-- the rounds of a way: over each arc as many -/
theorem way_tot {lot c : List Rc} (hn : lot ≠ []) (p : c.Perm lot) (v : Int) : m * (cov m lot v + cyc (cr m v) c) = sm (·.2) lot + cyc (wt m) c := by
  have t := tot hm (cf_one hm hn p) v
  simp only [W, Int.add_zero] at t
  exact t
theorem way_low {lot c : List Rc} {R : Int} (hn : lot ≠ []) (p : c.Perm lot) (h : sm (·.2) lot + cyc (wt m) c ≤ m * R) (v : Int) : cov m lot v ≤ R := by
  have t := way_tot hm hn p v
  have := cyc_nn (cr_nn hm v) c
  have : cov m lot v + cyc (cr m v) c ≤ R := mul_le' hm (by omega)
  omega
/-- from an end to the next begin -/
theorem go_wait {op : Int → Prop} {lot : List Rc} {x : Int} {r s : Rc} (hs : 0 ≤ s.1 ∧ s.1 < m) (h : Cn m op lot x (en m r)) (ho : ∀ v, 0 < cr m v r s → op v) : Cn m op lot x s.1 := by
  have step : ∀ k : Nat, (k : Int) ≤ wt m r s → Cn m op lot x ((en m r + k) % m) := by
    intro k
    induction k with
    | zero =>
      intro _
      have : (en m r + ((0 : Nat) : Int)) % m = en m r := by
        show (en m r + 0) % m = en m r
        rw [Int.add_zero]
        exact Int.emod_eq_of_lt (Int.emod_nonneg _ (Int.ne_of_gt hm)) (Int.emod_lt_of_pos _ hm)
      rw [this]
      exact h
    | succ k ih =>
      intro hk
      have hk2 : (k : Int) < wt m r s := by omega
      have hw := wt_lt hm r s
      have i := ih (by omega)
      have e : ((en m r + k) % m - en m r) % m = k := emod_is (by omega) (by omega) (dvd_cast (dvd_emod m (en m r + k)) (by omega))
      have o := ho ((en m r + k) % m) (by rw [cr_pos hm, e]; exact hk2)
      have := Cn.arc i o
      have e2 : ((en m r + k) % m + 1) % m = (en m r + ((k + 1 : Nat) : Int)) % m := emod_of (dvd_cast (dvd_emod m (en m r + k)) (by omega))
      rw [e2] at this
      exact this
  have := step (wt m r s).toNat (by have := wt_nn hm r s; omega)
  have e : (en m r + ((wt m r s).toNat : Int)) % m = s.1 := by
    have := wt_nn hm r s
    rw [Int.toNat_of_nonneg this]
    exact emod_is hs.1 hs.2 (dvd_cast (dvd_emod m (s.1 - en m r)) (by unfold wt; omega))
  rwa [e] at this
theorem way_cn {lot c : List Rc} {R : Int} (hb : ∀ r ∈ lot, 0 ≤ r.1 ∧ r.1 < m) (hn : lot ≠ []) (p : c.Perm lot) (h : sm (·.2) lot + cyc (wt m) c ≤ m * R) : ∀ r ∈ lot, ∀ s ∈ lot, Cn m (fun v => cov m lot v < R) lot r.1 s.1 := by
  have op : ∀ v, 0 < cyc (cr m v) c → cov m lot v < R := fun v hv => by
    have t := way_tot hm hn p v
    have : cov m lot v + cyc (cr m v) c ≤ R := mul_le' hm (by omega)
    omega
  have go : ∀ (xs : List Rc) (y : Rc), y ∈ lot → (∀ z ∈ xs, z ∈ lot) → (∀ v, 0 < ws (cr m v) y xs → cov m lot v < R) → ∀ x, Cn m (fun v => cov m lot v < R) lot x y.1 → ∀ z ∈ xs, Cn m (fun v => cov m lot v < R) lot x z.1 := by
    intro xs
    induction xs with
    | nil => intro y _ _ _ x _ z hz; cases hz
    | cons a xs ih =>
      intro y hy hz ho x hx z hzz
      have n1 := fun v => ws_nn (cr_nn hm v) xs a
      have n2 := fun v => cr_nn hm v y a
      have c1 : Cn m (fun v => cov m lot v < R) lot x a.1 := go_wait hm (hb a (hz a (List.mem_cons_self ..))) (Cn.rd hx hy) fun v hv => ho v (by simp only [ws]; have := n1 v; omega)
      rcases List.mem_cons.mp hzz with rfl | hzz
      · exact c1
      · exact ih a (hz a (List.mem_cons_self ..)) (fun z hz' => hz z (List.mem_cons_of_mem _ hz')) (fun v hv => ho v (by simp only [ws]; have := n2 v; omega)) x c1 z hzz
  intro r hr s hs
  obtain ⟨ys, p2, e⟩ := cyc_at c r (p.mem_iff.mpr hr)
  have s1 : s ∈ r :: ys := p2.mem_iff.mpr (p.mem_iff.mpr hs)
  rcases List.mem_cons.mp s1 with rfl | s1
  · exact .refl _
  · refine go ys r hr (fun z hz => p.mem_iff.mp (p2.mem_iff.mp (List.mem_cons_of_mem _ hz))) (fun v hv => op v ?_) r.1 (.refl _) s s1
    rw [← e]
    have := cr_nn hm v (lst r ys) r
    simp only [cyc]
    omega
/-- all arcs open: all hangs together -/
theorem all_open {op : Int → Prop} {lot : List Rc} (ho : ∀ v, op v) (hb : ∀ r ∈ lot, 0 ≤ r.1 ∧ r.1 < m) : ∀ r ∈ lot, ∀ s ∈ lot, Cn m op lot r.1 s.1 := fun r hr s hs =>
  go_wait hm (hb s hs) (.rd (.refl _) hr) fun v _ => ho v
end
end CW
namespace Rm
open PySem PySem.Spec PyProof.Rows L2 Rg
open Enc (rel)
open Cell (cel)
open Slot (srel)
open Slots (srels)
section
variable {K : PySem.W.Frag} {d : Addr → Prop} {F0 H0 : Hp} {S : Type} [Slots S]
/-! ### a list as a test -/
theorem jt_L {α : Type} [Enc α] {t : TE} {m : M S (List α)} (h : JE K d F0 H0 S t m) : JT K d F0 H0 S (tTru K t) (op1 (fun x : List α => some (!x.isEmpty)) m) := by
  intro Z s σ F H c x s' e Q q
  obtain ⟨y1, s1, e1, e⟩ := bnd_some e
  obtain ⟨e3, rfl⟩ := lft_some e
  cases e3
  refine h _ _ _ _ _ c _ _ e1 _ fun v F1 H1 c1 q1 r1 => ?_
  obtain ⟨a, vs, rfl, hs, pr⟩ := r1
  refine ⟨!y1.isEmpty, .inl ⟨vs, Same.seq c1.fh hs, ?_⟩, q _ _ _ c1 q1 rfl⟩
  cases pr <;> rfl
theorem jt_LO {α : Type} [Enc α] {k : Nat} (p : Pos S (Own (List α)) k) : JT K d F0 H0 S (tTru K (tVar k)) (op1 (fun x : List α => some (!x.isEmpty)) (rdo p)) := by
  intro Z s σ F H c x s' e Q q
  obtain ⟨y1, s1, e1, e⟩ := bnd_some e
  obtain ⟨e3, rfl⟩ := lft_some e
  cases e3
  obtain ⟨e1, rfl⟩ := rdo_some e1
  obtain ⟨a, vs, h1, ha, pr⟩ := c.peek p e1
  refine ⟨.ref a, h1, !y1.isEmpty, .inl ⟨vs, sqe ha, ?_⟩, q _ _ _ c (Same.refl _) rfl⟩
  cases pr <;> rfl
/-! ### {k: d[k] % max(c, 1) for k in d} over a variable's own dict -/
def lkF (x : DI Int) (c : Int) (a : DI Int) (q : Int × Int) : DI Int := a.set q.1 ((x.get q.1).getD 0 % (if 1 > c then 1 else c))
@[irreducible] def lkD (x : DI Int) (c : Int) : Option (DI Int) := if x.kvs.length < 100000 then some (x.kvs.foldl (lkF x c) ⟨[]⟩) else none
theorem di_set_len {α : Type} (a : DI α) (k : Int) (v : α) : (a.set k v).kvs.length ≤ a.kvs.length + 1 := by
  unfold DI.set
  show (if _ then _ else _ : List _).length ≤ _
  split <;> simp
theorem lkF_len (x : DI Int) (c : Int) : ∀ (l : List (Int × Int)) (a : DI Int), (l.foldl (lkF x c) a).kvs.length ≤ a.kvs.length + l.length
  | [], a => Nat.le_refl _
  | q :: l, a => by
    have := lkF_len x c l (lkF x c a q)
    have := di_set_len a q.1 ((x.get q.1).getD 0 % (if 1 > c then 1 else c))
    simp only [List.foldl_cons, List.length_cons]
    unfold lkF at *
    omega
theorem di_there {α : Type} : ∀ {xs : List (Int × α)} {i : Nat} {q : Int × α}, xs[i]? = some q → ∃ y, (DI.mk xs).get q.1 = some y
  | p :: xs, i, q, h => by
    unfold DI.get
    by_cases e : p.1 = q.1
    · exact ⟨p.2, by rw [List.find?_cons_of_pos (by simp [e])]; rfl⟩
    · cases i with
      | zero => simp at h; subst h; exact absurd rfl e
      | succ i =>
        have ih := di_there (xs := xs) (i := i) (q := q) (by simpa using h)
        rw [List.find?_cons_of_neg (by simp [e])]
        exact ih
theorem upd_comm {H : Hp} {a b : Addr} {o u : HO} (h : a ≠ b) : upd (upd H a o) b u = upd (upd H b u) a o := by
  funext c
  by_cases h1 : c = a
  · subst h1
    rw [upd_ne h, upd_same, upd_same]
  · by_cases h2 : c = b
    · subst h2
      rw [upd_same, upd_ne h1, upd_same]
    · rw [upd_ne h2, upd_ne h1, upd_ne h1, upd_ne h2]
theorem upd_upd {H : Hp} {a : Addr} {o u : HO} : upd (upd H a o) a u = upd H a u := by
  funext c
  by_cases h1 : c = a
  · subst h1; rw [upd_same, upd_same]
  · rw [upd_ne h1, upd_ne h1, upd_ne h1]
theorem upd_id {H : Hp} {a : Addr} {o : HO} (h : H a = some o) : upd H a o = H := by
  funext c
  by_cases h1 : c = a
  · subst h1; rw [upd_same, h]
  · rw [upd_ne h1]
theorem jd_lk {kd kk kc : Nat} (p : Pos S (Own (DI Int)) kd) (pc : Pos S (Dt Int) kc) (pk : Pos S (Dt Int) kk) (h1 : kd ≠ kk) (h2 : kc ≠ kk) : JE K d F0 H0 S
    (tLockE (tDc (iKeys (tVar kd)) (gName kk) tYes (tVar kk) (tOp (rI (fun _ j => 0 < j) fun i j => .int (i % j)) (tDGet (tVar kd) (tVar kk)) (tCB rMx2 (tCons (tVar kc) (tCons (tC (.int 1)) tNil)))) [kk]))
    (dqM p (rdv pc) lkD) := by
  intro Z s σ F H c x s' e Q q
  obtain ⟨y1, s1, e1, e⟩ := bnd_some e
  obtain ⟨y2, s2, e2, e⟩ := bnd_some e
  obtain ⟨e3, rfl⟩ := lft_some e
  obtain ⟨e2, rfl⟩ := rdd_some e2
  obtain ⟨ov, g1, g2⟩ : ∃ v, σ[kc]? = some (some v) ∧ v = .int y1 ∧ s' = s := by
    obtain ⟨g, dn, own, w1, w2, sl⟩ := id c
    obtain ⟨ov, q1, q2⟩ := pc.rd sl
    unfold rdv at e1
    cases h : pc.get s with
    | no => rw [h] at e1; cases e1
    | «is» x =>
      rw [h] at e1 q2
      cases e1
      obtain ⟨v, rfl, r⟩ := q2
      exact ⟨v, q1, r, rfl⟩
  obtain ⟨rfl, rfl⟩ := g2
  unfold lkD at e3
  obtain ⟨hl, rfl⟩ := ite_some e3
  obtain ⟨a, o, k1, ha, ⟨kvs, rfl, pr⟩, fa, _⟩ := c.mut p e2
  have hlen : kvs.length = y2.kvs.length := Paired.length pr
  refine ⟨a, .dK kvs, ha, trivial, fun od => ?_⟩
  refine ⟨.ref a, k1, a, od, rfl, .inl ⟨kvs, upd_same, fun D hD => ?_⟩⟩
  have naD : a ≠ D := fun z => by subst z; rw [upd_same] at hD; cases hD
  have hD' : H D = none := by rw [upd_ne naD.symm] at hD; exact hD
  let acc : Nat → DI Int := fun i => (y2.kvs.take i).foldl (lkF y2 y1) ⟨[]⟩
  let W : Nat → Nat → Hp → Prop := fun i m h => i + m = kvs.length ∧ ∃ us, h = upd (upd H a (.frz od (.dK kvs))) D (.dK us) ∧ Paired (KvR K F) us (acc i).kvs
  refine ⟨W, ⟨kvs.length, by omega, [], rfl, .nil⟩, fun i m h hw => ?_⟩
  obtain ⟨em, us, rfl, pa⟩ := hw
  cases m with
  | zero =>
    have ei : i = kvs.length := by omega
    subst ei
    left
    refine ⟨⟨by rw [upd_ne naD, upd_same], Nat.le_refl _⟩, by rw [upd_ne naD, upd_same], ?_⟩
    have e4 : upd (upd (upd H a (.frz od (.dK kvs))) D (.dK us)) a (.dK kvs) = upd H D (.dK us) := by
      rw [upd_comm naD.symm, upd_upd, upd_id (H := H) ha]
    rw [e4]
    have n := c.new hD' (.dK us)
    have ea : acc kvs.length = y2.kvs.foldl (lkF y2 y1) ⟨[]⟩ := by
      show (y2.kvs.take kvs.length).foldl _ _ = _
      rw [hlen, List.take_length]
    refine q _ _ _ n.1 n.2 ⟨D, us, rfl, upd_same, ?_⟩
    rw [← ea]
    exact Paired.imp (fun _ _ r => ⟨r.1, Enc.mono n.2 r.2⟩) pa
  | succ m =>
    have hi : i < kvs.length := by omega
    right
    refine ⟨⟨by rw [upd_ne naD, upd_same], hi⟩, W (i + 1) m, fun H' w => ⟨m, Nat.lt_succ_self m, w⟩, fun x H3 y => ?_⟩
    obtain ⟨rfl, kx, vx, gk, rfl⟩ := y
    have hi2 : i < y2.kvs.length := by omega
    obtain ⟨pq, gq, rk, rv⟩ := Paired.getR pr (List.getElem?_eq_getElem hi2)
    rw [gk] at gq
    cases gq
    have rk : kx = .inl y2.kvs[i].1 := rk
    subst rk
    obtain ⟨y, hy⟩ := di_there (List.getElem?_eq_getElem hi2)
    obtain ⟨v, hv, rv2⟩ := (di_get (k := y2.kvs[i].1) pr).1 y hy
    have rv2 : v = .int y := rv2
    subst rv2
    have hkd : σ[kk]? ≠ none := by
      obtain ⟨g, dn, own, w1, w2, sl⟩ := id c
      obtain ⟨ov, q1, _⟩ := pk.rd sl
      rw [q1]; simp
    have hs : ((L2.wipe σ [kk]).set kk (some (.int y2.kvs[i].1)))[kk]? = some (some (.int y2.kvs[i].1)) := by
      have : (L2.wipe σ [kk])[kk]? ≠ none := by
        show (σ.set kk none)[kk]? ≠ none
        have := hkd
        rw [List.getElem?_set_self' ]
        cases z : σ[kk]? with
        | none => exact absurd z this
        | some w => simp
      cases z : (L2.wipe σ [kk])[kk]? with
      | none => exact absurd z this
      | some w => rw [List.getElem?_set_self']; rw [z]; rfl
    have hs2 : ∀ {j : Nat} {w : V}, j ≠ kk → σ[j]? = some (some w) → ((L2.wipe σ [kk]).set kk (some (.int y2.kvs[i].1)))[j]? = some (some w) := fun {j w} hj hw => by
      rw [List.getElem?_set_ne (Ne.symm hj)]
      show (σ.set kk none)[j]? = _
      rw [List.getElem?_set_ne (Ne.symm hj)]
      exact hw
    refine ⟨?_, ?_⟩
    · show ((σ.set kk none).set kk _).set kk none = σ.set kk none
      rw [List.set_set, List.set_set]
    · unfold tYes
      simp only [↓reduceIte]
      refine ⟨_, hs, ?_⟩
      refine ⟨_, hs2 h1 k1, _, hs, a, .int y, rfl, .inl ⟨kvs, .inl y2.kvs[i].1, .inr ⟨od, by rw [upd_ne naD, upd_same]⟩, rfl, by rw [hv]⟩, ?_⟩
      refine r_cb (r_cons ⟨_, hs2 h2 g1, r_cons ?_⟩)
      unfold tC
      refine r_nil ?_
      refine ⟨_, _, rfl, ?_⟩
      refine ⟨_, _, rfl, rfl, ?_, ?_⟩
      · show 0 < if 1 > y1 then (1 : Int) else y1
        by_cases z : 1 > y1
        · rw [if_pos z]; omega
        · rw [if_neg z]; omega
      have la := lkF_len y2 y1 (y2.kvs.take i) ⟨[]⟩
      have lu : us.length = (acc i).kvs.length := Paired.length pa
      refine ⟨us, .inl y2.kvs[i].1, rfl, upd_same, ?_, ?_⟩
      · have : (acc i).kvs.length ≤ i := by
          have l0 : (y2.kvs.take i).length ≤ i := by rw [List.length_take]; omega
          show ((y2.kvs.take i).foldl (lkF y2 y1) ⟨[]⟩).kvs.length ≤ i
          have : ((⟨[]⟩ : DI Int)).kvs.length = 0 := rfl
          omega
        exact Nat.lt_of_lt_of_le (show us.length < 100000 by omega) (by decide)
      · refine ⟨by omega, _, upd_upd, ?_⟩
        have e5 : acc (i + 1) = (acc i).set y2.kvs[i].1 (y % (if 1 > y1 then 1 else y1)) := by
          show (y2.kvs.take (i + 1)).foldl _ _ = _
          rw [List.take_succ_eq_append_getElem hi2, List.foldl_append]
          show lkF y2 y1 (acc i) y2.kvs[i] = _
          unfold lkF
          rw [show y2.get y2.kvs[i].1 = some y from hy]
          rfl
        rw [e5]
        refine di_put ?_ pa
        rfl
end
end Rm
namespace Rm
open PySem PySem.Spec PyProof.Rows L2 Rg LiI
open Enc (rel)
open Cell (cel)
open Slot (srel)
open Slots (srels)
/-! ### list(d.values()) -/
def tListVals (te : TE) : TE := fun σ H Q => te σ H fun x H1 => ∃ (d : Addr) (kvs : List (Key × V)), x = .ref d ∧ H1 d = some (.dK kvs) ∧ ∀ p, H1 p = none → Q (.ref p) (upd H1 p (.lst (kvs.map (·.2))))
theorem vals_of_items : ∀ {kvs : List (Key × V)} {vs : List (Key × Value)} {us : List Value}, KV kvs vs → us.length = vs.length → (∀ (i : Nat) (k : Key) (v : Value), vs[i]? = some (k, v) → us[i]? = some v) → Vals (kvs.map (·.2)) us
  | _, _, [], .nil, _, _ => .nil
  | _, _, u :: us, .nil, h, _ => by simp at h
  | _, _, [], .cons _ _, h, _ => by simp at h
  | _, _, u :: us, .cons (a := a) (b := b) r t, h, g => by
    have e := g 0 b.1 b.2 rfl
    simp at e
    subst e
    exact .cons r.2 (vals_of_items t (by simpa using h) fun i k v q => by have := g (i + 1) k v (by simpa using q); simpa using this)
section
variable {X : L2.Cx} {e : Expr} {te : TE} {p apos cpos pos : PySem.Pos}
theorem pe_listVals (hc : X.calm = true) (he : PE X e te) (hg : Gl X "list") (hm : X.mg "list" = none) (hv : bootBuiltins "list" = some (.type "list")) (hbase : attributeBase e "values" X.env (eval e X.env) = eval e X.env := by rfl) (hline : (apos.endLine == cpos.line) = true := by rfl)
    (hs : starEach [.Call (.Attribute e "values" apos) [] [] cpos] X.env = (false, eval (.Call (.Attribute e "values" apos) [] [] cpos) X.env) :: starEach [] X.env := by rfl) :
    PE X (.Call (.Name "list" p) [.Call (.Attribute e "values" apos) [] [] cpos] [] pos) (tListVals te) := by
  refine ⟨fun pins s σ H Q I hq => ?_⟩
  refine wpAny_Call_Name_kw (ld_blt I hg hm hv ?_)
  refine PyProof.Rows.callWith_type1 ?_ hs rfl
  rw [hs]
  show wpAny _ _ (spliced ((false, eval (.Call (.Attribute e "values" apos) [] [] cpos) X.env) :: backTo pos (starEach [] X.env))) _ _ s
  refine Calls.spliced_cons ?_
  refine wpAny_Call_method (T := "dict") (id := "dict.values") hbase rfl hline F.plainAttrs_dict F.slot_dict_values F.type_dict_values (thn (he.run pins s σ H _ I hq) fun u s1 ⟨x, H1, I1, rx, d, kvs, ex, hd, q⟩ => ?_)
  subst ex
  obtain rfl : u = Value.ref d := rx
  obtain ⟨hz, hs0, vs, kv, hdo⟩ := I1.hok d _ hd
  obtain ⟨es, ep, hraw, hsz, hat⟩ := Heap.DictOf.raw hdo
  have lk : kvs.length = vs.length := Paired.length kv
  have I2 : Inv X pins σ H1 { s1 with heap := s1.heap.push { cls := .type "dict_values", data := .fields #[.ref d] } } := I1.kept (t' := s1.toks) fun b ob q => Heap.get?_push_of_some _ q
  refine ⟨hdo.typeIs, hdo.mapOf.noDict, ?_⟩
  show wpAny _ _ (callWith cpos (.builtin "dict.values") [.ref d] [] []) _ X.xe s1
  refine method_meetsIn F.slot_dict_values F.entry_dict_values rfl (PySem.evalArgs_none ⟨rfl, hdo.typeIs, F.args_dict_values_1 _, _, meets_dict_values (mixKind X.prog X.w) d hs0, ⟨vs, hdo⟩, ?_⟩)
  refine Calls.spliced_nil ?_
  refine PySem.W.kdl_call (KdlSrc.rawValues (r := s1.heap.objs.size) (d := d) (es := es) (ep := ep)) (I1.ok.hd hc) ⟨⟨_, Heap.get?_push_size _ rfl, rfl, rfl⟩, hraw.push _⟩ (by omega) fun h' tk acc c' kp hS hacc => ?_
  have rv : Vals (kvs.map (·.2)) acc.toList := by
    refine vals_of_items kv (by rw [Array.length_toList, hacc.1]; omega) fun i k v hi => ?_
    have h1 : i < es.size := by
      have := (List.getElem?_eq_some_iff.mp hi).1
      omega
    have h2 := (hat i h1 k v hi).2
    have h3 : i < acc.size := by rw [hacc.1]; exact h1
    have h4 := hacc.2 i acc[i] (Array.getElem?_eq_getElem h3)
    obtain ⟨_, h5⟩ := h4
    rw [Array.getElem?_toList, Array.getElem?_eq_getElem h3, h5, h2]
  have J := I2.laid (t' := tk) kp (Nat.le_refl _) (show ObjOk X.prog X.w _ h' _ (.lst (kvs.map (·.2))) from ⟨by rw [List.length_map]; omega, acc.toList, c', rv, by rw [Array.toArray_toList]; exact hS⟩)
  exact ⟨.ref _, _, J, rfl, q _ (I2.hok.fresh (Nat.le_refl _))⟩
end
end Rm
namespace Rm
open PySem PySem.Spec PyProof.Rows L2 Rg
open Enc (rel)
open Cell (cel)
open Slot (srel)
open Slots (srels)
/-! ### a variable's own dict of own lists of ints: found.setdefault(k, []).append(x), list(found.values()) -/
inductive DlR (good : Addr → Prop) (H : Hp) : List (Key × V) → List (Int × List Int) → List Addr → Prop
  | nil : DlR good H [] [] []
  | cons {n : Int} {xs : List Int} {b : Addr} {kvs : List (Key × V)} {x : List (Int × List Int)} {as : List Addr} : good b → H b = some (.lst (xs.map V.int)) → DlR good H kvs x as → DlR good H ((.inl n, .ref b) :: kvs) ((n, xs) :: x) (b :: as)
theorem DlR.grow {good good' : Addr → Prop} {H H' : Hp} {kvs : List (Key × V)} {x : List (Int × List Int)} {as : List Addr} (h : DlR good H kvs x as) (k : ∀ b ∈ as, good b → H b ≠ none → good' b ∧ H' b = H b) : DlR good' H' kvs x as := by
  induction h with
  | nil => exact .nil
  | cons g e t ih =>
    obtain ⟨z1, z2⟩ := k _ (List.mem_cons_self ..) g (by rw [e]; simp)
    exact .cons z1 (by rw [z2]; exact e) (ih fun b hb => k b (List.mem_cons_of_mem _ hb))
theorem DlR.len {good : Addr → Prop} {H : Hp} {kvs : List (Key × V)} {x : List (Int × List Int)} {as : List Addr} (h : DlR good H kvs x as) : kvs.length = x.length := by
  induction h with
  | nil => rfl
  | cons _ _ _ ih => rw [List.length_cons, List.length_cons, ih]
theorem DlR.at {good : Addr → Prop} {H : Hp} {kvs : List (Key × V)} {x : List (Int × List Int)} {as : List Addr} (h : DlR good H kvs x as) : ∀ b ∈ as, good b ∧ H b ≠ none := by
  induction h with
  | nil => intro b hb; cases hb
  | cons g e t ih =>
    intro b hb
    rcases List.mem_cons.mp hb with rfl | hb
    · exact ⟨g, by rw [e]; simp⟩
    · exact ih b hb
inductive Dl | no | mine (x : List (Int × List Int))
instance : Slot Dl := ⟨fun K P own F H i ov x => match x with
    | .no => True
    | .mine x => ∃ a kvs as, ov = some (.ref a) ∧ (own a = some i ∧ P false a ∧ F a = none) ∧ H a = some (.dK kvs) ∧ (a :: as).Nodup ∧ DlR (fun b => own b = some i ∧ P false b ∧ F b = none) H kvs x as,
  fun {K P own own' F H F' H' L i ov x} h s l => match x, h with
  | .no, h => trivial
  | .mine x, ⟨a, kvs, as, e, ⟨w, p, f⟩, g, nd, r⟩ => by
    obtain ⟨w', f', g'⟩ := s.ow i a l w f (by rw [g]; simp)
    refine ⟨a, kvs, as, e, ⟨w', p, f'⟩, by rw [g']; exact g, nd, r.grow fun b _ ⟨w1, p1, f1⟩ hn => ?_⟩
    obtain ⟨w2, f2, g2⟩ := s.ow i b l w1 f1 hn
    exact ⟨⟨w2, p1, f2⟩, g2⟩⟩
def dlAdd : List (Int × List Int) → Int → Int → List (Int × List Int)
  | [], n, v => [(n, [v])]
  | (k, xs) :: r, n, v => if k = n then (k, xs ++ [v]) :: r else (k, xs) :: dlAdd r n v
section
variable {K : PySem.W.Frag} {d : Addr → Prop} {F0 H0 : Hp} {S : Type} [Slots S] {Z : Hp} {s : S} {σ : L2.St} {F H : Hp}
theorem Cx.newDl {k : Nat} (c : Cx K d F0 H0 Z s σ F H) (p : Pos S Dl k) {a : Addr} (ha : H a = none) : Cx K d F0 H0 Z (p.put s (.mine [])) (σ.set k (some (.ref a))) F (upd H a (.dK [])) := by
  obtain ⟨g, dn, own, w1, w2, sl⟩ := c
  have fa : F a = none := g.fh.free ha
  have h0 : H0 a = none := by
    cases q : H0 a with
    | none => rfl
    | some z => exact absurd ha (g.dm a (by rw [q]; simp))
  have ne : ∀ b, H b ≠ none → b ≠ a := fun b n z => n (by rw [z]; exact ha)
  refine ⟨⟨g.ff, fun b u q => ?_, fun b u n q => ?_, g.fr, fun b n => ?_⟩, dn, (fun b => if b = a then some k else own b), fun b j q => ?_, fun b u q => ?_, ?_⟩
  · rw [upd_ne (fun z => by subst z; rw [fa] at q; cases q)]
    exact g.fh b u q
  · rw [upd_ne (fun z => by subst z; rw [h0] at q; cases q)]
    exact g.hh b u n q
  · rw [upd_ne (ne b (g.dm b n))]
    exact g.dm b n
  · by_cases h : b = a
    · subst h; rw [upd_same]; simp
    · rw [upd_ne h]
      simp [h] at q
      exact w1 b j q
  · obtain ⟨q1, q2, q3, q4⟩ := w2 b u q
    have n : b ≠ a := ne_of_none q1 ha
    rw [upd_ne n]
    exact ⟨q1, q2, by simp [n, q3], q4⟩
  · refine p.wr (own' := fun b => if b = a then some k else own b) sl ⟨Same.refl _, fun j b l q f n => ?_⟩ ⟨a, [], [], rfl, ⟨by simp, h0, fa⟩, upd_same, by simp, .nil⟩
    have z := ne b n
    exact ⟨by simp [z, q], f, upd_ne z⟩
theorem Cx.dlAt {k : Nat} (c : Cx K d F0 H0 Z s σ F H) (p : Pos S Dl k) {x : List (Int × List Int)} (e : p.get s = .mine x) : ∃ a kvs, σ[k]? = some (some (.ref a)) ∧ H a = some (.dK kvs) ∧ kvs.length = x.length := by
  obtain ⟨g, dn, own, w1, w2, sl⟩ := c
  obtain ⟨ov, h1, h2⟩ := p.rd sl
  rw [e] at h2
  obtain ⟨a, kvs, as, rfl, w, ha, nd, r⟩ := h2
  exact ⟨a, kvs, h1, ha, r.len⟩
theorem dl_there {good : Addr → Prop} {n v : Int} : ∀ {H : Hp} {kvs : List (Key × V)} {x : List (Int × List Int)} {as : List Addr}, DlR good H kvs x as → as.Nodup →
    (valV kvs (Sum.inl n) = none ∧ (∀ q ∈ kvs, q.1 ≠ Sum.inl n) ∧ dlAdd x n v = x ++ [(n, [v])]) ∨
    ∃ b xs, valV kvs (Sum.inl n) = some (.ref b) ∧ b ∈ as ∧ H b = some (.lst (xs.map V.int)) ∧ (n, xs) ∈ x ∧ DlR good (upd H b (.lst ((xs ++ [v]).map V.int))) kvs (dlAdd x n v) as
  | _, _, _, _, .nil, _ => .inl ⟨rfl, fun q h => (by cases h), rfl⟩
  | H, _, _, _, .cons (n := m) (xs := xs) (b := b) (kvs := kvs) (x := x) (as := as) g e t, nd => by
    have nd := List.nodup_cons.mp nd
    by_cases h : m = n
    · subst h
      refine .inr ⟨b, xs, ?_, List.mem_cons_self .., e, List.mem_cons_self .., ?_⟩
      · unfold valV
        rw [List.find?_cons_of_pos (by simp)]
        rfl
      · unfold dlAdd
        rw [if_pos rfl]
        exact .cons g upd_same (t.grow fun c hc gc _ => ⟨gc, upd_ne (fun z => nd.1 (z ▸ hc))⟩)
    · have hv : valV ((Sum.inl m, V.ref b) :: kvs) (Sum.inl n) = valV kvs (Sum.inl n) := by
        unfold valV
        rw [List.find?_cons_of_neg (by simp [h])]
      rcases dl_there (n := n) (v := v) t nd.2 with ⟨h1, h2, h3⟩ | ⟨b', xs', h1, h2, h3, h4, h5⟩
      · refine .inl ⟨by rw [hv]; exact h1, fun q hq => ?_, ?_⟩
        · rcases List.mem_cons.mp hq with rfl | hq
          · intro z; exact h (Sum.inl.inj z)
          · exact h2 q hq
        · show (if m = n then _ else _) = _
          rw [if_neg h, h3]; rfl
      · refine .inr ⟨b', xs', by rw [hv]; exact h1, List.mem_cons_of_mem _ h2, h3, List.mem_cons_of_mem _ h4, ?_⟩
        show DlR _ _ _ (if m = n then _ else _) _
        rw [if_neg h]
        have nb : b ≠ b' := fun z => nd.1 (z ▸ h2)
        exact .cons g (by rw [upd_ne nb]; exact e) h5
theorem DlR.app {good : Addr → Prop} {H : Hp} {kvs : List (Key × V)} {x : List (Int × List Int)} {as : List Addr} {n : Int} {b : Addr} {xs : List Int} (h : DlR good H kvs x as) (g : good b) (e : H b = some (.lst (xs.map V.int))) : DlR good H (kvs ++ [(.inl n, .ref b)]) (x ++ [(n, xs)]) (as ++ [b]) := by
  induction h with
  | nil => exact .cons g e .nil
  | cons g' e' t ih => exact .cons g' e' ih
variable {ρ : Type} {RT : S → Hp → VK → ρ → Prop} [RTm RT]
theorem js_dlnew {k : Nat} (p : Pos S Dl k) : JS K d F0 H0 S RT (tAsg tDNewK (gName k)) (fun s => some (.nx (p.put s (.mine [])))) := by
  intro s σ F H c f e D q
  cases e
  exact r_asg fun a ha => r_name (q _ F _ (c.newDl p ha) (Same.refl _))
def dlM {S ρ : Type} [Slots S] {k i j : Nat} (p : Pos S Dl k) (pn : Pos S (Dt Int) i) (pv : Pos S (Dt Int) j) : MS S ρ := fun s => match p.get s, pn.get s, pv.get s with
  | .mine x, .is n, .is v => if x.length < 100000 ∧ (x.all fun q => decide (q.2.length < 100000)) = true then some (.nx (p.put s (.mine (dlAdd x n v)))) else none
  | _, _, _ => none
theorem Cx.dt {k : Nat} (c : Cx K d F0 H0 Z s σ F H) (p : Pos S (Dt Int) k) {x : Int} (e : p.get s = .is x) : σ[k]? = some (some (.int x)) := by
  obtain ⟨g, dn, own, w1, w2, sl⟩ := c
  obtain ⟨ov, q1, q2⟩ := p.rd sl
  rw [e] at q2
  obtain ⟨v, rfl, r⟩ := q2
  cases r
  exact q1
theorem js_dlapp {k i j : Nat} (p : Pos S Dl k) (pn : Pos S (Dt Int) i) (pv : Pos S (Dt Int) j) : JS K d F0 H0 S RT (tDrop (tBM K "list" rAppend (tDSetd (tVar k) (tVar i) (tLst tNil)) (tCons (tVar j) tNil))) (dlM p pn pv) := by
  intro s σ F H c f e D q
  unfold dlM at e
  cases e0 : p.get s with
  | no => rw [e0] at e; cases e
  | mine x =>
  cases e1 : pn.get s with
  | no => rw [e0, e1] at e; cases e
  | «is» n =>
  cases e2 : pv.get s with
  | no => rw [e0, e1, e2] at e; cases e
  | «is» v =>
  rw [e0, e1, e2] at e
  simp only at e
  obtain ⟨⟨hl, hl2⟩, rfl⟩ := ite_some e
  have t1 := c.dt pn e1
  have t2 := c.dt pv e2
  obtain ⟨g, dn, own, w1, w2, sl⟩ := c
  obtain ⟨ov, h1, h2⟩ := p.rd sl
  rw [e0] at h2
  obtain ⟨a, kvs, as, rfl, ⟨w, pa, fa⟩, ha, nd, r⟩ := h2
  have pa : H0 a = none := pa
  have hk : kvs.length = x.length := r.len
  have ndc := List.nodup_cons.mp nd
  have gd : ∀ b, b = a ∨ b ∈ as → own b = some (0 + k) ∧ H0 b = none ∧ F b = none ∧ H b ≠ none := fun b hb => by
    rcases hb with rfl | hb
    · exact ⟨w, pa, fa, by rw [ha]; simp⟩
    · obtain ⟨⟨z1, z2, z3⟩, z4⟩ := r.at b hb
      exact ⟨z1, z2, z3, z4⟩
  refine r_drop (r_bm ⟨.ref a, h1, a, rfl, .inl ⟨kvs, .inl ha⟩, ⟨_, t1, r_lst (r_nil ⟨by decide, fun b hb => ?_⟩)⟩⟩)
  have nb : a ≠ b := fun z => by subst z; rw [ha] at hb; cases hb
  have ha' : upd H b (.lst []) a = some (.dK kvs) := by rw [upd_ne nb]; exact ha
  have nab : b ∉ as := fun z => (gd b (.inr z)).2.2.2 hb
  have fb : F b = none := g.fh.free hb
  have b0 : H0 b = none := by
    cases q : H0 b with
    | none => rfl
    | some z => exact absurd hb (g.dm b (by rw [q]; simp))
  have ob : own b = none := by
    cases q : own b with
    | none => rfl
    | some j => exact absurd hb (w1 b j q)
  have ne : ∀ c, H c ≠ none → c ≠ b := fun c n z => n (by rw [z]; exact hb)
  refine ⟨kvs, .inl n, ha', rfl, ?_, fun w' hw' => ?_, fun hw' => ?_⟩
  · exact Nat.lt_of_lt_of_le (by rw [hk]; exact hl) (by decide)
  · -- the key is there
    rcases dl_there (n := n) (v := v) r ndc.2 with ⟨z1, _⟩ | ⟨b', xs, z1, z2, z3, z4, z5⟩
    · rw [z1] at hw'; cases hw'
    · rw [z1] at hw'
      cases hw'
      obtain ⟨o1, o2, o3, o4⟩ := gd b' (.inr z2)
      have nb' : b' ≠ b := ne b' o4
      have na' : b' ≠ a := fun z => ndc.1 (z ▸ z2)
      have hb' : upd H b (.lst []) b' = some (.lst (xs.map V.int)) := by rw [upd_ne nb']; exact z3
      refine ⟨.inl ⟨rfl, _, sqe hb'⟩, r_cons ⟨_, t2, r_nil ⟨b', xs.map V.int, .int v, rfl, rfl, hb', ?_, ?_⟩⟩⟩
      · have := (List.all_eq_true.mp hl2) _ z4
        rw [List.length_map]
        exact Nat.lt_of_lt_of_le (of_decide_eq_true this) (by decide)
      · have e9 : xs.map V.int ++ [V.int v] = (xs ++ [v]).map V.int := by simp
        rw [e9]
        refine q _ F _ ?_ (Same.refl _)
        refine ⟨⟨g.ff, fun c u z => ?_, fun c u n z => ?_, g.fr, fun c n => ?_⟩, dn, own, fun c j z => ?_, fun c u z => ?_, ?_⟩
        · have hc := g.fh c u z
          rw [upd_ne (fun y => by subst y; rw [o3] at z; cases z), upd_ne (ne c (by rw [hc]; simp))]
          exact hc
        · have hc := g.hh c u n z
          rw [upd_ne (fun y => by subst y; rw [o2] at z; cases z), upd_ne (ne c (by rw [hc]; simp))]
          exact hc
        · by_cases y : c = b'
          · subst y; rw [upd_same]; simp
          · have := g.dm c n
            rw [upd_ne y, upd_ne (ne c this)]
            exact this
        · by_cases y : c = b'
          · subst y; rw [upd_same]; simp
          · have := w1 c j z
            rw [upd_ne y, upd_ne (ne c this)]
            exact this
        · obtain ⟨q1, q2, q3, q4⟩ := w2 c u z
          rw [upd_ne (fun y => by subst y; rw [o1] at q3; cases q3), upd_ne (ne c (by rw [q1]; simp))]
          exact ⟨q1, q2, q3, q4⟩
        · have rr := p.wr (own' := own) (F' := F) (H' := upd (upd H b (.lst [])) b' (.lst ((xs ++ [v]).map V.int))) (ov := some (.ref a)) (x := Dl.mine (dlAdd x n v)) sl ⟨Same.refl _, fun j c l z f nn => ⟨z, f, ?_⟩⟩ ⟨a, kvs, as, rfl, ⟨w, pa, fa⟩, by rw [upd_ne na'.symm]; exact ha', nd, ?_⟩
          · rw [set_same h1] at rr
            exact rr
          · rw [upd_ne (fun y => by subst y; rw [o1] at z; exact l (Option.some.inj z).symm), upd_ne (ne c nn)]
          · refine z5.grow fun c hc gc hn => ⟨gc, ?_⟩
            by_cases y : c = b'
            · subst y; rw [upd_same, upd_same]
            · rw [upd_ne y, upd_ne y, upd_ne (fun (y2 : c = b) => nab (by rw [← y2]; exact hc))]
  · -- a new key
    rcases dl_there (n := n) (v := v) r ndc.2 with ⟨z1, z2, z3⟩ | ⟨b', xs, z1, _⟩
    · have hb' : upd (upd H b (.lst [])) a (.dK (putK kvs (.inl n) (.ref b))) b = some (.lst []) := by rw [upd_ne nb.symm, upd_same]
      refine ⟨.inl ⟨rfl, _, sqe hb'⟩, r_cons ⟨_, t2, r_nil ⟨b, [], .int v, rfl, rfl, hb', by decide, ?_⟩⟩⟩
      have e9 : ([] : List V) ++ [V.int v] = ([v] : List Int).map V.int := rfl
      rw [e9]
      have ep : putK kvs (.inl n) (.ref b) = kvs ++ [(.inl n, .ref b)] := by
        unfold putK
        rw [if_neg]
        intro z
        obtain ⟨q, hq, hz⟩ := List.any_eq_true.mp z
        exact z2 q hq (of_decide_eq_true hz)
      rw [ep]
      refine q _ F _ ?_ (Same.refl _)
      refine ⟨⟨g.ff, fun c u z => ?_, fun c u n z => ?_, g.fr, fun c n => ?_⟩, dn, (fun c => if c = b then some k else own c), fun c j z => ?_, fun c u z => ?_, ?_⟩
      · have hc := g.fh c u z
        have n1 := ne c (by rw [hc]; simp)
        rw [upd_ne n1, upd_ne (fun y => by subst y; rw [fa] at z; cases z), upd_ne n1]
        exact hc
      · have hc := g.hh c u n z
        have n1 := ne c (by rw [hc]; simp)
        rw [upd_ne n1, upd_ne (fun y => by subst y; rw [pa] at z; cases z), upd_ne n1]
        exact hc
      · have hc := g.dm c n
        have n1 := ne c hc
        rw [upd_ne n1]
        by_cases y : c = a
        · subst y; rw [upd_same]; simp
        · rw [upd_ne y, upd_ne n1]; exact hc
      · by_cases y : c = b
        · subst y; rw [upd_same]; simp
        · simp [y] at z
          have hc := w1 c j z
          rw [upd_ne y]
          by_cases y2 : c = a
          · subst y2; rw [upd_same]; simp
          · rw [upd_ne y2, upd_ne y]; exact hc
      · obtain ⟨q1, q2, q3, q4⟩ := w2 c u z
        have n1 := ne c (by rw [q1]; simp)
        rw [upd_ne n1, upd_ne (fun y => by subst y; rw [w] at q3; cases q3), upd_ne n1]
        exact ⟨q1, q2, by simp [n1, q3], q4⟩
      · have rr := p.wr (own' := fun c => if c = b then some k else own c) (F' := F) (H' := upd (upd (upd H b (.lst [])) a (.dK (kvs ++ [(.inl n, .ref b)]))) b (.lst ([v].map V.int))) (ov := some (.ref a)) (x := Dl.mine (dlAdd x n v)) sl ⟨Same.refl _, fun j c l z f nn => ⟨?_, f, ?_⟩⟩ ⟨a, kvs ++ [(.inl n, .ref b)], as ++ [b], rfl, ⟨by simp [nb, w], pa, fa⟩, by rw [upd_ne nb, upd_same], ?_, ?_⟩
        · rw [set_same h1] at rr
          exact rr
        · simp [ne c nn, z]
        · have n1 := ne c nn
          rw [upd_ne n1, upd_ne (fun y => by subst y; rw [w] at z; exact l (Option.some.inj z).symm), upd_ne n1]
        · have : (a :: as ++ [b]).Nodup := by
            rw [List.nodup_append]
            refine ⟨nd, by simp, fun u hu w' hw' => ?_⟩
            rw [List.mem_singleton] at hw'
            subst hw'
            rcases List.mem_cons.mp hu with rfl | hu
            · exact nb
            · exact fun y => nab (y ▸ hu)
          exact this
        · rw [z3]
          refine DlR.app (r.grow fun c hc gc hn => ?_) ⟨by simp, b0, fb⟩ upd_same
          have n1 := ne c hn
          refine ⟨⟨by simp [n1, gc.1], gc.2⟩, ?_⟩
          rw [upd_ne n1, upd_ne (fun (y : c = a) => ndc.1 (by rw [← y]; exact hc)), upd_ne n1]
    · rw [z1] at hw'; cases hw'
/-- list(found.values()): the lists are given away -/
theorem Cx.dlGive {k : Nat} (c : Cx K d F0 H0 Z s σ F H) (p : Pos S Dl k) {x : List (Int × List Int)} (e : p.get s = .mine x) :
    ∃ a kvs F', σ[k]? = some (some (.ref a)) ∧ H a = some (.dK kvs) ∧ Same F F' ∧ Paired (rel K F') (kvs.map (·.2)) (x.map (·.2)) ∧ Cx K d F0 H0 Z (p.put s .no) σ F' H := by
  obtain ⟨g, dn, own, w1, w2, sl⟩ := c
  obtain ⟨ov, h1, h2⟩ := p.rd sl
  rw [e] at h2
  obtain ⟨a, kvs, as, rfl, ⟨w, pa, fa⟩, ha, nd, r⟩ := h2
  have gd : ∀ b ∈ as, own b = some (0 + k) ∧ H0 b = none ∧ F b = none ∧ H b ≠ none := fun b hb => by
    obtain ⟨⟨z1, z2, z3⟩, z4⟩ := r.at b hb
    exact ⟨z1, z2, z3, z4⟩
  let F' : Hp := fun b => if b ∈ as then H b else F b
  have sf : Same F F' := fun b u q => by
    show (if b ∈ as then H b else F b) = some u
    by_cases h : b ∈ as
    · rw [(gd b h).2.2.1] at q; cases q
    · rw [if_neg h]; exact q
  refine ⟨a, kvs, F', h1, ha, sf, ?_, ⟨g.ff.trans sf, fun b u q => ?_, g.hh, fun b q n => ?_, g.dm⟩, dn, own, w1, fun b u q => ?_, ?_⟩
  · have gen : ∀ {kvs : List (Key × V)} {x : List (Int × List Int)} {bs : List Addr}, DlR (fun b => own b = some (0 + k) ∧ kind d H0 false b ∧ F b = none) H kvs x bs → (∀ b ∈ bs, b ∈ as) → Paired (rel K F') (kvs.map (·.2)) (x.map (·.2)) := by
      intro kvs x bs r
      induction r with
      | nil => intro _; exact .nil
      | cons g e t ih =>
        intro hs
        refine .cons ?_ (ih fun b hb => hs b (List.mem_cons_of_mem _ hb))
        have hb := hs _ (List.mem_cons_self ..)
        refine ⟨_, _, rfl, .inl (.inl ?_), Paired.ofmap (R := rel K F') (f := V.int) (fun _ => rfl) _⟩
        show (if _ ∈ as then _ else _) = _
        rw [if_pos hb]
        exact e
    exact gen r fun b hb => hb
  · have q : (if b ∈ as then H b else F b) = some u := q
    by_cases h : b ∈ as
    · rw [if_pos h] at q; exact q
    · rw [if_neg h] at q; exact g.fh b u q
  · show (if b ∈ as then H b else F b) = none
    have h : b ∉ as := fun h => by have := (gd b h).2.1; exact n this
    rw [if_neg h]
    exact g.fr b q n
  · obtain ⟨q1, q2, q3, q4⟩ := w2 b u q
    refine ⟨q1, ?_, q3, q4⟩
    show (if b ∈ as then H b else F b) = none
    have h : b ∉ as := fun h => by have := (gd b h).1; rw [q3] at this; cases this
    rw [if_neg h]; exact q2
  · have rr := p.wr (own' := own) (F' := F') (H' := H) (ov := some (.ref a)) (x := Dl.no) sl ⟨sf, fun j b l q f n => ⟨q, ?_, rfl⟩⟩ trivial
    · rw [set_same h1] at rr
      exact rr
    · show (if b ∈ as then H b else F b) = none
      have h : b ∉ as := fun h => by have := (gd b h).1; rw [q] at this; exact l (Option.some.inj this)
      rw [if_neg h]; exact f
def dlV {S : Type} [Slots S] {k : Nat} (p : Pos S Dl k) : M S (List (List Int)) := fun s => match p.get s with | .mine x => some (x.map (·.2), p.put s .no) | .no => none
theorem jf_dlvals {k : Nat} (p : Pos S Dl k) : JF K d F0 H0 S (tListVals (tVar k)) (dlV p) := by
  intro Z s σ F H c ys s' e Q q
  unfold dlV at e
  cases e0 : p.get s with
  | no => rw [e0] at e; cases e
  | mine x =>
    rw [e0] at e
    cases e
    obtain ⟨a, kvs, F', h1, ha, sf, pr, c'⟩ := c.dlGive p e0
    exact ⟨.ref a, h1, a, kvs, rfl, ha, fun p' hp => q _ p' F' H c' sf hp pr⟩
end
section
variable {S α β γ B ρ : Type} [Slots S] {s s' : S} {γ' δ' : Type} {Q : Option γ' → Option δ' → Prop} [BR Q]
theorem k_dlV {k : Nat} {p : Pos S Dl k} {x : List (Int × List Int)} {kf : List (List Int) × S → Option γ'} {o : Option δ'} (h : p.get s = .mine x) (h2 : p.put s .no = s') (K : Q (kf (x.map (·.2), s')) o) : Q ((dlV p s).bind kf) o := by
  have e : dlV p s = some (x.map (·.2), s') := by unfold dlV; rw [h, h2]
  rw [e]; exact K
theorem s_dln {k : Nat} {p : Pos S Dl k} {kf : Fl S ρ → Option γ'} {o : Option δ'} (h : p.put s (.mine []) = s') (K : Q (kf (.nx s')) o) : Q (((fun s => some (.nx (p.put s (.mine [])))) s : Option (Fl S ρ)).bind kf) o := by
  show Q (kf (.nx (p.put s (.mine [])))) o
  rw [h]; exact K
def dlOk (x : List (Int × List Int)) : Option Unit := if x.length < 100000 ∧ (x.all fun q => decide (q.2.length < 100000)) = true then some () else none
theorem s_dlapp {k i j : Nat} {p : Pos S Dl k} {pn : Pos S (Dt Int) i} {pv : Pos S (Dt Int) j} {x : List (Int × List Int)} {n v : Int} {kf : Fl S ρ → Option γ'} {o : Option δ'} (h : p.get s = .mine x) (h1 : pn.get s = .is n) (h2 : pv.get s = .is v)
    (K : Q ((dlOk x).bind fun _ => kf (.nx (p.put s (.mine (dlAdd x n v))))) o) : Q ((dlM (ρ := ρ) p pn pv s).bind kf) o := by
  have e : dlM (ρ := ρ) p pn pv s = (dlOk x).bind fun _ => some (.nx (p.put s (.mine (dlAdd x n v)))) := by
    unfold dlM dlOk
    rw [h, h1, h2]
    simp only
    split <;> rfl
  rw [e, Option.bind_assoc]
  exact K
end
/-! ### x in (a, b) -/
section
variable {K : PySem.W.Frag} {d : Addr → Prop} {F0 H0 : Hp} {S : Type} [Slots S]
theorem rj_in2 : RJ2 K d F0 H0 S (rIn K false) (fun (x : Int) (p : Int × Int) => some (inL [p.1, p.2] x)) := by
  intro Z s σ F H c v u x y z r1 r2 e Q q
  cases r1
  cases e
  obtain ⟨a, v1, v2, rfl, hs, e1, e2⟩ := r2
  cases e1
  cases e2
  refine ⟨a, _, rfl, .inr (SqT.same hs c.fh), rfl, rfl, ?_⟩
  show Q (.bl (inV (.int x) ([y.1, y.2].map V.int))) H
  rw [inV_ints]
  exact q _ _ _ c (Same.refl _) rfl
theorem rj_notIn2 : RJ2 K d F0 H0 S (rIn K true) (fun (x : Int) (p : Int × Int) => some (!inL [p.1, p.2] x)) := by
  intro Z s σ F H c v u x y z r1 r2 e Q q
  cases r1
  cases e
  obtain ⟨a, v1, v2, rfl, hs, e1, e2⟩ := r2
  cases e1
  cases e2
  refine ⟨a, _, rfl, .inr (SqT.same hs c.fh), rfl, rfl, ?_⟩
  show Q (.bl (!inV (.int x) ([y.1, y.2].map V.int))) H
  rw [inV_ints]
  exact q _ _ _ c (Same.refl _) rfl
end
/-! ### a list to which None is appended later -/
section
variable {K : PySem.W.Frag} {d : Addr → Prop} {F0 H0 : Hp} {S : Type} [Slots S]
theorem paired_some {α : Type} [Enc α] {F : Hp} : ∀ {vs : List V} {xs : List α}, Paired (rel K F) vs xs → Paired (rel K F) vs (xs.map some)
  | _, _, .nil => .nil
  | _, _, .cons a t => .cons a (paired_some t)
theorem jf_someL {α : Type} [Enc α] {t : TE} {m : M S (List α)} (h : JF K d F0 H0 S t m) : JF K d F0 H0 S t (op1 (fun x : List α => some (x.map some)) m) := by
  intro Z s σ F H c x s' e Q q
  obtain ⟨y1, s1, e1, e⟩ := bnd_some e
  obtain ⟨e3, rfl⟩ := lft_some e
  cases e3
  exact h _ _ _ _ _ c _ _ e1 _ fun vs p F1 H1 c1 q1 hp r1 => q _ _ _ _ c1 q1 hp (paired_some r1)
theorem j_someL {α : Type} [Enc α] {t : TE} {m : M S (List α)} (h : JE K d F0 H0 S t m) : JE K d F0 H0 S t (op1 (fun x : List α => some (x.map some)) m) := by
  intro Z s σ F H c x s' e Q q
  obtain ⟨y1, s1, e1, e⟩ := bnd_some e
  obtain ⟨e3, rfl⟩ := lft_some e
  cases e3
  refine h _ _ _ _ _ c _ _ e1 _ fun v F1 H1 c1 q1 r1 => q _ _ _ c1 q1 ?_
  obtain ⟨a, vs, rfl, hs, p⟩ := r1
  exact ⟨a, vs, rfl, hs, paired_some p⟩
end
/-! ### xs + .., where xs is read once more in what follows -/
section
variable {K : PySem.W.Frag} {d : Addr → Prop} {F0 H0 : Hp} {S : Type} [Slots S]
theorem jf_catO {α : Type} [Enc α] {k : Nat} (p : Pos S (Own (List α)) k) {t : TE} {m : M S (List α)} (h : JE K d F0 H0 S t m) : JF K d F0 H0 S (tOp (rCatR K) (tVar k) t) (ixO p m gCat) := by
  intro Z s σ F H c x s' e Q q
  obtain ⟨x0, i, y, e0, e1, e2, e3⟩ := ixO_some e
  obtain ⟨a, vs, h1, _, _⟩ := c.peek p e0
  refine r_op ⟨.ref a, h1, h _ _ _ _ _ c _ _ e1 _ fun w F' H' c' sf r => ?_⟩
  obtain ⟨kk, rfl⟩ := ite_some e3
  obtain ⟨a', ws, h1', ha, pr⟩ := c'.peek p e2
  rw [h1] at h1'
  cases h1'
  obtain ⟨b, us, rfl, ht, p2⟩ := r
  exact r_catR (sqe ha) (Same.seq c'.fh ht) (by rw [Paired.length pr, Paired.length p2]; exact kk) fun p hp => q _ _ _ _ c' sf hp (Paired.append pr p2)
end
/-! ### an item of a list of several kinds -/
section
variable {K : PySem.W.Frag} {d : Addr → Prop} {F0 H0 : Hp} {S : Type} [Slots S]
theorem j_hl0 {α A : Type} [Enc α] [EncA A] {ta : TE} {ma : M S (Hl (α × A))} (ha : JE K d F0 H0 S ta ma) : JE K d F0 H0 S (tOp (rIxL K) ta (tC (.int 0))) (op1 (fun p : Hl (α × A) => some p.it.1) ma) := by
  intro Z s σ F H c x s' e Q q
  obtain ⟨y1, s1, e1, e⟩ := bnd_some e
  obtain ⟨e3, rfl⟩ := lft_some e
  cases e3
  exact ha _ _ _ _ _ c _ _ e1 _ fun v F1 H1 c1 q1 ⟨a, vs, e, h, v1, ws, e2, r1, r2⟩ => by
    subst e e2
    exact r_ixL (Same.seq c1.fh h) (atI_nat (j := 0) rfl) (q _ _ _ c1 q1 r1)
theorem j_hl1 {α β A : Type} [Enc α] [Enc β] [EncA A] {ta : TE} {ma : M S (Hl (α × β × A))} (ha : JE K d F0 H0 S ta ma) : JE K d F0 H0 S (tOp (rIxL K) ta (tC (.int 1))) (op1 (fun p : Hl (α × β × A) => some p.it.2.1) ma) := by
  intro Z s σ F H c x s' e Q q
  obtain ⟨y1, s1, e1, e⟩ := bnd_some e
  obtain ⟨e3, rfl⟩ := lft_some e
  cases e3
  exact ha _ _ _ _ _ c _ _ e1 _ fun v F1 H1 c1 q1 ⟨a, vs, e, h, v1, ws, e2, r1, v2, us, e4, r2, r3⟩ => by
    subst e e2 e4
    exact r_ixL (Same.seq c1.fh h) (atI_nat (j := 1) rfl) (q _ _ _ c1 q1 r2)
end
end Rm
namespace Rg
open PySem PySem.Spec PyProof.Rows L2
/-! ### the least of pairs of an int and a list of ints -/
abbrev PL := Int × List Int
def plD (p : PL) : PyData := .tuple [.int p.1, .list (p.2.map .int)]
theorem plD_datum (p : PL) : PySem.W.Datum.toD p = plD p := rfl
theorem plD_inj {p q : PL} (h : plD p = plD q) : p = q := by
  unfold plD at h
  injection h with h
  injection h with h1 h2
  injection h2 with h2 _
  injection h1 with h1
  injection h2 with h2
  have : ∀ xs ys : List Int, xs.map PyData.int = ys.map PyData.int → xs = ys := by
    intro xs
    induction xs with
    | nil => intro ys e; cases ys with | nil => rfl | cons a b => simp at e
    | cons x xs ih =>
      intro ys e
      cases ys with
      | nil => simp at e
      | cons y ys =>
        rw [List.map_cons, List.map_cons] at e
        injection e with e1 e2
        injection e1 with e1
        rw [e1, ih ys e2]
  exact Prod.ext h1 (this _ _ h2)
theorem plD_lay (p : PL) : (plD p).canLay0 = true := by
  have : ∀ xs : List Int, PyData.canLayAll0 (xs.map PyData.int) = true := by
    intro xs
    induction xs with
    | nil => simp [PyData.canLayAll0]
    | cons x xs ih => simp [PyData.canLayAll0, PyData.canLay0, ih]
  unfold plD
  simp [PyData.canLay0, PyData.canLayAll0, this]
def rMinPL (K : PySem.W.Frag) : List V → Hp → VK → Prop := fun vs H Q => ∃ (a : Addr) (xs : List V) (y : PL) (ys : List PL), vs = [V.ref a] ∧ SqL K H a xs ∧ DpAll K H xs ((y :: ys).map plD) ∧
  ∀ (i : Nat) v, xs[i]? = some v → (y :: ys)[i]? = some (PySem.W.minOf y ys) → Q v H
section
variable {X : L2.Cx}
theorem cr_minPL (hc : X.calm = true) (hu : X.A.units + 64 < cLine) : CallR X (.builtin "min") (rMinPL X.K) := by
  intro pins s σ H vs us Q I r h
  obtain ⟨a, xs, y, ys, rfl, hs, pt, q⟩ := h
  obtain ⟨its, rv, pl, hz⟩ := I.list hs
  rw [Vals.ref1 r]
  have hl : s.heap.IsList a its.toArray := pl.isList
  have hh : PySem.W.HoldAll s.heap its (y :: ys) := by
    obtain ⟨as, hr⟩ := Dp.readsAll I _ _ _ pt rv
    exact ⟨as, hr⟩
  have dp : PySem.W.Datum.depth PL ≤ 8 := by decide
  refine PySem.W.min_list_datum (I.ok.hd hc) hl (x := y) (xs := ys) (by simpa using hh) (by omega) fun i v h' tk hv hm hk => ?_
  have hv : its[i]? = some v := by simpa using hv
  have lx : i < xs.length := by rw [rv.length]; exact (List.getElem?_eq_some_iff.mp hv).1
  obtain ⟨u, hu1, hr⟩ := Vals.get rv (List.getElem?_eq_getElem lx)
  rw [hv] at hu1
  cases hu1
  refine ⟨_, H, I.kept hk, hr, q i _ (List.getElem?_eq_getElem lx) ?_⟩
  have key : ∀ {l1 : List V} {l2 : List PyData} {i : Nat} {x : V}, DpAll X.K H l1 l2 → l1[i]? = some x → ∃ d, l2[i]? = some d ∧ Dp X.K H x d := by
    intro l1
    induction l1 with
    | nil => intro l2 i x _ e; simp at e
    | cons z l1 ih =>
      intro l2 i x p e
      cases p with
      | cons p1 p2 =>
        cases i with
        | zero => simp at e; subst e; exact ⟨_, rfl, p1⟩
        | succ i =>
          obtain ⟨d, e1, e2⟩ := ih p2 (by simpa using e)
          exact ⟨d, by simpa using e1, e2⟩
  obtain ⟨d, e1, hd⟩ := key pt (List.getElem?_eq_getElem lx)
  rw [List.getElem?_map] at e1
  obtain ⟨p, hp, rfl⟩ := Option.map_eq_some_iff.mp e1
  obtain ⟨as, rd⟩ := Dp.reads I _ _ _ hd hr
  obtain ⟨bs, rm⟩ := hm
  have rd2 := PyProof.Rows.Reads.keeps hk rd
  have e := PySem.SeqAt.Reads.unique _ _ _ _ _ (plD_lay p) rd2 rm
  rw [hp, plD_inj (q := PySem.W.minOf y ys) e]
end
end Rg
namespace Rm
open PySem PySem.Spec PyProof.Rows L2 Rg
open Enc (rel)
def minPL : List PL → Option PL
  | [] => none
  | y :: ys => some (PySem.W.minOf y ys)
section
variable {K : PySem.W.Frag} {d : Addr → Prop} {F0 H0 : Hp} {S : Type} [Slots S]
theorem rb_minPL : RB K d F0 H0 S (rMinPL K) (fun x : List (Int × List Int) × Unit => minPL x.1) := by
  intro Z s σ F H c vs x z r e Q q
  obtain ⟨v, ws, rfl, ⟨a, us, rfl, hs, p⟩, rfl⟩ := r
  have e : minPL x.1 = some z := e
  cases hx : x.1 with
  | nil => rw [hx] at e; cases e
  | cons y ys =>
    rw [hx] at e p
    cases e
    refine ⟨a, us, y, ys, rfl, Same.seq c.fh hs, DpAll.same c.fh (dpAll_of p), fun i v hv hi => ?_⟩
    obtain ⟨w, h1, h2⟩ := Paired.getL p hv
    rw [hi] at h1
    cases h1
    exact q _ _ _ c (Same.refl _) h2
end
/-- the least list of several -/
def ltL : List Int → List Int → Prop
  | [], [] => False
  | [], _ :: _ => True
  | _ :: _, [] => False
  | x :: xs, y :: ys => x < y ∨ (x = y ∧ ltL xs ys)
theorem lt_pl (p q : PL) : PySem.W.DatumOrd.lt p q = true ↔ p.1 < q.1 ∨ (p.1 = q.1 ∧ PySem.W.DatumOrd.lt p.2 q.2 = true) := by
  show (if p.1 = q.1 then PySem.W.DatumOrd.lt p.2 q.2 else decide (p.1 < q.1)) = true ↔ _
  split
  · rename_i h; simp [h]
  · rename_i h; simp [h]
end Rm
namespace Rm
open PySem PySem.Spec PyProof.Rows L2 Rg
open Enc (rel)
open Cell (cel)
open Slot (srel)
open Slots (srels)
/-! ### d, x = {k: v}, y -/
section
variable {K : PySem.W.Frag} {d : Addr → Prop} {F0 H0 : Hp} {S : Type} [Slots S] {ρ : Type} {RT : S → Hp → VK → ρ → Prop} [RTm RT]
theorem js_asg2KD {α β : Type} [Enc α] [Enc β] {i j : Nat} (p : Pos S (Own (DI α)) i) (p' : Pos S (Dt β) j) {tk tv tb : TE} {mk : M S Int} {mv : M S α} {n : M S β} (hk : JE K d F0 H0 S tk mk) (hv : JE K d F0 H0 S tv mv) (hb : JE K d F0 H0 S tb n) :
    JS K d F0 H0 S RT (tAsg (tTup (tCons (tDisp [(tk, tv)]) (tCons tb tNil))) (gTup K 2 (gCons (gName i) (gCons (gName j) gNil)))) (parOM (op2 (fun (k : Int) (v : α) => some (DI.mk [(k, v)])) mk mv) n (pOwnD p) (pName p')) := by
  intro s σ F H c f e D q
  obtain ⟨x, s1, e1, ea⟩ := bindS_some e
  obtain ⟨y, s2, e2, eb⟩ := bindS_some ea
  obtain ⟨k, s3, e3, e4⟩ := bnd_some e1
  obtain ⟨v, s4, e5, e6⟩ := bnd_some e4
  obtain ⟨e7, rfl⟩ := lft_some e6
  cases e7
  cases eb
  refine r_asg (r_tup (r_cons fun a ha => ?_))
  refine hk _ _ _ _ _ (c.junk ha (.dK [])) _ _ e3 _ fun u F1 H1 c1 q1 r1 => hv _ _ _ _ _ c1 _ _ e5 _ fun w F2 H2 c2 q2 r2 => ?_
  cases r1
  refine ⟨(c2.hz upd_same).1, [(.inl k, w)], rfl, by simp, ?_⟩
  have c3 := c2.held upd_same (.dK [(.inl k, w)])
  refine r_cons (hb _ _ _ _ _ c3 _ _ e2 _ fun z F3 H3 c4 q3 r3 => r_nil ⟨by show 2 ≤ sizeLine; decide, fun t ht => ?_⟩)
  have c5 := c4.drop ht (.tup [.ref a, z])
  have zc : upd (upd Z0 a (.dK [])) a (.dK [(.inl k, w)]) = upd Z0 a (.dK [(.inl k, w)]) := upd_upd
  rw [zc] at c5
  refine r_gtup (.inl (.inl upd_same)) rfl (r_gcons (r_name (r_gcons (r_name (r_gnil ?_)))))
  exact q _ F3 _ ((c5.ownHeld rfl p ⟨[(.inl k, w)], rfl, .cons ⟨rfl, Enc.mono q3 r2⟩ .nil⟩).set p' r3) (q1.trans (q2.trans q3))
end
/-! ### while, whose test wipes slots -/
section
variable {S ρ : Type} [Slots S] {s : S} {γ' δ' : Type} {Q : Option γ' → Option δ' → Prop} [BR Q]
theorem whileL_simJ {σ : Type} {R : S → σ → Prop} {c : M S Bool} {b : MS S ρ} {C : σ → Option Bool} {B : σ → Option σ} (hc : ∀ s z, R s z → QE (fun s' y (r : Bool) => R s' z ∧ y = r) ((c s).bind some) (C z)) (hb : ∀ s z, R s z → QN R (b s) (B z)) : ∀ (n : Nat) (s : S) (z : σ), R s z → QN R (whileL c b n s) (whileO C B n z)
  | 0, s, z, h => ⟨rfl⟩
  | n + 1, s, z, h => by
    have k := hc s z h
    rw [bnd_r] at k
    unfold whileL whileO
    cases eC : C z with
    | none => rw [eC] at k; have k : c s = none := k.p; rw [k]; exact ⟨rfl⟩
    | some v =>
      rw [eC] at k
      obtain ⟨y, s1, e1, h1, rfl⟩ := k
      rw [e1]
      have q := hb s1 z h1
      cases y with
      | false => exact ⟨s1, rfl, h1⟩
      | true =>
        simp only [Option.bind_some, if_true]
        cases e : B z with
        | none => rw [e] at q; have q : b s1 = none := q.p; rw [q]; exact ⟨rfl⟩
        | some z1 =>
          rw [e] at q
          obtain ⟨s2, q, r⟩ := q
          rw [q]
          exact whileL_simJ hc hb n s2 z1 r
theorem whileL_simRJ {σ ρ' : Type} {R : S → σ → Prop} {RR : S → ρ → ρ' → Prop} {c : M S Bool} {b : MS S ρ} {C : σ → Option Bool} {B : σ → Option (Re σ ρ')} (hc : ∀ s z, R s z → QE (fun s' y (r : Bool) => R s' z ∧ y = r) ((c s).bind some) (C z)) (hb : ∀ s z, R s z → QR R RR (b s) (B z)) : ∀ (n : Nat) (s : S) (z : σ), R s z → QR R RR (whileL c b n s) (whileR C B n z)
  | 0, s, z, h => ⟨rfl⟩
  | n + 1, s, z, h => by
    have k := hc s z h
    rw [bnd_r] at k
    unfold whileL whileR
    cases eC : C z with
    | none => rw [eC] at k; have k : c s = none := k.p; rw [k]; exact ⟨rfl⟩
    | some v =>
      rw [eC] at k
      obtain ⟨y, s1, e1, h1, rfl⟩ := k
      rw [e1]
      have q := hb s1 z h1
      cases y with
      | false => exact ⟨s1, rfl, h1⟩
      | true =>
        simp only [Option.bind_some, if_true]
        cases e : B z with
        | none => rw [e] at q; have q : b s1 = none := q.p; rw [q]; exact ⟨rfl⟩
        | some z1 => cases z1 with
          | nx z1 =>
            rw [e] at q
            obtain ⟨s2, q, r⟩ := q
            rw [q]
            exact whileL_simRJ hc hb n s2 z1 r
          | rt z1 =>
            rw [e] at q
            obtain ⟨s2, rr, q, r⟩ := q
            rw [q]
            exact ⟨s2, rr, rfl, r⟩
variable {kf : Fl S ρ → Option γ'}
theorem s_whNJ {σ : Type} {R : S → σ → Prop} {c : M S Bool} {b : MS S ρ} {C : σ → Option Bool} {B : σ → Option σ} {n : Nat} {z : σ} {o : σ → Option δ'} (hc : ∀ s z, R s z → QE (fun s' y (r : Bool) => R s' z ∧ y = r) ((c s).bind some) (C z)) (hb : ∀ s z, R s z → QN R (b s) (B z)) (h0 : R s z) (K : ∀ s' x, R s' x → Q (kf (.nx s')) (o x)) :
    Q ((whileL c b n s).bind kf) ((whileO C B n z).bnd o) := go_N (whileL_simJ hc hb n s z h0) K
theorem s_whRJ {σ ρ' : Type} {R : S → σ → Prop} {RR : S → ρ → ρ' → Prop} {c : M S Bool} {b : MS S ρ} {C : σ → Option Bool} {B : σ → Option (Re σ ρ')} {n : Nat} {z : σ} {o : Re σ ρ' → Option δ'} (hc : ∀ s z, R s z → QE (fun s' y (r : Bool) => R s' z ∧ y = r) ((c s).bind some) (C z)) (hb : ∀ s z, R s z → QR R RR (b s) (B z)) (h0 : R s z)
    (K : ∀ s' x, R s' x → Q (kf (.nx s')) (o (.nx x))) (K2 : ∀ s' r r', RR s' r r' → Q (kf (.rt r s')) (o (.rt r'))) :
    Q ((whileL c b n s).bind kf) ((whileR C B n z).bnd o) := go_R (whileL_simRJ hc hb n s z h0) K K2
end
end Rm
namespace Rm
open PySem PySem.Spec PyProof.Rows L2 Rg
open Enc (rel)
open Cell (cel)
open Slot (srel)
open Slots (srels)
/-! ### a variable that holds a whole number at first, then a list of its own -/
inductive Tw | i (x : Int) | l (xs : List Int)
instance : Cell Tw := ⟨fun K F o x => match x with | .i _ => False | .l xs => cel K F o xs, fun {K F F' o x} s h => match x, h with
  | .i _, h => h
  | .l _, h => Cell.mono s h⟩
instance : Frz Tw := ⟨fun K F v x => match x with | .i n => rel K F v n | .l xs => rel K F v xs, fun {K F F' v x} s h => match x, h with
  | .i _, h => Enc.mono s h
  | .l _, h => Enc.mono s h⟩
section
variable {K : PySem.W.Frag} {d : Addr → Prop} {F0 H0 : Hp} {S : Type} [Slots S] {Z : Hp} {s : S} {σ : L2.St} {F H : Hp} {k : Nat}
def pTwI (p : Pos S (Own Tw) k) : Int → S → Option S := fun x s => some (p.put s (.gone (.i x)))
def pTwL (p : Pos S (Own Tw) k) : List Int → S → Option S := fun x s => some (p.put s (.mine (.l x)))
def twI (p : Pos S (Own Tw) k) : M S Int := fun s => match p.get s with | .gone (.i x) => some (x, s) | _ => none
def rdw (p : Pos S (Own Tw) k) : M S (List Int) := fun s => match p.get s with | .mine (.l x) => some (x, s) | _ => none
def givW (p : Pos S (Own Tw) k) : M S (List Int) := fun s => match p.get s with | .mine (.l x) => some (x, p.put s (.gone (.l x))) | .gone (.l x) => some (x, s) | _ => none
theorem twI_some {p : Pos S (Own Tw) k} {s s' : S} {x : Int} (h : twI p s = some (x, s')) : p.get s = .gone (.i x) ∧ s' = s := by
  unfold twI at h
  cases e : p.get s with
  | no => rw [e] at h; cases h
  | mine y => rw [e] at h; cases h
  | gone y =>
    rw [e] at h
    cases y with
    | i y => cases h; exact ⟨rfl, rfl⟩
    | l y => cases h
theorem rdw_some {p : Pos S (Own Tw) k} {s s' : S} {x : List Int} (h : rdw p s = some (x, s')) : p.get s = .mine (.l x) ∧ s' = s := by
  unfold rdw at h
  cases e : p.get s with
  | no => rw [e] at h; cases h
  | mine y =>
    rw [e] at h
    cases y with
    | i y => cases h
    | l y => cases h; exact ⟨rfl, rfl⟩
  | gone y => rw [e] at h; cases h
theorem Cx.setW (c : Cx K d F0 H0 Z s σ F H) (p : Pos S (Own Tw) k) {v : V} {x : Int} (r : rel K F v x) : Cx K d F0 H0 Z (p.put s (.gone (.i x))) (σ.set k (some v)) F H := by
  obtain ⟨g, dn, own, w1, w2, sl⟩ := c
  exact ⟨g, dn, own, w1, w2, p.wr sl ⟨Same.refl _, fun j b l q f n => ⟨q, f, rfl⟩⟩ ⟨v, rfl, r⟩⟩
theorem jg_twI (p : Pos S (Own Tw) k) : JG K d F0 H0 S [k] (gName k) (pTwI p) := by
  intro Z s σ F H c v x s' r e Q q
  cases e
  exact r_name (q _ (c.setW p r) fun vs h => wipe_set (h k (List.mem_singleton.mpr rfl)))
theorem j_twI (p : Pos S (Own Tw) k) : JE K d F0 H0 S (tVar k) (twI p) := by
  intro Z s σ F H c x s' e Q q
  obtain ⟨h, rfl⟩ := twI_some e
  obtain ⟨g, dn, own, w1, w2, sl⟩ := id c
  obtain ⟨ov, h1, h2⟩ := p.rd sl
  rw [h] at h2
  obtain ⟨v, rfl, r⟩ := h2
  exact ⟨v, h1, q v _ _ c (Same.refl _) r⟩
theorem Cx.giveW (c : Cx K d F0 H0 Z s σ F H) (p : Pos S (Own Tw) k) {x : List Int} (e : p.get s = .mine (.l x)) :
    ∃ a F', σ[k]? = some (some (.ref a)) ∧ Same F F' ∧ rel K F' (.ref a) x ∧ Cx K d F0 H0 Z (p.put s (.gone (.l x))) σ F' H := by
  obtain ⟨g, dn, own, w1, w2, sl⟩ := c
  obtain ⟨ov, h1, h2⟩ := p.rd sl
  rw [e] at h2
  obtain ⟨a, o, rfl, w, pa, fa, ha, vs, rfl, pr⟩ := h2
  have pa : H0 a = none := pa
  have sf : Same F (upd F a (.lst vs)) := Same.new fa
  have rl : rel K (upd F a (.lst vs)) (.ref a) x := rel_newl fa pr
  refine ⟨a, upd F a (.lst vs), h1, sf, rl, ⟨g.ff.trans sf, fun b u q => ?_, g.hh, fun b q n => ?_, g.dm⟩, dn, own, w1, fun b u q => ?_, ?_⟩
  · by_cases h : b = a
    · subst h; rw [upd_same] at q; rw [← q]; exact ha
    · rw [upd_ne h] at q; exact g.fh b u q
  · rw [upd_ne (fun z => by subst z; exact n pa)]
    exact g.fr b q n
  · obtain ⟨q1, q2, q3, q4⟩ := w2 b u q
    refine ⟨q1, ?_, q3, q4⟩
    rw [upd_ne (fun z => by subst z; rw [w] at q3; cases q3)]
    exact q2
  · have r := p.wr (own' := own) (F' := upd F a (.lst vs)) (H' := H) (ov := some (.ref a)) (x := Own.gone (.l x)) sl ⟨sf, fun j b l q f n => ⟨q, ?_, rfl⟩⟩ ⟨_, rfl, rl⟩
    · rw [set_same h1] at r
      exact r
    · rw [upd_ne (fun z => by subst z; rw [w] at q; exact l (Option.some.inj q).symm)]
      exact f
theorem j_givW (p : Pos S (Own Tw) k) : JE K d F0 H0 S (tVar k) (givW p) := by
  intro Z s σ F H c x s' e Q q
  unfold givW at e
  cases h : p.get s with
  | no => rw [h] at e; cases e
  | mine y =>
    rw [h] at e
    cases y with
    | i y => cases e
    | l y =>
      cases e
      obtain ⟨a, F', h1, sf, r, c'⟩ := c.giveW p h
      exact ⟨_, h1, q _ _ _ c' sf r⟩
  | gone y =>
    rw [h] at e
    cases y with
    | i y => cases e
    | l y =>
      cases e
      obtain ⟨g, dn, own, w1, w2, sl⟩ := id c
      obtain ⟨ov, h1, h2⟩ := p.rd sl
      rw [h] at h2
      obtain ⟨v, rfl, r⟩ := h2
      exact ⟨v, h1, q v _ _ c (Same.refl _) r⟩
variable {ρ : Type} {RT : S → Hp → VK → ρ → Prop} [RTm RT]
def appW (p : Pos S (Own Tw) k) (m : M S Int) : MS S ρ := bindS (rdw p) fun _ => bindS m fun y => bindS (rdw p) fun xs s => if xs.length < 100000 then some (.nx (p.put s (.mine (.l (xs ++ [y]))))) else none
theorem js_appW (p : Pos S (Own Tw) k) {t : TE} {m : M S Int} (h : JE K d F0 H0 S t m) : JS K d F0 H0 S RT (tDrop (tBM K "list" rAppend (tVar k) (tCons t tNil))) (appW p m) := by
  intro s σ F H c f e D q
  obtain ⟨x0, s0, ea, eb⟩ := bindS_some e
  obtain ⟨e0, es⟩ := rdw_some ea
  rw [es] at eb
  obtain ⟨y, s1, e1, ec⟩ := bindS_some eb
  obtain ⟨xs, s2, ed, ef⟩ := bindS_some ec
  obtain ⟨e2, es2⟩ := rdw_some ed
  rw [es2] at ef
  obtain ⟨hl, rfl⟩ := ite_some ef
  obtain ⟨a, o0, h1, ha, ⟨vs, rfl, _⟩, _⟩ := c.mut p e0
  refine r_drop (r_bm ⟨.ref a, h1, .inl ⟨rfl, _, sqe ha⟩, r_cons (h _ _ _ _ _ c _ _ e1 _ fun v F' H' c' sf r => r_nil ?_)⟩)
  obtain ⟨a', o, h1', ha', ⟨vs', rfl, pr⟩, _, k⟩ := c'.mut p e2
  rw [h1] at h1'
  cases h1'
  exact r_app ha' (by rw [Paired.length pr]; exact hl) (q _ _ _ (k _ (.l (xs ++ [y])) ⟨_, rfl, Paired.append pr (.cons r .nil)⟩) sf)
theorem js_parXW {α : Type} [Enc α] {i j : Nat} (p : Pos S (Dt α) i) (p' : Pos S (Own Tw) j) {ta tb : TE} {m : M S α} {n : M S (List Int)} (ha : JE K d F0 H0 S ta m) (hb : JF K d F0 H0 S tb n) : JS K d F0 H0 S RT (tPar i j (tCons ta (tCons tb tNil))) (parOM m n (pName p) (pTwL p')) := by
  intro s σ F H c f e D q
  obtain ⟨x, s1, e1, ea⟩ := bindS_some e
  obtain ⟨y, s2, e2, eb⟩ := bindS_some ea
  cases eb
  refine r_par (r_cons (ha _ _ _ _ _ c _ _ e1 _ fun v F1 H1 c1 q1 r1 => r_cons (hb _ _ _ _ _ c1 _ _ e2 _ fun vs a F2 H2 c2 q2 hp r2 => r_nil ?_)))
  exact ⟨_, _, rfl, q _ F2 _ ((c2.set p (Enc.mono q2 r1)).own p' (x := Tw.l y) hp ⟨vs, rfl, r2⟩) (q1.trans q2)⟩
end
/-! ### in plain form -/
section
variable {S ρ : Type} [Slots S] {s s' : S} {k : Nat} {γ' δ' : Type} {Q : Option γ' → Option δ' → Prop} [BR Q] {kf : Fl S ρ → Option γ'} {o : Option δ'}
theorem v_twI {p : Pos S (Own Tw) k} {x : Int} (h : p.get s = .gone (.i x)) : twI p s = some (x, s) := by unfold twI; rw [h]
theorem v_rdw {p : Pos S (Own Tw) k} {x : List Int} (h : p.get s = .mine (.l x)) : rdw p s = some (x, s) := by unfold rdw; rw [h]
theorem v_givW {p : Pos S (Own Tw) k} {x : List Int} (h : p.get s = .gone (.l x)) : givW p s = some (x, s) := by unfold givW; rw [h]
theorem k_givW {p : Pos S (Own Tw) k} {x : List Int} {k' : List Int × S → Option γ'} (h : p.get s = .mine (.l x)) (hs : p.put s (.gone (.l x)) = s') (K : Q (k' (x, s')) o) : Q ((givW p s).bind k') o := by
  unfold givW; rw [h]; subst hs; exact K
theorem p_twI {p : Pos S (Own Tw) k} {x : Int} {k' : S → Option γ'} (h : p.put s (.gone (.i x)) = s') (K : Q (k' s') o) : Q ((pTwI p x s).bind k') o := by subst h; exact K
theorem p_twL {p : Pos S (Own Tw) k} {x : List Int} {k' : S → Option γ'} (h : p.put s (.mine (.l x)) = s') (K : Q (k' s') o) : Q ((pTwL p x s).bind k') o := by subst h; exact K
theorem s_appW {p : Pos S (Own Tw) k} {m : M S Int} {x : List Int} (h : p.get s = .mine (.l x)) (K : Q ((m s).bind fun y => (rdw p y.2).bind fun xs => (fits xs.1).bind fun _ => kf (.nx (p.put xs.2 (.mine (.l (xs.1 ++ [y.1])))))) o) : Q ((appW (ρ := ρ) p m s).bind kf) o := by
  have e : (appW (ρ := ρ) p m s).bind kf = (m s).bind fun y => (rdw p y.2).bind fun xs => (fits xs.1).bind fun _ => kf (.nx (p.put xs.2 (.mine (.l (xs.1 ++ [y.1]))))) := by
    show (((rdw p s).bind fun p1 => (m p1.2).bind fun y => (rdw p y.2).bind fun xs => if xs.1.length < 100000 then some (Fl.nx (p.put xs.2 (.mine (.l (xs.1 ++ [y.1]))))) else none)).bind kf = _
    rw [v_rdw h]
    simp only [Option.bind_some, Option.bind_assoc]
    congr 1
    funext y
    congr 1
    funext xs
    unfold fits
    by_cases c : xs.1.length < 100000
    · rw [if_pos c, if_pos c]; rfl
    · rw [if_neg c, if_neg c]; rfl
  rw [e]
  exact K
end
end Rm
namespace Rm
open PySem PySem.Spec PyProof.Rows L2 Rg
open Enc (rel)
open Cell (cel)
open Slot (srel)
open Slots (srels)
/-! ### {k: v for x in xs} over data -/
def dcL {S α β : Type} (wp : S → S) (put : α → S → Option S) (mk : M S Int) (mv : M S β) : List α → DI β → S → Option (DI β × S)
  | [], a, s => some (a, wp s)
  | x :: xs, a, s => (put x (wp s)).bind fun s1 => (mk s1).bind fun k => (mv k.2).bind fun v => dcL wp put mk mv xs (a.set k.1 v.1) v.2
def dcM {S α β : Type} (mi : M S (List α)) (wp : S → S) (put : α → S → Option S) (mk : M S Int) (mv : M S β) : M S (DI β) := bnd mi fun xs => if xs.length ≤ 100000 then dcL wp put mk mv xs ⟨[]⟩ else fun _ => none
section
variable {K : PySem.W.Frag} {d : Addr → Prop} {F0 H0 : Hp} {S : Type} [Slots S]
theorem jd_dc {α β : Type} [Enc α] [Enc β] {is vs : List Nat} {ti : TI} {g : TG} {tk tv : TE} {mi : M S (List α)} {put : α → S → Option S} {mk : M S Int} {mv : M S β} (w : Wp S vs) (hi : JI K d F0 H0 S ti mi) (hg : JG K d F0 H0 S is g put) (hv : ∀ i ∈ is, i ∈ vs)
    (hk : JE K d F0 H0 S tk mk) (he : JE K d F0 H0 S tv mv) : JE K d F0 H0 S (tDc ti g tYes tk tv vs) (dcM mi w.wp put mk mv) := by
  intro Z s σ F H c ys s' e Q q
  obtain ⟨xs, s1, e1, e⟩ := bnd_some e
  by_cases hl : xs.length ≤ 100000
  · rw [if_pos hl] at e
    show ti σ H _
    refine hi _ _ _ _ _ c _ _ e1 _ fun J F1 H1 c1 sf1 it D hD => ?_
    have ZD : Z D = none := by
      cases z : Z D with
      | none => rfl
      | some o => have := (c1.hz z).1; rw [hD] at this; cases this
    let W : Nat → Nat → Hp → Prop := fun i m h => i + m = xs.length ∧ ∃ s F acc a, Cx K d F0 H0 (upd Z D (.dK acc)) (w.wp s) (wipe σ vs) F h ∧ Same F1 F ∧ acc.length ≤ i ∧ Paired (KvR K F) acc (a : DI β).kvs ∧ dcL w.wp put mk mv (xs.drop i) a s = some (ys, s')
    refine ⟨W, ⟨xs.length, by omega, s1, F1, [], ⟨[]⟩, (c1.junk hD _).wipe w, Same.refl _, Nat.zero_le _, .nil, e⟩, fun i m h hw => ?_⟩
    obtain ⟨em, s2, F2, acc, a, c2, sf2, la, pa, e2⟩ := hw
    cases m with
    | zero =>
      have ei : i = xs.length := by omega
      subst ei
      rw [List.drop_length] at e2
      cases e2
      refine .inl ⟨it.stop _ _ sf2 c2.fh, ?_⟩
      obtain ⟨H3, h3, rfl, c3⟩ := (c2.unwipe w).back ZD
      have n := c3.new h3 (.dK acc)
      refine q _ _ _ n.1 (sf1.trans (sf2.trans n.2)) ⟨D, acc, rfl, upd_same, ?_⟩
      exact Paired.imp (fun _ _ r => ⟨r.1, Enc.mono n.2 r.2⟩) pa
    | succ m =>
      have hi : i < xs.length := by omega
      have gx : xs[i]? = some xs[i] := List.getElem?_eq_getElem hi
      rw [List.drop_eq_getElem_cons hi] at e2
      unfold dcL at e2
      refine .inr ⟨it.go _ _ _ hi sf2 c2.fh, W (i + 1) m, fun H' w => ⟨m, Nat.lt_succ_self m, w⟩, fun x H3 y => ?_⟩
      cases e3 : put xs[i] (w.wp s2) with
      | none => rw [e3] at e2; cases e2
      | some s3 =>
        rw [e3] at e2
        cases e4 : mk s3 with
        | none => rw [show (some s3).bind (fun s1 => (mk s1).bind _) = (mk s3).bind _ from rfl, e4] at e2; cases e2
        | some p4 =>
          rw [show (some s3).bind (fun s1 => (mk s1).bind _) = (mk s3).bind _ from rfl, e4] at e2
          have e2 : ((mv p4.2).bind fun v => dcL w.wp put mk mv (xs.drop (i + 1)) (a.set p4.1 v.1) v.2) = some (ys, s') := e2
          cases e6 : mv p4.2 with
          | none => rw [e6] at e2; cases e2
          | some q6 =>
            rw [e6] at e2
            have e7 : dcL w.wp put mk mv (xs.drop (i + 1)) (a.set p4.1 q6.1) q6.2 = some (ys, s') := e2
            have fin : ∀ F3, Cx K d F0 H0 (upd Z D (.dK acc)) (w.wp s2) (wipe σ vs) F3 H3 → Same F2 F3 → rel K F3 x xs[i] → g x (wipe σ vs) H3 fun σ2 H2 => wipe σ2 vs = wipe σ vs ∧ tYes σ2 H2 fun b H3 =>
                if b = true then tk σ2 H3 fun y H4 => tv σ2 H4 fun z H5 => ∃ kvs k, y = kV k ∧ H5 D = some (.dK kvs) ∧ kvs.length < sizeLine ∧ W (i + 1) m (upd H5 D (.dK (putK kvs k z))) else W (i + 1) m H3 := by
              intro F3 c3 sf3 r3
              refine hg _ _ _ _ _ c3 _ _ _ r3 e3 _ fun σ4 c4 wi => ?_
              have wi := wi vs hv
              have wi2 : wipe σ4 vs = wipe σ vs := by
                rw [wi]
                have go : ∀ us : List Nat, wipe (wipe σ us) us = wipe σ us := by
                  intro us
                  have key : ∀ (ws : List Nat) (τ : L2.St), (∀ u ∈ ws, ∀ z, τ[u]? = some z → z = none) → wipe τ ws = τ := by
                    intro ws
                    induction ws with
                    | nil => intro τ _; rfl
                    | cons u ws ih =>
                      intro τ hτ
                      unfold wipe
                      rw [ih τ fun v hv => hτ v (List.mem_cons_of_mem _ hv)]
                      by_cases hu : u < τ.length
                      · have z := hτ u (List.mem_cons_self ..) _ (List.getElem?_eq_getElem hu)
                        exact set_same (by rw [List.getElem?_eq_getElem hu, z])
                      · exact List.set_eq_of_length_le (by omega)
                  refine key us _ fun u hu z hz => ?_
                  cases z with
                  | none => rfl
                  | some z => exact absurd hu (wipe_some hz).2
                exact go vs
              refine ⟨wi2, jt_yes _ _ _ _ _ c4 true s3 rfl _ fun b F5 H5 c5 sf5 r5 => ?_⟩
              subst r5
              rw [if_pos rfl]
              refine hk _ _ _ _ _ c5 p4.1 p4.2 e4 _ fun y F6 H6 c6 sf6 r6 => he _ _ _ _ _ c6 q6.1 q6.2 e6 _ fun z F7 H7 c7 sf7 r7 => ?_
              cases r6
              have s17 := sf2.trans (sf3.trans (sf5.trans (sf6.trans sf7)))
              have hz := c7.hz (upd_same (H := Z) (a := D))
              have pa2 := Paired.imp (fun _ _ (r : KvR K F2 _ _) => (⟨r.1, Enc.mono (sf3.trans (sf5.trans (sf6.trans sf7))) r.2⟩ : KvR K F7 _ _)) pa
              have pp := di_put r7 (k := p4.1) pa2
              refine ⟨acc, .inl p4.1, rfl, hz.1, Nat.lt_of_le_of_lt la (Nat.lt_of_lt_of_le (show i < 100001 by omega) (by decide)), by omega, q6.2, F7, putK acc (.inl p4.1) z, a.set p4.1 q6.1, ?_, s17, ?_, pp, e7⟩
              · have c8 := (c7.held (upd_same (H := Z) (a := D)) (.dK (putK acc (.inl p4.1) z))).wipe w
                rw [wi2, upd_upd] at c8
                exact c8
              · have l1 := Paired.length pp
                have l2 := Paired.length pa
                have l3 := di_set_len a p4.1 q6.1
                have l4 : ((DI.mk a.kvs).set p4.1 q6.1).kvs.length = (a.set p4.1 q6.1).kvs.length := rfl
                omega
            rcases it.yld i _ _ _ _ _ gx sf2 c2.fh y with ⟨rfl, r⟩ | ⟨p, o, hp, rfl, r⟩
            · exact fin _ c2 (Same.refl _) r
            · have n := c2.new hp o
              exact fin _ n.1 n.2 r
  · rw [if_neg hl] at e
    cases e
/-- list(d.values()) and sorted(d) of a dict that is given -/
theorem jf_valsG {β : Type} [Enc β] {t : TE} {m : M S (DI β)} (h : JE K d F0 H0 S t m) : JF K d F0 H0 S (tListVals t) (op1 (fun x : DI β => some (x.kvs.map (·.2))) m) := by
  intro Z s σ F H c ys s' e Q q
  obtain ⟨y1, s1, e1, e⟩ := bnd_some e
  obtain ⟨e3, rfl⟩ := lft_some e
  cases e3
  refine h _ _ _ _ _ c _ _ e1 _ fun v F1 H1 c1 q1 r1 => ?_
  obtain ⟨a, kvs, rfl, ha, pr⟩ := r1
  refine ⟨a, kvs, rfl, c1.fh _ _ ha, fun p hp => q _ p F1 H1 c1 q1 hp ?_⟩
  clear ha
  generalize y1.kvs = l at pr
  induction pr with
  | nil => exact .nil
  | cons r _ ih => exact .cons r.2 ih
theorem jf_sortedDG {α : Type} [Enc α] {t : TE} {m : M S (DI α)} (h : JE K d F0 H0 S t m) : JF K d F0 H0 S (tCB (fun xs H Q => ∃ (a : Addr) (kvs : List (Key × V)) (ks : List Int), xs = [V.ref a] ∧ Rd H a (.dK kvs) ∧ kvs.map (·.1) = ks.map Sum.inl ∧ ks.length < 64 ∧ ∀ (ys : List Int) (p : Addr), ys.Perm ks → ys.Pairwise (· ≤ ·) → H p = none → Q (V.ref p) (upd H p (.lst (ys.map V.int)))) (tCons t tNil))
    (op1 (fun x : DI α => if x.kvs.length < 64 then some (sortI (x.kvs.map (·.1))) else none) m) := by
  intro Z s σ F H c x s' e Q q
  obtain ⟨y1, s1, e1, e⟩ := bnd_some e
  obtain ⟨e3, rfl⟩ := lft_some e
  obtain ⟨hl, rfl⟩ := ite_some e3
  refine r_cb (r_cons (h _ _ _ _ _ c _ _ e1 _ fun v F1 H1 c1 q1 r1 => ?_))
  obtain ⟨a, kvs, rfl, ha, pr⟩ := r1
  refine r_nil ⟨a, kvs, y1.kvs.map (·.1), rfl, .inl (c1.fh _ _ ha), di_keys pr, by rw [List.length_map]; exact hl, fun ys l p1 p2 hp => ?_⟩
  have e := sorted_unique (p1.trans (sortI_perm _).symm) p2 (sortI_sorted _)
  subst e
  exact q _ _ _ _ c1 q1 hp (Paired.ofmap (R := rel K F1) (f := V.int) (fun _ => rfl) _)
end
/-! ### in plain form -/
def dcO {α β : Type} (kf : α → Int) (g : α → Option β) : List α → DI β → Option (DI β)
  | [], a => some a
  | x :: xs, a => (g x).bind fun y => dcO kf g xs (a.set (kf x) y)
section
variable {S α β γ' δ' : Type} [Slots S] {s s0 : S} {Q : Option γ' → Option δ' → Prop} [BR Q]
theorem k_dcM {mi : M S (List α)} {wp : S → S} {put : α → S → Option S} {mk : M S Int} {mv : M S β} {k : DI β × S → Option γ'} {o : Option δ'} (K : Q ((mi s).bind fun p => (short p.1).bind fun _ => (dcL wp put mk mv p.1 ⟨[]⟩ p.2).bind k) o) : Q ((dcM mi wp put mk mv s).bind k) o := by
  have e : (dcM mi wp put mk mv s).bind k = (mi s).bind fun p => (short p.1).bind fun _ => (dcL wp put mk mv p.1 ⟨[]⟩ p.2).bind k := by
    show ((mi s).bind fun x => (if x.1.length ≤ 100000 then dcL wp put mk mv x.1 ⟨[]⟩ else fun _ => none) x.2).bind k = _
    rw [Option.bind_assoc]
    congr 1
    funext p
    unfold short
    by_cases c : p.1.length ≤ 100000
    · simp [c]
    · simp [c]
  rw [e]
  exact K
theorem dc_f {wp : S → S} {put : α → S → Option S} {mk : M S Int} {mv : M S β} {kf : α → Int} {g : α → Option β} {s1 : α → S} (hp : ∀ x, put x s0 = some (s1 x)) (hk : ∀ x, mk (s1 x) = some (kf x, s1 x)) (hg : ∀ x, mv (s1 x) = (g x).bind fun y => some (y, s1 x))
    (hw : ∀ x, wp (s1 x) = s0) : ∀ (xs : List α) (a : DI β) (s : S), wp s = s0 → dcL wp put mk mv xs a s = (dcO kf g xs a).bind fun ys => some (ys, s0)
  | [], a, s, h => by unfold dcL dcO; rw [h]; rfl
  | x :: xs, a, s, h => by
    unfold dcL dcO
    rw [h, hp]
    simp only [Option.bind_some, hk, hg]
    cases g x with
    | none => rfl
    | some y => exact dc_f hp hk hg hw xs _ (s1 x) (hw x)
theorem k_dca {wp : S → S} {put : α → S → Option S} {mk : M S Int} {mv : M S β} {kf : α → Int} {g : α → Option β} {s1 : α → S} {xs : List α} {a : DI β} {k : DI β × S → Option γ'} {o : DI β → Option δ'} (hw0 : wp s = s0) (hp : ∀ x, put x s0 = some (s1 x))
    (hk : ∀ x, mk (s1 x) = some (kf x, s1 x)) (hg : ∀ x, mv (s1 x) = (g x).bind fun y => some (y, s1 x)) (hw : ∀ x, wp (s1 x) = s0) (K : ∀ ys, Q (k (ys, s0)) (o ys)) : Q ((dcL wp put mk mv xs a s).bind k) ((dcO kf g xs a).bnd o) := by
  rw [dc_f hp hk hg hw xs a s hw0, Option.bind_assoc]
  exact BR.bnd _ fun ys => K ys
end
end Rm
namespace Rm
open PySem PySem.Spec PyProof.Rows L2 Rg
open Enc (rel)
open Cell (cel)
open Slot (srel)
open Slots (srels)
/-! ### a text in a written pair of texts -/
section
variable {K : PySem.W.Frag} {d : Addr → Prop} {F0 H0 : Hp} {S : Type} [Slots S]
def inS2 (x : Str) (p : Str × Str) : Bool := decide (p.1 = x) || decide (p.2 = x)
theorem inV_str2 (x a b : Str) : inV (.str x) [.str a, .str b] = inS2 x (a, b) := by
  unfold inV inS2
  simp [eqV]
  rw [Bool.eq_iff_iff]
  simp
theorem rj_inS2 : RJ2 K d F0 H0 S (rIn K false) (fun (x : Str) (p : Str × Str) => some (inS2 x p)) := by
  intro Z s σ F H c v u x y z r1 r2 e Q q
  cases r1
  cases e
  obtain ⟨a, v1, v2, rfl, hs, e1, e2⟩ := r2
  cases e1
  cases e2
  refine ⟨a, _, rfl, .inr (SqT.same hs c.fh), rfl, rfl, ?_⟩
  show Q (.bl (inV (.str x) [.str y.1, .str y.2])) H
  rw [inV_str2]
  exact q _ _ _ c (Same.refl _) rfl
theorem rj_notInS2 : RJ2 K d F0 H0 S (rIn K true) (fun (x : Str) (p : Str × Str) => some (!inS2 x p)) := by
  intro Z s σ F H c v u x y z r1 r2 e Q q
  cases r1
  cases e
  obtain ⟨a, v1, v2, rfl, hs, e1, e2⟩ := r2
  cases e1
  cases e2
  refine ⟨a, _, rfl, .inr (SqT.same hs c.fh), rfl, rfl, ?_⟩
  show Q (.bl (!inV (.str x) [.str y.1, .str y.2])) H
  rw [inV_str2]
  exact q _ _ _ c (Same.refl _) rfl
/-! ### a call that lends a new source -/
def srcNM {S A γ : Type} (n : M S (List Int)) (f : List Int → A → Option (γ × List Int)) (m : M S A) : M S γ := bnd n fun zs => bnd m fun x => lft ((f zs x).map (·.1))
theorem j_callSN {A γ : Type} [EncA A] [Enc γ] {f : List Int → A → Option (γ × List Int)} {E : XK} {t0 : TE} {t : TA} {n : M S (List Int)} {m : M S A} (h0 : JF K d F0 H0 S t0 n) (ha : JA K d F0 H0 S t m) : JE K d F0 H0 S (tCall (spS K f) [] E (tCons t0 t)) (srcNM n f m) := by
  intro Z s σ F H c x s' e Q q
  obtain ⟨zs, s1, e1, e⟩ := bnd_some e
  obtain ⟨y, s2, e2, e⟩ := bnd_some e
  obtain ⟨e3, rfl⟩ := lft_some e
  refine r_call (r_cons (h0 _ _ _ _ _ c _ _ e1 _ fun vs p F1 H1 c1 q1 hp pr => ?_))
  have ev := paired_ints pr
  subst ev
  have Zp : Z p = none := by
    cases z : Z p with
    | none => rfl
    | some o => have := (c1.hz z).1; rw [hp] at this; cases this
  refine ha _ _ _ _ _ (c1.junk hp (.lst (zs.map V.int))) _ _ e2 _ fun ws F2 H2 c2 q2 r2 => ?_
  have hz := c2.hz (upd_same (H := Z) (a := p))
  cases e4 : f zs y with
  | none => rw [e4] at e3; cases e3
  | some r =>
    rw [e4] at e3
    cases e3
    refine ⟨F2, p, zs, r.2, ws, y, r.1, rfl, c2.fh, hz.2, hz.1, r2, e4, fun v F3 H3 g h3 rl => ?_⟩
    obtain ⟨H2', n2, rfl, c3⟩ := c2.back Zp
    have ne : ∀ b, H2' b ≠ none → b ≠ p := fun b nb z => nb (by rw [z]; exact n2)
    have up : ∀ b, H2' b ≠ none → (upd H2' p (.lst (zs.map V.int))) b = H2' b := fun b nb => upd_ne (ne b nb)
    have g2 : Gr (fun _ => False) F2 H2' F3 H3 := ⟨g.ff, g.fh, fun b o _ eb => g.hh b o (ne b (by rw [eb]; simp)) (by rw [up b (by rw [eb]; simp)]; exact eb), fun b fb nb => g.fr b fb (by rw [up b nb]; exact nb), fun b nb => g.dm b (by rw [up b nb]; exact nb)⟩
    exact q v F3 H3 (c3.call g2) (q1.trans (q2.trans g.ff)) rl
end
section
variable {S A γ γ' δ' : Type} [Slots S] {s : S} {Q : Option γ' → Option δ' → Prop} [BR Q]
theorem k_srcNM {n : M S (List Int)} {f : List Int → A → Option (γ × List Int)} {m : M S A} {k : γ × S → Option γ'} {o : Option δ'} (K : Q ((n s).bind fun p => (m p.2).bind fun x => (f p.1 x.1).bind fun r => k (r.1, x.2)) o) : Q ((srcNM n f m s).bind k) o := by
  have e : (srcNM n f m s).bind k = (n s).bind fun p => (m p.2).bind fun x => (f p.1 x.1).bind fun r => k (r.1, x.2) := by
    unfold srcNM
    show ((n s).bind fun p => (m p.2).bind fun x => lft ((f p.1 x.1).map (·.1)) x.2).bind k = _
    rw [Option.bind_assoc]
    congr 1
    funext p
    rw [Option.bind_assoc]
    congr 1
    funext x
    cases f p.1 x.1 <;> rfl
  rw [e]
  exact K
end
end Rm
namespace Rg
open PySem PySem.Spec PyProof.Rows L2
theorem hu65 {A : Around} {k : Nat} (hr : Room k A) : A.units + 65 < cLine := by have := hr.un; omega
section
variable {X : L2.Cx}
/-- l.count(x), items of any depth -/
def rCntD (K : PySem.W.Frag) : V → List V → Hp → VK → Prop := fun x xs H Q => ∃ (a : Addr) (y : V) (d : PyData) (ds : List PyData), x = V.ref a ∧ xs = [y] ∧ Dp K H (V.ref a) (.list ds) ∧ Dp K H y d ∧
  SeqAt.shaped (.list ds) = true ∧ SeqAt.shaped d = true ∧ Q (.int ((ds.countP fun z => PyData.eqv z d : Nat) : Int)) H
theorem mt_countD (hu : X.A.units + 65 < cLine) : MtR X "list.count" (rCntD X.K) := by
  intro pins s σ H x xs v us Q I rx rxs h
  obtain ⟨a, y, d, ds, rfl, rfl, hl, hy, sl, sd, q⟩ := h
  cases rx
  cases rxs with
  | cons ry rt =>
    rename_i uy ut
    cases rt
    obtain ⟨bs, r1⟩ := Dp.reads I d y uy hy ry
    have hxs : PyData.canLayAll0 ds = true := SeqAt.canLay_of_shaped sl
    have hroom : X.A.units + 1 + min (PyData.depthAll ds) d.depth < cLine := room_in_shaped sd hu
    cases hl with
    | lst hs ha =>
      obtain ⟨its, rv, ⟨⟨cls, dd, data, sls⟩, n, ho, hc, hdn, hdt⟩, hlen⟩ := I.list hs
      simp only at hc hdt
      subst hc hdt
      obtain ⟨as, h4⟩ := Dp.readsAll I ds _ its ha rv
      have hmap : its.map (SeqAt.readOf s.heap) = ds := SeqAt.readsAll_map ds its as hxs h4
      have hcount : its.toArray.toList.countP (fun u => PyData.eqv (SeqAt.readOf s.heap u) d) = ds.countP fun z => PyData.eqv z d := by
        rw [← hmap, List.countP_map]
        rfl
      refine call_meets PySem.F.slot_list_count ⟨_, ho, rfl⟩ PySem.F.entry_list_count (PySem.F.args_list_count_2 _ _)
        (SeqAt.list_countAt a its.toArray n dd sls uy (fun u => PyData.eqv (SeqAt.readOf s.heap u) d)) ⟨ho, SeqAt.items_eqAt (vs := its.toArray) (show ReadsAll s.heap its.toArray.toList ds as from h4) r1 hxs (SeqAt.canLay_of_shaped sd) hroom, ?_⟩
      rw [hcount]
      exact ⟨.int _, H, I.tok _, ⟨_, rfl⟩, q⟩
end
end Rg
namespace Rm
open PySem PySem.Spec PyProof.Rows L2 Rg
open Enc (rel)
open Cell (cel)
open Slot (srel)
open Slots (srels)
/-- data of which == tells whether they are the same -/
class EqX (α : Type) [Enc α] [EncD α] [DecidableEq α] where
  lay : ∀ x : α, (EncD.d x).canLay0 = true
  dep : Nat
  depth : ∀ x : α, (EncD.d x).depth ≤ dep
  eqv : ∀ x y : α, PyData.eqv (EncD.d x) (EncD.d y) = decide (x = y)
instance : EqX Int := ⟨fun x => by show (PyData.int x).canLay0 = true; simp only [PyData.canLay0], 0, fun x => by show (PyData.int x).depth ≤ 0; simp only [PyData.depth]; exact Nat.le_refl 0,
  fun x y => by
    show PyData.eqv (.int x) (.int y) = _
    simp only [PyData.eqv]
    rfl⟩
instance {α β : Type} [Enc α] [Enc β] [EncD α] [EncD β] [DecidableEq α] [DecidableEq β] [EqX α] [EqX β] : EqX (α × β) := ⟨fun x => by
    show (PyData.tuple [EncD.d x.1, EncD.d x.2]).canLay0 = true
    simp [PyData.canLay0, PyData.canLayAll0, EqX.lay x.1, EqX.lay x.2], max (EqX.dep α) (EqX.dep β) + 1, fun x => by
    show (PyData.tuple [EncD.d x.1, EncD.d x.2]).depth ≤ _
    have h1 := EqX.depth x.1
    have h2 := EqX.depth x.2
    simp only [PyData.depth, PyData.depthAll]
    omega, fun x y => by
    show PyData.eqv (.tuple [EncD.d x.1, EncD.d x.2]) (.tuple [EncD.d y.1, EncD.d y.2]) = _
    simp only [PyData.eqv, PyData.eqvAll, EqX.eqv]
    obtain ⟨a, b⟩ := x
    obtain ⟨c, e⟩ := y
    simp only [Prod.mk.injEq, Bool.and_true]
    by_cases h1 : a = c <;> by_cases h2 : b = e <;> simp [h1, h2]⟩
theorem layAll_of {α : Type} [Enc α] [EncD α] [DecidableEq α] [EqX α] : ∀ xs : List α, PyData.canLayAll0 (xs.map EncD.d) = true
  | [] => by simp [PyData.canLayAll0]
  | x :: xs => by simp [PyData.canLayAll0, EqX.lay x, layAll_of xs]
theorem depAll_of {α : Type} [Enc α] [EncD α] [DecidableEq α] [EqX α] : ∀ xs : List α, PyData.depthAll (xs.map EncD.d) ≤ EqX.dep α
  | [] => by simp [PyData.depthAll]
  | x :: xs => by
    have h1 := EqX.depth x
    have h2 := depAll_of xs
    simp only [List.map_cons, PyData.depthAll]
    omega
theorem eqvAll_of {α : Type} [Enc α] [EncD α] [DecidableEq α] [EqX α] : ∀ xs ys : List α, PyData.eqvAll (xs.map EncD.d) (ys.map EncD.d) = decide (xs = ys)
  | [], [] => by simp [PyData.eqvAll]
  | [], y :: ys => by simp [PyData.eqvAll]
  | x :: xs, [] => by simp [PyData.eqvAll]
  | x :: xs, y :: ys => by
    simp only [List.map_cons, PyData.eqvAll, EqX.eqv, eqvAll_of xs ys, List.cons.injEq]
    by_cases h1 : x = y <;> by_cases h2 : xs = ys <;> simp [h1, h2]
instance {α : Type} [Enc α] [EncD α] [DecidableEq α] [EqX α] : EqX (List α) := ⟨fun x => by
    show (PyData.list (x.map EncD.d)).canLay0 = true
    simp only [PyData.canLay0]
    exact layAll_of x, EqX.dep α + 1, fun x => by
    show (PyData.list (x.map EncD.d)).depth ≤ _
    have := depAll_of x
    simp only [PyData.depth]
    omega, fun x y => by
    show PyData.eqv (.list (x.map EncD.d)) (.list (y.map EncD.d)) = _
    simp only [PyData.eqv]
    exact eqvAll_of x y⟩
theorem shaped_of {α : Type} [Enc α] [EncD α] [DecidableEq α] [EqX α] (h : EqX.dep α ≤ 64) (x : α) : SeqAt.shaped (EncD.d x) = true := by
  have h1 := EqX.depth x
  show ((EncD.d x).canLay0 && decide ((EncD.d x).depth ≤ 64)) = true
  rw [Bool.and_eq_true]
  exact ⟨EqX.lay x, decide_eq_true (by omega)⟩
def memX {α : Type} [DecidableEq α] (xs : List α) (x : α) : Bool := xs.any fun y => decide (y = x)
theorem memX_iff {α : Type} [DecidableEq α] {xs : List α} {x : α} : memX xs x = true ↔ x ∈ xs := by
  unfold memX
  rw [List.any_eq_true]
  exact ⟨fun ⟨y, h, e⟩ => by rw [← of_decide_eq_true e]; exact h, fun h => ⟨x, h, decide_eq_true rfl⟩⟩
theorem any_of {α : Type} [Enc α] [EncD α] [DecidableEq α] [EqX α] (x : α) : ∀ xs : List α, ((xs.map EncD.d).any fun z => PyData.eqv z (EncD.d x)) = memX xs x
  | xs => by
    unfold memX
    rw [List.any_map]
    congr 1
    funext y
    exact EqX.eqv y x
def cntX {α : Type} [DecidableEq α] (xs : List α) (x : α) : Int := ((xs.countP fun y => decide (y = x) : Nat) : Int)
theorem countP_of {α : Type} [Enc α] [EncD α] [DecidableEq α] [EqX α] (x : α) : ∀ xs : List α, ((((xs.map EncD.d).countP fun z => PyData.eqv z (EncD.d x)) : Nat) : Int) = cntX xs x
  | xs => by
    unfold cntX
    rw [List.countP_map]
    congr 2
    funext y
    exact EqX.eqv y x
section
variable {K : PySem.W.Frag} {d : Addr → Prop} {F0 H0 : Hp} {S : Type} [Slots S]
/-- how often something stands in a list -/
theorem j_countX {α : Type} [Enc α] [EncD α] [DecidableEq α] [EqX α] (hd : EqX.dep (List α) ≤ 64) {t : TE} {u : TE} {m : M S (List α)} {n : M S α} (h : JE K d F0 H0 S t m) (h2 : JE K d F0 H0 S u n) :
    JE K d F0 H0 S (tBM K "list" (rCntD K) t (tCons u tNil)) (op2 (fun (xs : List α) (x : α) => some (cntX xs x)) m n) := by
  intro Z s σ F H c x s' e Q q
  obtain ⟨y1, s1, e1, e⟩ := bnd_some e
  obtain ⟨y2, s2, e2, e⟩ := bnd_some e
  obtain ⟨e3, rfl⟩ := lft_some e
  cases e3
  refine r_bm (h _ _ _ _ _ c _ _ e1 _ fun v F1 H1 c1 q1 r1 => ?_)
  obtain ⟨a, vs, rfl, hs, p⟩ := id r1
  refine ⟨.inl ⟨rfl, _, Same.seq c1.fh hs⟩, r_cons (h2 _ _ _ _ _ c1 _ _ e2 _ fun w F2 H2 c2 q2 r2 => r_nil ?_)⟩
  have hd1 : EqX.dep α ≤ 64 := by have : EqX.dep (List α) = EqX.dep α + 1 := rfl; omega
  refine ⟨a, w, _, y1.map EncD.d, rfl, rfl, Dp.same c2.fh (EncD.dp (α := List α) (Enc.mono q2 r1)), Dp.same c2.fh (EncD.dp r2), shaped_of (α := List α) hd y1, shaped_of hd1 y2, ?_⟩
  rw [countP_of]
  exact q _ _ _ c2 (q1.trans q2) rfl
/-- x in xs, x not in xs of a variable's own list -/
theorem j_inOX {α : Type} [Enc α] [EncD α] [DecidableEq α] [EqX α] (hd : EqX.dep (List α) ≤ 64) {k : Nat} (p : Pos S (Own (List α)) k) {t : TE} {m : M S α} (h : JE K d F0 H0 S t m) : JE K d F0 H0 S (tOp (rInD K) t (tVar k)) (oqM p m fun xs x => some (memX xs x)) := by
  intro Z s σ F H c x s' e Q q
  obtain ⟨y1, s1, e1, e⟩ := bnd_some e
  obtain ⟨y2, s2, e2, e⟩ := bnd_some e
  obtain ⟨e3, rfl⟩ := lft_some e
  cases e3
  obtain ⟨e2, rfl⟩ := rdo_some e2
  refine r_op (h _ _ _ _ _ c _ _ e1 _ fun v F' H' c' sf r => ?_)
  obtain ⟨a, vs, h1, ha, pr⟩ := c'.peek p e2
  have hd1 : EqX.dep α ≤ 64 := by have : EqX.dep (List α) = EqX.dep α + 1 := rfl; omega
  refine ⟨.ref a, h1, _, y2.map EncD.d, Dp.same c'.fh (EncD.dp r), .lst (sqe ha) (DpAll.same c'.fh (dpAll_of pr)), shaped_of hd1 y1, shaped_of (α := List α) hd y2, ?_⟩
  rw [any_of]
  exact q _ _ _ c' sf rfl
theorem j_ninOX {α : Type} [Enc α] [EncD α] [DecidableEq α] [EqX α] (hd : EqX.dep (List α) ≤ 64) {k : Nat} (p : Pos S (Own (List α)) k) {t : TE} {m : M S α} (h : JE K d F0 H0 S t m) : JE K d F0 H0 S (tOp (rNotInD K) t (tVar k)) (oqM p m fun xs x => some (!memX xs x)) := by
  intro Z s σ F H c x s' e Q q
  obtain ⟨y1, s1, e1, e⟩ := bnd_some e
  obtain ⟨y2, s2, e2, e⟩ := bnd_some e
  obtain ⟨e3, rfl⟩ := lft_some e
  cases e3
  obtain ⟨e2, rfl⟩ := rdo_some e2
  refine r_op (h _ _ _ _ _ c _ _ e1 _ fun v F' H' c' sf r => ?_)
  obtain ⟨a, vs, h1, ha, pr⟩ := c'.peek p e2
  have hd1 : EqX.dep α ≤ 64 := by have : EqX.dep (List α) = EqX.dep α + 1 := rfl; omega
  refine ⟨.ref a, h1, _, y2.map EncD.d, Dp.same c'.fh (EncD.dp r), .lst (sqe ha) (DpAll.same c'.fh (dpAll_of pr)), shaped_of hd1 y1, shaped_of (α := List α) hd y2, ?_⟩
  rw [any_of]
  exact q _ _ _ c' sf rfl
instance {α : Type} [Enc α] : NotNone (List α) := ⟨fun ⟨a, _, e, _⟩ => by subst e; simp⟩
instance {α β γ : Type} [Enc α] [Enc β] [Enc γ] : NotNone (Tri α β γ) := ⟨fun ⟨a, _, _, _, e, _⟩ => by subst e; simp⟩
theorem rj_notN {α : Type} [Enc α] [NotNone α] : RJ2 K d F0 H0 S (fun x y H Q => y = .non ∧ Q (.bl (!decide (x = .non))) H) (fun (x : Option α) (_ : Unit) => some x.isSome) := by
  intro Z s σ F H c v u x y z r1 r2 e Q q
  cases r2
  cases e
  refine ⟨rfl, ?_⟩
  cases x with
  | none =>
    cases r1
    exact q _ _ _ c (Same.refl _) (by simp [rel])
  | some x =>
    have nn := NotNone.nn (α := α) r1
    exact q _ _ _ c (Same.refl _) (by simp [rel, nn])
/-- b is True, b is not True -/
theorem rj_isB : RJ2 K d F0 H0 S (fun x y H Q => ∃ a b, x = .bl a ∧ y = .bl b ∧ Q (.bl (decide (a = b))) H) (fun x y : Bool => some (decide (x = y))) := by
  intro Z s σ F H c v u x y z r1 r2 e Q q
  cases r1; cases r2; cases e
  exact ⟨_, _, rfl, rfl, q _ _ _ c (Same.refl _) rfl⟩
theorem rj_isnB : RJ2 K d F0 H0 S (fun x y H Q => ∃ a b, x = .bl a ∧ y = .bl b ∧ Q (.bl (!decide (a = b))) H) (fun x y : Bool => some (!decide (x = y))) := by
  intro Z s σ F H c v u x y z r1 r2 e Q q
  cases r1; cases r2; cases e
  exact ⟨_, _, rfl, rfl, q _ _ _ c (Same.refl _) rfl⟩
theorem tyx_list {H : Hp} {a : Addr} {xs : List V} (h : SqL K H a xs) : TyX K H (.ref a) (.type "list") := by
  rcases h with (h | ⟨o, h⟩) | ⟨o, its, n, h, hc, _⟩
  · exact .base (.lst h)
  · exact .base (.frz h)
  · exact .kList h hc
theorem tyx_tuple {H : Hp} {a : Addr} {xs : List V} (h : SqT K H a xs) : TyX K H (.ref a) (.type "tuple") := by
  rcases h with (h | ⟨o, h⟩) | ⟨o, its, n, h, hc, _⟩
  · exact .base (.tup h)
  · exact .fTuple h
  · exact .kTuple h hc
/-- isinstance(x, list) of a list, isinstance(x, tuple) of a tuple of three -/
theorem j_isiL {α : Type} [Enc α] {t : TE} {m : M S (List α)} (h : JE K d F0 H0 S t m) : JE K d F0 H0 S (tCB (rIsi K) (tCons t (tCons (tC (.ty "list")) tNil))) (op1 (fun _ => some true) m) := by
  intro Z s σ F H c x s' e Q q
  obtain ⟨y1, s1, e1, e⟩ := bnd_some e
  obtain ⟨e3, rfl⟩ := lft_some e
  cases e3
  refine r_cb (r_cons (h _ _ _ _ _ c _ _ e1 _ fun v F1 H1 c1 q1 r1 => r_cons (r_c (r_nil ?_))))
  obtain ⟨a, vs, rfl, hs, p⟩ := r1
  exact ⟨_, .ty "list", _, _, true, rfl, .ty "list", tyx_list (Same.seq c1.fh hs), rfl, q _ _ _ c1 q1 rfl⟩
theorem j_isiT3 {α β γ : Type} [Enc α] [Enc β] [Enc γ] {t : TE} {m : M S (Tri α β γ)} (h : JE K d F0 H0 S t m) : JE K d F0 H0 S (tCB (rIsi K) (tCons t (tCons (tC (.ty "tuple")) tNil))) (op1 (fun _ => some true) m) := by
  intro Z s σ F H c x s' e Q q
  obtain ⟨y1, s1, e1, e⟩ := bnd_some e
  obtain ⟨e3, rfl⟩ := lft_some e
  cases e3
  refine r_cb (r_cons (h _ _ _ _ _ c _ _ e1 _ fun v F1 H1 c1 q1 r1 => r_cons (r_c (r_nil ?_))))
  obtain ⟨a, x1, y1, z1, rfl, hs, p⟩ := r1
  exact ⟨_, .ty "tuple", _, _, true, rfl, .ty "tuple", tyx_tuple (SqT.same hs c1.fh), rfl, q _ _ _ c1 q1 rfl⟩
/-- == of answers -/
theorem rj_eqB : RJ2 K d F0 H0 S (rEqD K) (fun x y : Bool => some (decide (x = y))) := by
  intro Z s σ F H c v u x y z r1 r2 e Q q
  cases e
  refine ⟨_, _, Dp.same c.fh (EncD.dp r1), Dp.same c.fh (EncD.dp r2), rfl, rfl, ?_⟩
  have e : PyData.eqv (EncD.d x) (EncD.d y) = decide (x = y) := by
    show PyData.eqv (.bool x) (.bool y) = _
    cases x <;> cases y <;> simp [PyData.eqv]
  rw [e]
  exact q _ _ _ c (Same.refl _) rfl
theorem rj_neB : RJ2 K d F0 H0 S (rNeD K) (fun x y : Bool => some (!decide (x = y))) := by
  intro Z s σ F H c v u x y z r1 r2 e Q q
  cases e
  refine ⟨_, _, Dp.same c.fh (EncD.dp r1), Dp.same c.fh (EncD.dp r2), rfl, rfl, ?_⟩
  have e : PyData.eqv (EncD.d x) (EncD.d y) = decide (x = y) := by
    show PyData.eqv (.bool x) (.bool y) = _
    cases x <;> cases y <;> simp [PyData.eqv]
  rw [e]
  exact q _ _ _ c (Same.refl _) rfl
end
end Rm
namespace Rm
open PySem PySem.Spec PyProof.Rows L2 Rg
open Enc (rel)
open Cell (cel)
open Slot (srel)
open Slots (srels)
/-- a thing put where there may be none -/
def pSm {S α : Type} [Slots S] [Enc α] {k : Nat} (p : Pos S (Dt (Option α)) k) : α → S → Option S := fun x s => some (p.put s (.is (some x)))
section
variable {K : PySem.W.Frag} {d : Addr → Prop} {F0 H0 : Hp} {S : Type} [Slots S]
theorem jg_sm {α : Type} [Enc α] {k : Nat} (p : Pos S (Dt (Option α)) k) : JG K d F0 H0 S [k] (gName k) (pSm p) := by
  intro Z s σ F H c v x s' r e Q q
  cases e
  exact r_name (q _ (c.set (x := some x) p r) fun vs h => wipe_set (h k (List.mem_singleton.mpr rfl)))
/-- list(source) -/
theorem jf_lstS {b : Bool} {k : Nat} (p : Pos S (Src b) k) : JF K d F0 H0 S (tCB (rLst2 K) (tCons (tVar k) tNil)) (rdS p) := by
  intro Z s σ F H c x s' e Q q
  obtain ⟨e0, es⟩ := rdS_some e
  subst es
  obtain ⟨a, h1, _, ha, _⟩ := c.src p e0
  exact r_cb (r_cons ⟨.ref a, h1, r_nil ⟨a, _, rfl, .inl (sqe ha), fun l hl => q _ _ _ _ c (Same.refl _) hl (Paired.ofmap (R := rel K F) (f := V.int) (fun _ => rfl) _)⟩⟩)
end
section
variable {S α : Type} [Slots S] {s s' : S} {γ' δ' : Type} {Q : Option γ' → Option δ' → Prop} [BR Q]
theorem p_sm [Enc α] {k : Nat} {p : Pos S (Dt (Option α)) k} {x : α} {k' : S → Option γ'} {o : Option δ'} (h : p.put s (.is (some x)) = s') (K : Q (k' s') o) : Q ((pSm p x s).bind k') o := by subst h; exact K
end
end Rm
namespace Rm
open PySem PySem.Spec PyProof.Rows L2 Rg
open Enc (rel)
open Cell (cel)
open Slot (srel)
open Slots (srels)
/-! ### a new list of new lists of ints, which whoever asked for it may change -/
inductive LLR (good : Addr → Prop) (H : Hp) : List V → List (List Int) → List Addr → Prop
  | nil : LLR good H [] [] []
  | cons {xs : List Int} {b : Addr} {vs : List V} {x : List (List Int)} {as : List Addr} : good b → H b = some (.lst (xs.map V.int)) → LLR good H vs x as → LLR good H (.ref b :: vs) (xs :: x) (b :: as)
theorem LLR.grow {good good' : Addr → Prop} {H H' : Hp} {vs : List V} {x : List (List Int)} {as : List Addr} (h : LLR good H vs x as) (k : ∀ b ∈ as, good b → H b ≠ none → good' b ∧ H' b = H b) : LLR good' H' vs x as := by
  induction h with
  | nil => exact .nil
  | cons g e t ih =>
    obtain ⟨z1, z2⟩ := k _ (List.mem_cons_self ..) g (by rw [e]; simp)
    exact .cons z1 (by rw [z2]; exact e) (ih fun b hb => k b (List.mem_cons_of_mem _ hb))
theorem LLR.at {good : Addr → Prop} {H : Hp} {vs : List V} {x : List (List Int)} {as : List Addr} (h : LLR good H vs x as) : ∀ b ∈ as, good b ∧ ∃ us, H b = some (.lst us) := by
  induction h with
  | nil => intro b hb; cases hb
  | cons g e t ih =>
    intro b hb
    rcases List.mem_cons.mp hb with rfl | hb
    · exact ⟨g, _, e⟩
    · exact ih b hb
theorem LLR.len {good : Addr → Prop} {H : Hp} {vs : List V} {x : List (List Int)} {as : List Addr} (h : LLR good H vs x as) : vs.length = x.length := by
  induction h with
  | nil => rfl
  | cons _ _ _ ih => rw [List.length_cons, List.length_cons, ih]
theorem LLR.par {K : PySem.W.Frag} {good : Addr → Prop} {H F : Hp} {vs : List V} {x : List (List Int)} {as : List Addr} (h : LLR good H vs x as) (k : ∀ b ∈ as, F b = H b) : Paired (rel K F) vs x := by
  induction h with
  | nil => exact .nil
  | cons g e t ih =>
    refine .cons ?_ (ih fun b hb => k b (List.mem_cons_of_mem _ hb))
    exact ⟨_, _, rfl, .inl (.inl (by rw [k _ (List.mem_cons_self ..)]; exact e)), Paired.ofmap (R := rel K F) (f := V.int) (fun _ => rfl) _⟩
section
variable {K : PySem.W.Frag} {d : Addr → Prop} {F0 H0 : Hp} {S : Type} [Slots S]
/-- as it comes -/
def JLL (K : PySem.W.Frag) (d : Addr → Prop) (F0 H0 : Hp) (S : Type) [Slots S] (t : TE) (m : M S (List (List Int))) : Prop :=
  ∀ (Z : Hp) (s : S) (σ : L2.St) (F H : Hp), Cx K d F0 H0 Z s σ F H → ∀ (x : List (List Int)) (s' : S), m s = some (x, s') → ∀ Q : V → Hp → Prop,
    (∀ vs as p F' H' Z', Cx K d F0 H0 Z' s' σ F' H' → Same F F' → (∀ a o, Z a = some o → Z' a = some o) → as.Nodup → (∀ a ∈ as, Z a = none) → H' p = none → LLR (fun b => Z' b ≠ none) Z' vs x as → Q (.ref p) (upd H' p (.lst vs))) → t σ H Q
def spLL (K : PySem.W.Frag) {A : Type} [EncA A] (f : A → Option (List (List Int))) : Sp := fun vs H Q _ => ∃ (F : Hp) (x : A) (z : List (List Int)), Same F H ∧ EncA.rels K F vs x ∧ f x = some z ∧ ∀ ws as p F' H', Gr (fun _ => False) F H F' H' → as.Nodup → (∀ a ∈ as, F' a = none ∧ H a = none) → H' p = none → LLR (fun _ => True) H' ws z as → Q (.ref p) (upd H' p (.lst ws))
/-- new objects are held -/
theorem Cx.holdL {Z : Hp} {s : S} {σ : L2.St} {F H F' H' : Hp} (c : Cx K d F0 H0 Z s σ F H) (g' : Gr (fun _ => False) F H F' H') {as : List Addr} (ha : ∀ a ∈ as, F' a = none ∧ H a = none ∧ H' a ≠ none) :
    Cx K d F0 H0 (fun b => if b ∈ as then H' b else Z b) s σ F' H' ∧ (∀ a o, Z a = some o → (if a ∈ as then H' a else Z a) = some o) ∧ ∀ a ∈ as, Z a = none := by
  have zn : ∀ a ∈ as, Z a = none := fun a h => by
    cases z : Z a with
    | none => rfl
    | some o => have := (c.hz z).1; rw [(ha a h).2.1] at this; cases this
  obtain ⟨g, dn, own, w1, w2, sl⟩ := c
  obtain ⟨g2, dn2, own2, v1, v2, sl2⟩ := Cx.call (K := K) (d := d) (F0 := F0) (H0 := H0) (Z := Z) (s := s) (σ := σ) ⟨g, dn, own, w1, w2, sl⟩ g'
  refine ⟨?_, fun a o e => by rw [if_neg (fun h => by rw [zn a h] at e; cases e)]; exact e, zn⟩
  -- own as it was
  refine ⟨g2, dn, own, fun a j e => g'.dm a (w1 a j e), fun a o e => ?_, ?_⟩
  · have e : (if a ∈ as then H' a else Z a) = some o := e
    by_cases h : a ∈ as
    · rw [if_pos h] at e
      obtain ⟨q1, q2, q3⟩ := ha a h
      refine ⟨e, q1, ?_, fun z => ?_, ?_⟩
      · cases q : own a with
        | none => rfl
        | some j => exact absurd q2 (w1 a j q)
      · exact g.dm a (dn a z) q2
      · cases q : H0 a with
        | none => rfl
        | some z => exact absurd q2 (g.dm a (by rw [q]; simp))
    · rw [if_neg h] at e
      obtain ⟨q1, q2, q3⟩ := w2 a o e
      exact ⟨g'.hh a o (fun z => z) q1, g'.fr a q2 (by rw [q1]; simp), q3⟩
  · refine Slots.grow sl (L := fun _ => True) ⟨g'.ff, fun j a _ e f n => ⟨e, g'.fr a f n, ?_⟩⟩ fun _ _ => trivial
    cases q : H a with
    | none => exact absurd q n
    | some o => exact g'.hh a o (fun z => z) q
theorem jll_call {A : Type} [EncA A] {f : A → Option (List (List Int))} {E : XK} {t : TA} {m : M S A} (ha : JA K d F0 H0 S t m) : JLL K d F0 H0 S (tCall (spLL K f) [] E t) (op1 f m) := by
  intro Z s σ F H c x s' e Q q
  obtain ⟨y1, s1, e1, e⟩ := bnd_some e
  obtain ⟨e3, rfl⟩ := lft_some e
  refine r_call (ha _ _ _ _ _ c _ _ e1 _ fun vs F1 H1 c1 q1 r1 => ⟨F1, y1, x, c1.fh, r1, e3, fun ws as p F2 H2 g nd hn hp r => ?_⟩)
  obtain ⟨k1, k2, k3⟩ := c1.holdL (as := as) g fun a h => ⟨(hn a h).1, (hn a h).2, by obtain ⟨_, us, hu⟩ := r.at a h; rw [hu]; simp⟩
  exact q _ as _ _ _ _ k1 (q1.trans g.ff) k2 nd k3 hp (r.grow fun b hb _ n => ⟨by show (if b ∈ as then H2 b else Z b) ≠ none; rw [if_pos hb]; exact n, by show (if b ∈ as then H2 b else Z b) = H2 b; rw [if_pos hb]⟩)
theorem jll_callK {A B : Type} [EncA A] [EncA B] {f : A → Option (List (List Int))} {gV : List V → List V} {gA : B → A} {E : XK} {t : TA} {m : M S B} (hg : ∀ F vs x, EncA.rels K F vs x → EncA.rels K F (gV vs) (gA x)) (ha : JA K d F0 H0 S t m) : JLL K d F0 H0 S (tKw (spLL K f) gV E t) (op1 (fun x => f (gA x)) m) := by
  intro Z s σ F H c x s' e Q q
  obtain ⟨y1, s1, e1, e⟩ := bnd_some e
  obtain ⟨e3, rfl⟩ := lft_some e
  refine r_kw (ha _ _ _ _ _ c _ _ e1 _ fun vs F1 H1 c1 q1 r1 => ⟨F1, gA y1, x, c1.fh, hg _ _ _ r1, e3, fun ws as p F2 H2 g nd hn hp r => ?_⟩)
  obtain ⟨k1, k2, k3⟩ := c1.holdL (as := as) g fun a h => ⟨(hn a h).1, (hn a h).2, by obtain ⟨_, us, hu⟩ := r.at a h; rw [hu]; simp⟩
  exact q _ as _ _ _ _ k1 (q1.trans g.ff) k2 nd k3 hp (r.grow fun b hb _ n => ⟨by show (if b ∈ as then H2 b else Z b) ≠ none; rw [if_pos hb]; exact n, by show (if b ∈ as then H2 b else Z b) = H2 b; rw [if_pos hb]⟩)
/-- given away -/
theorem Cx.letL {Z Z' : Hp} {s : S} {σ : L2.St} {F H : Hp} (c : Cx K d F0 H0 Z' s σ F H) (hz : ∀ a o, Z a = some o → Z' a = some o) {as : List Addr} (hn : ∀ a ∈ as, Z a = none) (hs : ∀ a ∈ as, Z' a ≠ none) :
    ∃ F', Same F F' ∧ (∀ a ∈ as, F' a = Z' a) ∧ Cx K d F0 H0 Z s σ F' H := by
  obtain ⟨g, dn, own, w1, w2, sl⟩ := c
  have za : ∀ b ∈ as, Z' b = H b ∧ F b = none ∧ own b = none ∧ ¬ d b ∧ H0 b = none := fun b hb => by
    cases z : Z' b with
    | none => exact absurd z (hs b hb)
    | some o =>
      obtain ⟨q1, q2⟩ := w2 b o z
      exact ⟨q1.symm, q2⟩
  let F' : Hp := fun b => if b ∈ as then H b else F b
  have sf : Same F F' := fun b u q => by
    show (if b ∈ as then H b else F b) = some u
    by_cases h : b ∈ as
    · rw [(za b h).2.1] at q; cases q
    · rw [if_neg h]; exact q
  refine ⟨F', sf, fun a h => ?_, ⟨g.ff.trans sf, fun b u q => ?_, g.hh, fun b q n => ?_, g.dm⟩, dn, own, w1, fun b u q => ?_, ?_⟩
  · show (if a ∈ as then H a else F a) = Z' a
    rw [if_pos h, (za a h).1]
  · have q : (if b ∈ as then H b else F b) = some u := q
    by_cases h : b ∈ as
    · rw [if_pos h] at q; exact q
    · rw [if_neg h] at q; exact g.fh b u q
  · show (if b ∈ as then H b else F b) = none
    have h : b ∉ as := fun h => n (za b h).2.2.2.2
    rw [if_neg h]
    exact g.fr b q n
  · obtain ⟨q1, q2, q3, q4⟩ := w2 b u (hz b u q)
    refine ⟨q1, ?_, q3, q4⟩
    show (if b ∈ as then H b else F b) = none
    have h : b ∉ as := fun h => by rw [hn b h] at q; cases q
    rw [if_neg h]; exact q2
  · refine Slots.grow sl (L := fun _ => True) ⟨sf, fun j a _ e f n => ⟨e, ?_, rfl⟩⟩ fun _ _ => trivial
    show (if a ∈ as then H a else F a) = none
    have h : a ∉ as := fun h => by rw [(za a h).2.2.1] at e; cases e
    rw [if_neg h]; exact f
theorem JLL.e {t : TE} {m : M S (List (List Int))} (h : JLL K d F0 H0 S t m) : JE K d F0 H0 S t m := by
  intro Z s σ F H c x s' e Q q
  refine h Z s σ F H c x s' e Q fun vs as p F' H' Z' c' sf hz nd hn hp r => ?_
  obtain ⟨F2, s2, k, c2⟩ := c'.letL hz hn fun a ha => (r.at a ha).1
  have n := c2.new hp (.lst vs)
  exact q _ _ _ n.1 (sf.trans (s2.trans n.2)) (rel_new (c2.fh.free hp) (r.par k))
/-- return of such a list -/
def RTLL (K : PySem.W.Frag) (d : Addr → Prop) (F0 H0 : Hp) (S : Type) [Slots S] : S → Hp → VK → List (List Int) → Prop := fun s F rt r => ∀ vs as p σ' F' H' Z', Cx K d F0 H0 Z' s σ' F' H' → Same F F' → as.Nodup → H' p = none → LLR (fun b => Z' b ≠ none) Z' vs r as → rt (.ref p) (upd H' p (.lst vs))
instance : RTm (RTLL K d F0 H0 S) := ⟨fun s h vs as p σ' F' H' Z' c q nd n r => h vs as p σ' F' H' Z' c (s.trans q) nd n r⟩
theorem js_retLL {t : TE} {m : M S (List (List Int))} (h : JLL K d F0 H0 S t m) : JS K d F0 H0 S (RTLL K d F0 H0 S) (tRet t) (retM m) := by
  intro s σ F H c f e D q
  obtain ⟨x, s1, e1, e⟩ := bindS_some e
  cases e
  exact h _ _ _ _ _ c _ _ e1 _ fun vs as p F' H' Z' c' sf hz nd hn hp r => q vs as p σ F' H' Z' c' sf nd hp r
/-- list(found.values()) -/
theorem jll_dlvals {k : Nat} (p : Pos S Dl k) : JLL K d F0 H0 S (tListVals (tVar k)) (dlV p) := by
  intro Z s σ F H c ys s' e Q q
  unfold dlV at e
  cases e0 : p.get s with
  | no => rw [e0] at e; cases e
  | mine x =>
    rw [e0] at e
    cases e
    obtain ⟨g, dn, own, w1, w2, sl⟩ := c
    obtain ⟨ov, h1, h2⟩ := p.rd sl
    rw [e0] at h2
    obtain ⟨a, kvs, as, rfl, ⟨w, pa, fa⟩, ha, nd, r⟩ := h2
    have gd : ∀ b ∈ as, own b = some (0 + k) ∧ H0 b = none ∧ F b = none ∧ H b ≠ none := fun b hb => by
      obtain ⟨⟨z1, z2, z3⟩, z4⟩ := r.at b hb
      exact ⟨z1, z2, z3, z4⟩
    have zn : ∀ b ∈ as, Z b = none := fun b hb => by
      cases z : Z b with
      | none => rfl
      | some o => have := (w2 b o z).2.2.1; rw [(gd b hb).1] at this; cases this
    refine ⟨.ref a, h1, a, kvs, rfl, ha, fun p' hp => q _ as p' F H (fun b => if b ∈ as then H b else Z b) ?_ (Same.refl _) (fun b o z => ?_) (List.nodup_cons.mp nd).2 zn hp ?_⟩
    · refine ⟨g, dn, (fun b => if b ∈ as then none else own b), fun b j z => ?_, fun b o z => ?_, ?_⟩
      · by_cases h : b ∈ as
        · simp [h] at z
        · simp [h] at z; exact w1 b j z
      · have z : (if b ∈ as then H b else Z b) = some o := z
        by_cases h : b ∈ as
        · rw [if_pos h] at z
          obtain ⟨q1, q2, q3, q4⟩ := gd b h
          exact ⟨z, q3, by simp [h], fun y => (dn b y) q2, q2⟩
        · rw [if_neg h] at z
          obtain ⟨q1, q2, q3, q4⟩ := w2 b o z
          exact ⟨q1, q2, by simp [h, q3], q4⟩
      · have rr := p.wr (own' := fun b => if b ∈ as then none else own b) (F' := F) (H' := H) (ov := some (.ref a)) (x := Dl.no) sl ⟨Same.refl _, fun j b l q f n => ⟨?_, f, rfl⟩⟩ trivial
        · rw [set_same h1] at rr
          exact rr
        · have h : b ∉ as := fun h => by have := (gd b h).1; rw [q] at this; exact l (Option.some.inj this)
          show (if b ∈ as then none else own b) = some j
          rw [if_neg h]; exact q
    · show (if b ∈ as then H b else Z b) = some o
      rw [if_neg (fun h => by rw [zn b h] at z; cases z)]; exact z
    · have gen : ∀ {kvs : List (Key × V)} {x : List (Int × List Int)} {bs : List Addr}, DlR (fun b => own b = some (0 + k) ∧ kind d H0 false b ∧ F b = none) H kvs x bs → (∀ b ∈ bs, b ∈ as) → LLR (fun b => (if b ∈ as then H b else Z b) ≠ none) (fun b => if b ∈ as then H b else Z b) (kvs.map (·.2)) (x.map (·.2)) bs := by
        intro kvs x bs r
        induction r with
        | nil => intro _; exact .nil
        | cons g e t ih =>
          intro hs
          have hb := hs _ (List.mem_cons_self ..)
          exact .cons (by rw [if_pos hb, e]; simp) (by show (if _ ∈ as then _ else _) = _; rw [if_pos hb]; exact e) (ih fun b hb => hs b (List.mem_cons_of_mem _ hb))
      exact gen r fun b hb => hb
/-! ### a variable's own such list -/
inductive Oll | no | mine (x : List (List Int))
instance : Slot Oll := ⟨fun K P own F H i ov x => match x with
    | .no => True
    | .mine x => ∃ a vs as, ov = some (.ref a) ∧ (own a = some i ∧ P false a ∧ F a = none) ∧ H a = some (.lst vs) ∧ (a :: as).Nodup ∧ LLR (fun b => own b = some i ∧ P false b ∧ F b = none) H vs x as,
  fun {K P own own' F H F' H' L i ov x} h s l => match x, h with
  | .no, h => trivial
  | .mine x, ⟨a, vs, as, e, ⟨w, p, f⟩, g, nd, r⟩ => by
    obtain ⟨w', f', g'⟩ := s.ow i a l w f (by rw [g]; simp)
    refine ⟨a, vs, as, e, ⟨w', p, f'⟩, by rw [g']; exact g, nd, r.grow fun b _ ⟨w1, p1, f1⟩ hn => ?_⟩
    obtain ⟨w2, f2, g2⟩ := s.ow i b l w1 f1 hn
    exact ⟨⟨w2, p1, f2⟩, g2⟩⟩
variable {Z : Hp} {s : S} {σ : L2.St} {F H : Hp}
theorem Cx.ownLL {Z' : Hp} {k : Nat} (c : Cx K d F0 H0 Z' s σ F H) (p : Pos S Oll k) {a : Addr} {as : List Addr} {vs : List V} {x : List (List Int)} (ha : H a = none) (hz : ∀ a o, Z a = some o → Z' a = some o) (nd : as.Nodup) (hn : ∀ a ∈ as, Z a = none)
    (hr : LLR (fun b => Z' b ≠ none) Z' vs x as) : Cx K d F0 H0 Z (p.put s (.mine x)) (σ.set k (some (.ref a))) F (upd H a (.lst vs)) := by
  obtain ⟨g, dn, own, w1, w2, sl⟩ := c
  have fa : F a = none := g.fh.free ha
  have h0 : H0 a = none := by
    cases q : H0 a with
    | none => rfl
    | some z => exact absurd ha (g.dm a (by rw [q]; simp))
  have ne : ∀ b, H b ≠ none → b ≠ a := fun b n z => n (by rw [z]; exact ha)
  have ia : ∀ b ∈ as, ∃ us, Z' b = some (.lst us) := fun b hb => (hr.at b hb).2
  have za : ∀ b ∈ as, H b ≠ none ∧ F b = none ∧ own b = none ∧ ¬ d b ∧ H0 b = none ∧ H b = Z' b := fun b hb => by
    obtain ⟨us, hu⟩ := ia b hb
    obtain ⟨q1, q2, q3, q4, q5⟩ := w2 b _ hu
    exact ⟨by rw [q1]; simp, q2, q3, q4, q5, by rw [q1, hu]⟩
  have na : a ∉ as := fun h => (za a h).1 ha
  refine ⟨⟨g.ff, fun b u q => ?_, fun b u n q => ?_, g.fr, fun b n => ?_⟩, dn, (fun b => if b = a ∨ b ∈ as then some k else own b), fun b j q => ?_, fun b u q => ?_, ?_⟩
  · rw [upd_ne (fun z => by subst z; rw [fa] at q; cases q)]
    exact g.fh b u q
  · rw [upd_ne (fun z => by subst z; rw [h0] at q; cases q)]
    exact g.hh b u n q
  · rw [upd_ne (ne b (g.dm b n))]
    exact g.dm b n
  · by_cases h : b = a
    · subst h; rw [upd_same]; simp
    · rw [upd_ne h]
      by_cases h2 : b ∈ as
      · exact (za b h2).1
      · simp [h, h2] at q
        exact w1 b j q
  · obtain ⟨q1, q2, q3, q4, q5⟩ := w2 b u (hz b u q)
    have n : b ≠ a := ne_of_none q1 ha
    have n2 : b ∉ as := fun h => by rw [hn b h] at q; cases q
    rw [upd_ne n]
    exact ⟨q1, q2, by simp [n, n2, q3], q4, q5⟩
  · refine p.wr (own' := fun b => if b = a ∨ b ∈ as then some k else own b) sl ⟨Same.refl _, fun j b l q f n => ?_⟩ ⟨a, vs, as, rfl, ⟨by simp, h0, fa⟩, upd_same, List.nodup_cons.mpr ⟨na, nd⟩, hr.grow fun b hb _ _ => ?_⟩
    · have z := ne b n
      have z2 : b ∉ as := fun h => by rw [(za b h).2.2.1] at q; cases q
      exact ⟨by simp [z, z2, q], f, upd_ne z⟩
    · obtain ⟨q1, q2, q3, q4, q5, q6⟩ := za b hb
      have n : b ≠ a := fun z => na (z ▸ hb)
      exact ⟨⟨by simp [hb], q5, q2⟩, by rw [upd_ne n]; exact q6⟩
/-- read as a whole -/
theorem Cx.peekLL {k : Nat} (c : Cx K d F0 H0 Z s σ F H) (p : Pos S Oll k) {x : List (List Int)} (e : p.get s = .mine x) : ∃ a vs, σ[k]? = some (some (.ref a)) ∧ H a = some (.lst vs) ∧ DpAll K H vs (x.map EncD.d) := by
  obtain ⟨g, dn, own, w1, w2, sl⟩ := c
  obtain ⟨ov, h1, h2⟩ := p.rd sl
  rw [e] at h2
  obtain ⟨a, vs, as, rfl, w, ha, nd, r⟩ := h2
  refine ⟨a, vs, h1, ha, ?_⟩
  have pr : Paired (rel K H) vs x := r.par fun b _ => rfl
  exact dpAll_of pr
variable {ρ : Type} {RT : S → Hp → VK → ρ → Prop} [RTm RT]
def pOll {S : Type} [Slots S] {k : Nat} (p : Pos S Oll k) : List (List Int) → S → Option S := fun x s => some (p.put s (.mine x))
theorem js_oll {k : Nat} (p : Pos S Oll k) {t : TE} {m : M S (List (List Int))} (h : JLL K d F0 H0 S t m) : JS K d F0 H0 S RT (tAsg t (gName k)) (asgM m (pOll p)) := by
  intro s σ F H c f e D q
  obtain ⟨x, s1, e1, ea⟩ := bindS_some e
  cases ea
  exact r_asg (h _ _ _ _ _ c _ _ e1 _ fun vs as a F1 H1 Z1 c1 q1 hz nd hn hp hr => r_name (q _ F1 _ (c1.ownLL p hp hz nd hn hr) q1))
def rdLL {S : Type} [Slots S] {k : Nat} (p : Pos S Oll k) : M S (List (List Int)) := fun s => match p.get s with | .mine x => some (x, s) | _ => none
theorem rdLL_some {k : Nat} {p : Pos S Oll k} {s s' : S} {x : List (List Int)} (h : rdLL p s = some (x, s')) : p.get s = .mine x ∧ s' = s := by
  unfold rdLL at h
  cases e : p.get s with
  | no => rw [e] at h; cases h
  | mine y => rw [e] at h; cases h; exact ⟨rfl, rfl⟩
def ixLL {S β γ : Type} [Slots S] {k : Nat} (p : Pos S Oll k) (m : M S β) (f : List (List Int) → β → Option γ) : M S γ := bnd (rdLL p) fun _ => bnd m fun i => bnd (rdLL p) fun x => lft (f x i)
theorem ixLL_some {β γ : Type} {k : Nat} {p : Pos S Oll k} {m : M S β} {f : List (List Int) → β → Option γ} {s s' : S} {z : γ} (h : ixLL p m f s = some (z, s')) : ∃ x0 i x, p.get s = .mine x0 ∧ m s = some (i, s') ∧ p.get s' = .mine x ∧ f x i = some z := by
  obtain ⟨y0, s0, e0, e⟩ := bnd_some h
  obtain ⟨e0, rfl⟩ := rdLL_some e0
  obtain ⟨y1, s1, e1, e⟩ := bnd_some e
  obtain ⟨y2, s2, e2, e⟩ := bnd_some e
  obtain ⟨e3, rfl⟩ := lft_some e
  obtain ⟨e2, rfl⟩ := rdLL_some e2
  exact ⟨y0, y1, y2, e0, e1, e2, e3⟩
/-- repr([told, y]) -/
theorem j_reprLL {k : Nat} (p : Pos S Oll k) {t : TE} {m : M S (List (List Int))} (h : JE K d F0 H0 S t m) : JE K d F0 H0 S (tCB (rRepr K) (tCons (tLst (tCons (tVar k) (tCons t tNil))) tNil)) (ixLL p m fun x y => gRepr [x, y]) := by
  intro Z s σ F H c x s' e Q q
  obtain ⟨x0, i, y, e0, e1, e2, e3⟩ := ixLL_some e
  obtain ⟨k, rfl⟩ := gRepr_some e3
  obtain ⟨a, vs, h1, _, _⟩ := c.peekLL p e0
  refine r_cb (r_cons (r_lst (r_cons ⟨.ref a, h1, r_cons (h _ _ _ _ _ c _ _ e1 _ fun v F' H' c' sf r => r_nil ⟨by show 2 ≤ sizeLine; decide, fun l hl => r_nil ?_⟩)⟩)))
  obtain ⟨a', vs, h1', ha, dp⟩ := c'.peekLL p e2
  rw [h1] at h1'
  cases h1'
  have sl : Same H' (upd H' l (.lst [.ref a, v])) := Same.new hl
  refine ⟨l, _, rfl, .lst (.inl (.inl upd_same)) (.cons (.lst (Same.seq sl (sqe ha)) (DpAll.same sl dp)) (.cons (Dp.same (c'.fh.trans sl) (EncD.dp r)) .nil)), k, q _ _ _ (c'.drop hl _) sf rfl⟩
/-- told[0].append(const) -/
def appLL {S ρ : Type} [Slots S] {k : Nat} (p : Pos S Oll k) (v : Int) : MS S ρ := fun s => match p.get s with
  | .mine (xs :: x) => if xs.length < 100000 then some (.nx (p.put s (.mine ((xs ++ [v]) :: x)))) else none
  | _ => none
theorem js_appLL {k : Nat} (p : Pos S Oll k) (v : Int) : JS K d F0 H0 S RT (tDrop (tBM K "list" rAppend (tOp (rIxL K) (tVar k) (tC (.int 0))) (tCons (tC (.int v)) tNil))) (appLL p v) := by
  intro s σ F H c f e D q
  unfold appLL at e
  cases e1 : p.get s with
  | no => rw [e1] at e; cases e
  | mine x =>
    cases x with
    | nil => rw [e1] at e; cases e
    | cons xs x =>
      rw [e1] at e
      simp only at e
      obtain ⟨hl, e⟩ := ite_some e
      cases e
      obtain ⟨g, dn, own, w1, w2, sl⟩ := c
      obtain ⟨ov, h1, h2⟩ := p.rd sl
      rw [e1] at h2
      obtain ⟨a, vs, as, rfl, ⟨w, pa, fa⟩, ha, nd, r⟩ := h2
      cases r with
      | cons gb hb t =>
      rename_i b vs as
      obtain ⟨wb, pb, fb⟩ := gb
      have pb : H0 b = none := pb
      have nd1 := List.nodup_cons.mp nd
      have nd2 := List.nodup_cons.mp nd1.2
      have nab : a ≠ b := fun z => nd1.1 (z ▸ List.mem_cons_self ..)
      refine r_drop (r_bm (r_op ⟨.ref a, h1, ?_⟩))
      show rIxL K (.ref a) (.int 0) H fun x H1 => tyV K "list" x H1 ∧ tCons (tC (.int v)) tNil σ H1 fun xs H2 => rAppend x xs H2 fun x H1 => D.nx σ H1
      refine r_ixL (sqe ha) (atI_nat (j := 0) rfl) ?_
      refine ⟨.inl ⟨rfl, _, sqe hb⟩, ?_⟩
      show rAppend (.ref b) [.int v] H fun x H1 => D.nx σ H1
      refine r_app hb (by rw [List.length_map]; exact hl) (q _ F _ ?_ (Same.refl _))
      have e9 : xs.map V.int ++ [V.int v] = (xs ++ [v]).map V.int := by simp
      rw [e9]
      refine ⟨⟨g.ff, fun b' u q => ?_, fun b' u n q => ?_, g.fr, fun b' n => ?_⟩, dn, own, fun b' j q => ?_, fun b' u q => ?_, ?_⟩
      · rw [upd_ne (fun z => by subst z; rw [fb] at q; cases q)]
        exact g.fh b' u q
      · rw [upd_ne (fun z => by subst z; rw [pb] at q; cases q)]
        exact g.hh b' u n q
      · by_cases h : b' = b
        · subst h; rw [upd_same]; simp
        · rw [upd_ne h]; exact g.dm b' n
      · by_cases h : b' = b
        · subst h; rw [upd_same]; simp
        · rw [upd_ne h]; exact w1 b' j q
      · obtain ⟨q1, q2, q3, q4⟩ := w2 b' u q
        rw [upd_ne (fun z => by subst z; rw [wb] at q3; cases q3)]
        exact ⟨q1, q2, q3, q4⟩
      · have rr := p.wr (own' := own) (F' := F) (H' := upd H b (.lst ((xs ++ [v]).map V.int))) (ov := some (.ref a)) (x := Oll.mine ((xs ++ [v]) :: x)) sl ⟨Same.refl _, fun j b' l q f n => ⟨q, f, ?_⟩⟩ ⟨a, .ref b :: vs, b :: as, rfl, ⟨w, pa, fa⟩, by rw [upd_ne nab]; exact ha, nd, .cons ⟨wb, pb, fb⟩ upd_same (t.grow fun b' hb' gb' _ => ⟨gb', upd_ne (fun z => nd2.1 (z ▸ hb'))⟩)⟩
        · rw [set_same h1] at rr
          exact rr
        · rw [upd_ne (fun z => by subst z; rw [wb] at q; exact l (Option.some.inj q).symm)]
/-- told.append(const), where nothing more is asked of it -/
def cutLL {S ρ : Type} [Slots S] {k : Nat} (p : Pos S Oll k) : MS S ρ := fun s => match p.get s with
  | .mine x => if x.length < 100000 then some (.nx (p.put s .no)) else none
  | _ => none
theorem js_cutLL {k : Nat} (p : Pos S Oll k) (v : V) : JS K d F0 H0 S RT (tDrop (tBM K "list" rAppend (tVar k) (tCons (tC v) tNil))) (cutLL p) := by
  intro s σ F H c f e D q
  unfold cutLL at e
  cases e1 : p.get s with
  | no => rw [e1] at e; cases e
  | mine x =>
    rw [e1] at e
    simp only at e
    obtain ⟨hl, e⟩ := ite_some e
    cases e
    obtain ⟨g, dn, own, w1, w2, sl⟩ := c
    obtain ⟨ov, h1, h2⟩ := p.rd sl
    rw [e1] at h2
    obtain ⟨a, vs, as, rfl, ⟨wb, pb, fb⟩, ha, nd, r⟩ := h2
    have pb : H0 a = none := pb
    refine r_drop (r_bm ⟨.ref a, h1, .inl ⟨rfl, _, sqe ha⟩, ?_⟩)
    show rAppend (.ref a) [v] H fun x H1 => D.nx σ H1
    refine r_app ha (by rw [r.len]; exact hl) (q _ F _ ?_ (Same.refl _))
    refine ⟨⟨g.ff, fun b' u q => ?_, fun b' u n q => ?_, g.fr, fun b' n => ?_⟩, dn, own, fun b' j q => ?_, fun b' u q => ?_, ?_⟩
    · rw [upd_ne (fun z => by subst z; rw [fb] at q; cases q)]
      exact g.fh b' u q
    · rw [upd_ne (fun z => by subst z; rw [pb] at q; cases q)]
      exact g.hh b' u n q
    · by_cases h : b' = a
      · subst h; rw [upd_same]; simp
      · rw [upd_ne h]; exact g.dm b' n
    · by_cases h : b' = a
      · subst h; rw [upd_same]; simp
      · rw [upd_ne h]; exact w1 b' j q
    · obtain ⟨q1, q2, q3, q4⟩ := w2 b' u q
      rw [upd_ne (fun z => by subst z; rw [wb] at q3; cases q3)]
      exact ⟨q1, q2, q3, q4⟩
    · have rr := p.wr (own' := own) (F' := F) (H' := upd H a (.lst (vs ++ [v]))) (ov := some (.ref a)) (x := Oll.no) sl ⟨Same.refl _, fun j b' l q f n => ⟨q, f, ?_⟩⟩ trivial
      · rw [set_same h1] at rr
        exact rr
      · rw [upd_ne (fun z => by subst z; rw [wb] at q; exact l (Option.some.inj q).symm)]
end
/-! ### a def that returns such a list -/
section
variable {K : PySem.W.Frag} {S A : Type} [Slots S] [EncA A]
theorem read_LL {N : List Str} {n : Nat} {init : A → S} (hi : Ini A S N n init) {t : TS} {m : MS S (List (List Int))} (js : ∀ F0 H0, JS K no F0 H0 S (RTLL K no F0 H0 S) t m) {vs : List V} {H : Hp} {Q : VK} {E : XK}
    (h : spLL K (fun x : A => run m (init x)) vs H Q E) : t { nx := fun _ H' => Q .non H', rt := Q } (start N vs) H := by
  obtain ⟨F, x, z, s, r, e, k⟩ := h
  have e : run m (init x) = some z := e
  cases e1 : m (init x) with
  | none => unfold run at e; rw [e1] at e; cases e
  | some f =>
    unfold run at e
    rw [e1] at e
    cases f with
    | nx s' => cases e
    | bk s' => cases e
    | ct s' => cases e
    | rt r s' =>
      cases e
      refine js F H _ _ F H (cx_start hi s r) _ e1 _ fun ws as p σ' F' H' Z' c _ nd hp rl => ?_
      have hz : ∀ a ∈ as, F' a = none ∧ H a = none ∧ H' a = Z' a := fun a ha => by
        obtain ⟨_, us, hu⟩ := rl.at a ha
        obtain ⟨_, _, own, _, w2, _⟩ := c
        obtain ⟨q1, q2, _, _, q5⟩ := w2 a _ hu
        exact ⟨q2, q5, by rw [q1, hu]⟩
      exact k ws as p F' H' c.1 nd (fun a ha => ⟨(hz a ha).1, (hz a ha).2.1⟩) hp (rl.grow fun b hb _ _ => ⟨trivial, (hz b hb).2.2⟩)
theorem len_LL {f : A → Option (List (List Int))} {N : List Str} {n : Nat} {init : A → S} (hi : Ini A S N n init) {vs : List V} {H : Hp} {Q : VK} {E : XK} (h : spLL K f vs H Q E) : vs.length = n := by
  obtain ⟨F, x, z, s, r, _⟩ := h
  exact (hi K (fun _ _ => True) (fun _ => none) F H vs x r).2
end
/-! ### in plain functions -/
section
variable {S α β γ A ρ : Type} [Slots S] {s s' : S} {γ' δ' : Type} {Q : Option γ' → Option δ' → Prop} [BR Q]
theorem v_rdLL {k : Nat} {p : Pos S Oll k} {x : List (List Int)} (h : p.get s = .mine x) : rdLL p s = some (x, s) := by unfold rdLL; rw [h]
theorem e_ixLL {k : Nat} {p : Pos S Oll k} {m : M S β} {f : List (List Int) → β → Option γ} {s : S} : ixLL p m f s = (rdLL p s).bind fun p1 => (m p1.2).bind fun i => (rdLL p i.2).bind fun x => (f x.1 i.1).bind fun z => some (z, x.2) := nrfl rfl
theorem v_ixLL {k : Nat} {p : Pos S Oll k} {m : M S β} {f : List (List Int) → β → Option γ} {x : List (List Int)} {y : β} {z : γ} (h : p.get s = .mine x) (e : m s = some (y, s)) (e2 : f x y = some z) : ixLL p m f s = some (z, s) := by
  rw [e_ixLL, v_rdLL h]; simp only [Option.bind_some, e, v_rdLL h, e2]
theorem o_ixLL {k : Nat} {p : Pos S Oll k} {m : M S β} {f : List (List Int) → β → Option γ} {x : List (List Int)} {y : β} {t : Option γ} (h : p.get s = .mine x) (e : m s = some (y, s)) (e2 : f x y = t) : ixLL p m f s = t.bind fun z => some (z, s) := by
  rw [e_ixLL, v_rdLL h]; simp only [Option.bind_some, e, v_rdLL h, e2]
theorem k_ixLL {k : Nat} {p : Pos S Oll k} {m : M S β} {f : List (List Int) → β → Option γ} {x : List (List Int)} {k' : γ × S → Option γ'} {o : Option δ'} (h : p.get s = .mine x)
    (K : Q ((m s).bind fun q => (rdLL p q.2).bind fun r => (f r.1 q.1).bind fun z => k' (z, r.2)) o) : Q ((ixLL p m f s).bind k') o := by
  rw [e_ixLL, v_rdLL h]; simp only [Option.bind_assoc, Option.bind_some]; exact K
theorem p_oll {k : Nat} {p : Pos S Oll k} {x : List (List Int)} {k' : S → Option γ'} {o : Option δ'} (h : p.put s (.mine x) = s') (K : Q (k' s') o) : Q ((pOll p x s).bind k') o := by subst h; exact K
/-- the lists are short -/
def llOk (v : Int) (x : List (List Int)) : Option (List (List Int)) := match x with | xs :: x => if xs.length < 100000 then some ((xs ++ [v]) :: x) else none | [] => none
def llLen (x : List (List Int)) : Option Unit := if x.length < 100000 then some () else none
theorem s_appLL {k : Nat} {p : Pos S Oll k} {v : Int} {x : List (List Int)} {kf : Fl S ρ → Option γ'} {o : List (List Int) → Option δ'} (h : p.get s = .mine x) (K : ∀ y, Q (kf (.nx (p.put s (.mine y)))) (o y)) : Q ((appLL (ρ := ρ) p v s).bind kf) ((llOk v x).bnd o) := by
  have e : appLL (ρ := ρ) p v s = (llOk v x).map fun y => .nx (p.put s (.mine y)) := by
    unfold appLL llOk
    rw [h]
    cases x with
    | nil => rfl
    | cons xs x =>
      by_cases c : xs.length < 100000
      · simp only [if_pos c]; rfl
      · simp only [if_neg c]; rfl
  rw [e]
  cases llOk v x with
  | none => exact BR.bnd none (f := fun y => kf (.nx (p.put s (.mine y)))) K
  | some y => exact BR.bnd (some y) (f := fun y => kf (.nx (p.put s (.mine y)))) K
theorem s_cutLL {k : Nat} {p : Pos S Oll k} {x : List (List Int)} {kf : Fl S ρ → Option γ'} {o : Unit → Option δ'} (h : p.get s = .mine x) (hs : p.put s .no = s') (K : ∀ u, Q (kf (.nx s')) (o u)) : Q ((cutLL (ρ := ρ) p s).bind kf) ((llLen x).bnd o) := by
  subst hs
  have e : cutLL (ρ := ρ) p s = (llLen x).map fun _ => .nx (p.put s .no) := by
    unfold cutLL llLen
    rw [h]
    by_cases c : x.length < 100000
    · simp only [if_pos c]; rfl
    · simp only [if_neg c]; rfl
  rw [e]
  cases llLen x with
  | none => exact BR.bnd none (f := fun _ => kf (.nx (p.put s .no))) K
  | some y => exact BR.bnd (some y) (f := fun _ => kf (.nx (p.put s .no))) K
end
end Rm
namespace Rm
open PySem PySem.Spec PyProof.Rows L2 Rg
open Enc (rel)
open Cell (cel)
open Slot (srel)
open Slots (srels)
/-! ### dicts by texts, a variable's own -/
structure DS (α : Type) where
  kvs : List (Str × α)
instance {α : Type} [Enc α] : Enc (DS α) := ⟨fun K F v x => ∃ a kvs, v = .ref a ∧ F a = some (.dK kvs) ∧ Paired (fun (p : Key × V) (q : Str × α) => p.1 = .inr q.1 ∧ rel K F p.2 q.2) kvs x.kvs, fun s ⟨a, kvs, e, h, p⟩ => ⟨a, kvs, e, s _ _ h, Paired.imp (fun _ _ h => ⟨h.1, Enc.mono s h.2⟩) p⟩⟩
instance {α : Type} [Enc α] : Cell (DS α) := ⟨fun K F o x => ∃ kvs, o = .dK kvs ∧ Paired (fun (p : Key × V) (q : Str × α) => p.1 = .inr q.1 ∧ rel K F p.2 q.2) kvs x.kvs, fun s ⟨vs, e, p⟩ => ⟨vs, e, Paired.imp (fun _ _ h => ⟨h.1, Enc.mono s h.2⟩) p⟩⟩
instance {α : Type} [Enc α] : Frz (DS α) := ⟨fun K F v x => rel K F v x, fun s h => Enc.mono s h⟩
def DS.get {α : Type} (d : DS α) (k : Str) : Option α := (d.kvs.find? fun p => decide (p.1 = k)).map (·.2)
def DS.set {α : Type} (d : DS α) (k : Str) (v : α) : DS α := ⟨if (d.kvs.any fun p => decide (p.1 = k)) = true then d.kvs.map (fun p => if p.1 = k then (p.1, v) else p) else d.kvs ++ [(k, v)]⟩
abbrev KvRS (K : PySem.W.Frag) (F : Hp) {α : Type} [Enc α] : Key × V → Str × α → Prop := fun p q => p.1 = .inr q.1 ∧ rel K F p.2 q.2
section
variable {K : PySem.W.Frag} {F : Hp} {α : Type} [Enc α]
theorem di_getS {k : Str} : ∀ {kvs : List (Key × V)} {xs : List (Str × α)}, Paired (KvRS K F) kvs xs → (∀ y, (DS.mk xs).get k = some y → ∃ v, valV kvs (Sum.inr k) = some v ∧ rel K F v y) ∧ ((DS.mk xs).get k = none → valV kvs (Sum.inr k) = none)
  | _, _, .nil => ⟨fun y h => (nomatch h), fun _ => rfl⟩
  | _, _, .cons (a := a) (b := b) ⟨h1, h2⟩ t => by
    have ih := di_getS (k := k) t
    unfold DS.get at ih ⊢
    unfold valV at ih ⊢
    by_cases e : b.1 = k
    · subst e
      rw [List.find?_cons_of_pos (by simp), List.find?_cons_of_pos (by simp [h1])]
      exact ⟨fun y h => by cases h; exact ⟨_, rfl, h2⟩, fun h => (nomatch h)⟩
    · rw [List.find?_cons_of_neg (by simp [e]), List.find?_cons_of_neg (by simp [h1, e])]
      exact ih
theorem di_anyS {k : Str} : ∀ {kvs : List (Key × V)} {xs : List (Str × α)}, Paired (KvRS K F) kvs xs → (kvs.any fun kv => decide (kv.1 = Sum.inr k)) = xs.any fun p => decide (p.1 = k)
  | _, _, .nil => rfl
  | _, _, .cons ⟨h1, h2⟩ t => by rw [List.any_cons, List.any_cons, di_anyS t, h1]; simp
theorem di_mapS {k : Str} {v : V} {y : α} (r : rel K F v y) : ∀ {kvs : List (Key × V)} {xs : List (Str × α)}, Paired (KvRS K F) kvs xs → Paired (KvRS K F) (kvs.map fun kv => if kv.1 = Sum.inr k then (kv.1, v) else kv) (xs.map fun p => if p.1 = k then (p.1, y) else p)
  | _, _, .nil => .nil
  | _, _, .cons (a := a) (b := b) ⟨h1, h2⟩ t => by
    rw [List.map_cons, List.map_cons]
    refine .cons ?_ (di_mapS r t)
    by_cases e : b.1 = k
    · rw [if_pos e, if_pos (by rw [h1, e])]
      exact ⟨h1, r⟩
    · rw [if_neg e, if_neg (by rw [h1]; intro z; exact e (Sum.inr.inj z))]
      exact ⟨h1, h2⟩
theorem di_putS {k : Str} {v : V} {y : α} (r : rel K F v y) {kvs : List (Key × V)} {xs : List (Str × α)} (p : Paired (KvRS K F) kvs xs) : Paired (KvRS K F) (putK kvs (Sum.inr k) v) ((DS.mk xs).set k y).kvs := by
  unfold putK DS.set
  rw [di_anyS p]
  by_cases h : (xs.any fun p => decide (p.1 = k)) = true
  · rw [if_pos h]
    show Paired _ _ (if _ then _ else _)
    rw [if_pos h]
    exact di_mapS r p
  · rw [if_neg h]
    show Paired _ _ (if _ then _ else _)
    rw [if_neg h]
    exact Paired.append p (.cons ⟨rfl, r⟩ .nil)
end
section
variable {K : PySem.W.Frag} {d : Addr → Prop} {F0 H0 : Hp} {S : Type} [Slots S]
def rddS {S α : Type} [Slots S] [Enc α] {k : Nat} (p : Pos S (Own (DS α)) k) : M S (DS α) := fun s => match p.get s with | .mine x => some (x, s) | .gone _ => none | .no => none
theorem rdd_someS {α : Type} [Enc α] {k : Nat} {p : Pos S (Own (DS α)) k} {s s' : S} {x : DS α} (h : rddS p s = some (x, s')) : p.get s = .mine x ∧ s' = s := by
  unfold rddS at h
  cases e : p.get s with
  | no => rw [e] at h; cases h
  | mine y => rw [e] at h; cases h; exact ⟨rfl, rfl⟩
  | gone y => rw [e] at h; cases h
theorem Cx.peekDS {α : Type} [Enc α] {Z : Hp} {s : S} {σ : L2.St} {F H : Hp} {k : Nat} (c : Cx K d F0 H0 Z s σ F H) (p : Pos S (Own (DS α)) k) {x : DS α} (e : p.get s = .mine x) : ∃ a kvs, σ[k]? = some (some (.ref a)) ∧ H a = some (.dK kvs) ∧ Paired (KvRS K F) kvs x.kvs := by
  obtain ⟨a, o, h1, ha, ⟨kvs, rfl, r⟩, _⟩ := c.mut p e
  exact ⟨a, kvs, h1, ha, r⟩
variable {ρ : Type} {RT : S → Hp → VK → ρ → Prop} [RTm RT]
def dgetMS {S α γ : Type} [Slots S] [Enc α] {k : Nat} (p : Pos S (Own (DS α)) k) (m : M S γ) (f : DS α → γ → Option α) : M S α := bnd (rddS p) fun _ => bnd m fun i => bnd (rddS p) fun x => lft (f x i)
theorem dgetM_someS {α γ : Type} [Enc α] {k : Nat} {p : Pos S (Own (DS α)) k} {m : M S γ} {f : DS α → γ → Option α} {s s' : S} {z : α} (h : dgetMS p m f s = some (z, s')) : ∃ x0 i x, p.get s = .mine x0 ∧ m s = some (i, s') ∧ p.get s' = .mine x ∧ f x i = some z := by
  obtain ⟨y0, s0, e0, e⟩ := bnd_some h
  obtain ⟨e0, rfl⟩ := rdd_someS e0
  obtain ⟨y1, s1, e1, e⟩ := bnd_some e
  obtain ⟨y2, s2, e2, e⟩ := bnd_some e
  obtain ⟨e3, rfl⟩ := lft_some e
  obtain ⟨e2, rfl⟩ := rdd_someS e2
  exact ⟨y0, y1, y2, e0, e1, e2, e3⟩
theorem j_dgetS {α : Type} [Enc α] {k : Nat} (p : Pos S (Own (DS α)) k) {t : TE} {m : M S Str} (h : JE K d F0 H0 S t m) : JE K d F0 H0 S (tDGet (tVar k) t) (dgetMS p m fun x i => x.get i) := by
  intro Z s σ F H c x s' e Q q
  obtain ⟨x0, i, y, e0, e1, e2, e3⟩ := dgetM_someS e
  obtain ⟨a, kvs, h1, _, _⟩ := c.peekDS p e0
  refine ⟨.ref a, h1, h _ _ _ _ _ c _ _ e1 _ fun v F' H' c' sf r => ?_⟩
  cases r
  obtain ⟨a', kvs, h1', ha, pr⟩ := c'.peekDS p e2
  rw [h1] at h1'
  cases h1'
  obtain ⟨v, hv, rv⟩ := (di_getS (k := i) pr).1 x e3
  have g := DGet.k (k := (Sum.inr i : Key)) ha
  rw [hv] at g
  exact ⟨a, v, rfl, g, q _ _ _ c' sf rv⟩
def dputMS {S α ρ : Type} [Slots S] [Enc α] {k : Nat} (p : Pos S (Own (DS α)) k) (mv : M S α) (mi : M S Str) : MS S ρ := bindS mv fun y => bindS (rddS p) fun _ => bindS mi fun i => bindS (rddS p) fun x s => if x.kvs.length < 100000 then some (.nx (p.put s (.mine (x.set i y)))) else none
theorem js_dputS {α : Type} [Enc α] {k : Nat} (p : Pos S (Own (DS α)) k) {t ti : TE} {mv : M S α} {mi : M S Str} (h : JE K d F0 H0 S t mv) (hi : JE K d F0 H0 S ti mi) : JS K d F0 H0 S RT (sDPut (tVar k) ti t) (dputMS p mv mi) := by
  intro s σ F H c f e D q
  obtain ⟨y, s1, e1, ea⟩ := bindS_some e
  obtain ⟨x0, s0, eb, ec⟩ := bindS_some ea
  obtain ⟨e0, es⟩ := rdd_someS eb
  rw [es] at ec
  obtain ⟨i, s2, e2, ed⟩ := bindS_some ec
  obtain ⟨xs, s3, ef, eg⟩ := bindS_some ed
  obtain ⟨e3, es3⟩ := rdd_someS ef
  rw [es3] at eg
  obtain ⟨hl, rfl⟩ := ite_some eg
  refine h _ _ _ _ _ c _ _ e1 _ fun v F' H' c' sf r => ?_
  obtain ⟨a, kvs, h1, ha, _⟩ := c'.peekDS p e0
  refine ⟨.ref a, h1, hi _ _ _ _ _ c' _ _ e2 _ fun w F2 H2 c2 sf2 r2 => ?_⟩
  cases r2
  obtain ⟨a', o, h1', ha', ⟨kvs', rfl, pr⟩, _, k⟩ := c2.mut p e3
  rw [h1] at h1'
  cases h1'
  refine ⟨a, _, rfl, DPut.k (k := (Sum.inr i : Key)) ha' (by rw [Paired.length pr]; exact Nat.lt_of_lt_of_le hl (by decide)), q _ F2 _ (k _ (xs.set i y) ⟨_, rfl, di_putS (Enc.mono sf2 r) pr⟩) (sf.trans sf2)⟩
theorem di_someS {α : Type} [Enc α] {F : Hp} {k : Str} {kvs : List (Key × V)} {xs : List (Str × α)} (p : Paired (KvRS K F) kvs xs) : (valV kvs (Sum.inr k)).isSome = ((DS.mk xs).get k).isSome := by
  cases e : (DS.mk xs).get k with
  | none => rw [(di_getS (k := k) p).2 e]; rfl
  | some y => obtain ⟨v, hv, _⟩ := (di_getS (k := k) p).1 y e; rw [hv]; rfl
def dqMS {S α γ δ : Type} [Slots S] [Enc α] {k : Nat} (p : Pos S (Own (DS α)) k) (m : M S γ) (f : DS α → γ → Option δ) : M S δ := bnd m fun i => bnd (rddS p) fun x => lft (f x i)
theorem j_ninDOS {α : Type} [Enc α] {k : Nat} (p : Pos S (Own (DS α)) k) {t : TE} {m : M S Str} (h : JE K d F0 H0 S t m) : JE K d F0 H0 S (tDNotIn t (tVar k)) (dqMS p m fun y x => some (!(y.get x).isSome)) := by
  intro Z s σ F H c x s' e Q q
  obtain ⟨y1, s1, e1, e⟩ := bnd_some e
  obtain ⟨y2, s2, e2, e⟩ := bnd_some e
  obtain ⟨e3, rfl⟩ := lft_some e
  cases e3
  obtain ⟨e2, rfl⟩ := rdd_someS e2
  refine h _ _ _ _ _ c _ _ e1 _ fun v F' H' c' sf r => ?_
  cases r
  obtain ⟨a, kvs, h1, ha, pr⟩ := c'.peekDS p e2
  refine ⟨.ref a, h1, a, _, rfl, DGet.k (k := (Sum.inr y1 : Key)) ha, ?_⟩
  rw [di_someS pr]
  exact q _ _ _ c' sf rfl
theorem j_inDOS {α : Type} [Enc α] {k : Nat} (p : Pos S (Own (DS α)) k) {t : TE} {m : M S Str} (h : JE K d F0 H0 S t m) : JE K d F0 H0 S (tDIn t (tVar k)) (dqMS p m fun y x => some (y.get x).isSome) := by
  intro Z s σ F H c x s' e Q q
  obtain ⟨y1, s1, e1, e⟩ := bnd_some e
  obtain ⟨y2, s2, e2, e⟩ := bnd_some e
  obtain ⟨e3, rfl⟩ := lft_some e
  cases e3
  obtain ⟨e2, rfl⟩ := rdd_someS e2
  refine h _ _ _ _ _ c _ _ e1 _ fun v F' H' c' sf r => ?_
  cases r
  obtain ⟨a, kvs, h1, ha, pr⟩ := c'.peekDS p e2
  refine ⟨.ref a, h1, a, _, rfl, DGet.k (k := (Sum.inr y1 : Key)) ha, ?_⟩
  rw [di_someS pr]
  exact q _ _ _ c' sf rfl
def pOwnDS {S α : Type} [Slots S] [Enc α] {k : Nat} (p : Pos S (Own (DS α)) k) : DS α → S → Option S := fun x s => some (p.put s (.mine x))
theorem js_parODS {α β : Type} [Enc α] [Enc β] {i j : Nat} (p : Pos S (Own (List α)) i) (p' : Pos S (Own (DS β)) j) {ta : TE} {m : M S (List α)} (ha : JF K d F0 H0 S ta m) : JS K d F0 H0 S RT (tPar i j (tCons ta (tCons tDNewK tNil))) (parOM m (pur (DS.mk [])) (pOwn p) (pOwnDS p')) := by
  intro s σ F H c f e D q
  obtain ⟨x, s1, e1, ea⟩ := bindS_some e
  obtain ⟨y, s2, e2, eb⟩ := bindS_some ea
  cases e2
  cases eb
  refine r_par (r_cons (ha _ _ _ _ _ c _ _ e1 _ fun vs a F1 H1 c1 q1 hp r1 => r_cons fun a2 ha2 => r_nil ?_))
  exact ⟨_, _, rfl, q _ F1 _ (((c1.junk hp (.lst vs)).ownHeld rfl p ⟨vs, rfl, r1⟩).own p' ha2 ⟨[], rfl, .nil⟩) q1⟩
end
section
variable {S α β γ A ρ : Type} [Slots S] {s s' : S} {γ' δ' : Type} {Q : Option γ' → Option δ' → Prop} [BR Q] {kf : Fl S ρ → Option γ'} {o : Option δ'}
theorem e_rddS {α : Type} [Enc α] {k : Nat} {p : Pos S (Own (DS α)) k} {s : S} : rddS p s = match p.get s with | .mine x => some (x, s) | .gone _ => none | .no => none := nrfl rfl
theorem e_dgetMS {α γ : Type} [Enc α] {k : Nat} {p : Pos S (Own (DS α)) k} {m : M S γ} {f : DS α → γ → Option α} {s : S} : dgetMS p m f s = (rddS p s).bind fun p1 => (m p1.2).bind fun i => (rddS p i.2).bind fun x => (f x.1 i.1).bind fun z => some (z, x.2) := nrfl rfl
theorem e_dputMS {α : Type} [Enc α] {k : Nat} {p : Pos S (Own (DS α)) k} {mv : M S α} {mi : M S Str} {s : S} : dputMS (ρ := ρ) p mv mi s = (mv s).bind fun y => (rddS p y.2).bind fun p1 => (mi p1.2).bind fun i => (rddS p i.2).bind fun x => if x.1.kvs.length < 100000 then some (.nx (p.put x.2 (.mine (x.1.set i.1 y.1)))) else none := nrfl rfl
theorem v_rddS [Enc α] {k : Nat} {p : Pos S (Own (DS α)) k} {x : DS α} (h : p.get s = .mine x) : rddS p s = some (x, s) := by unfold rddS; rw [h]
theorem k_dgetMS [Enc α] {k : Nat} {p : Pos S (Own (DS α)) k} {m : M S γ} {f : DS α → γ → Option α} {x : DS α} {k' : α × S → Option γ'} {o : Option δ'} (h : p.get s = .mine x)
    (K : Q ((m s).bind fun q => (rddS p q.2).bind fun r => (f r.1 q.1).bind fun z => k' (z, r.2)) o) : Q ((dgetMS p m f s).bind k') o := by
  rw [e_dgetMS, v_rddS h]; simp only [Option.bind_assoc, Option.bind_some]; exact K
theorem o_dgetS [Enc α] {k : Nat} {p : Pos S (Own (DS α)) k} {m : M S γ} {f : DS α → γ → Option α} {x : DS α} {y : γ} {t : Option α} (h : p.get s = .mine x) (e : m s = some (y, s)) (e2 : f x y = t) : dgetMS p m f s = t.bind fun z => some (z, s) := by
  rw [e_dgetMS, v_rddS h]; simp only [Option.bind_some, e, v_rddS h, e2]
theorem s_dputS [Enc α] {k : Nat} {p : Pos S (Own (DS α)) k} {mv : M S α} {mi : M S Str} {x : DS α} (h : ∀ q, mv s = some q → p.get q.2 = .mine x)
    (K : Q ((mv s).bind fun y => (mi y.2).bind fun i => (rddS p i.2).bind fun xs => (fits xs.1.kvs).bind fun _ => kf (.nx (p.put xs.2 (.mine (xs.1.set i.1 y.1))))) o) : Q ((dputMS (ρ := ρ) p mv mi s).bind kf) o := by
  rw [e_dputMS]
  cases e : mv s with
  | none => rw [e] at K; exact K
  | some y =>
    rw [e] at K
    simp only [Option.bind_some] at K ⊢
    rw [v_rddS (h y e)]
    simp only [Option.bind_some, Option.bind_assoc] at K ⊢
    have e2 : ∀ i : Str × S, ((rddS p i.2).bind fun xs => (if xs.1.kvs.length < 100000 then some (Fl.nx (p.put xs.2 (.mine (xs.1.set i.1 y.1)))) else none).bind kf) = ((rddS p i.2).bind fun xs => (fits xs.1.kvs).bind fun _ => kf (.nx (p.put xs.2 (.mine (xs.1.set i.1 y.1))))) := by
      intro i
      congr 1
      funext xs
      unfold fits
      by_cases c : xs.1.kvs.length < 100000
      · simp [c]
      · simp [c]
    simp only [e2]
    exact K
theorem e_dqMS {δ : Type} [Enc α] {k : Nat} {p : Pos S (Own (DS α)) k} {m : M S γ} {f : DS α → γ → Option δ} {s : S} : dqMS p m f s = (m s).bind fun i => (rddS p i.2).bind fun x => (f x.1 i.1).bind fun z => some (z, x.2) := nrfl rfl
theorem v_dqMS {δ : Type} [Enc α] {k : Nat} {p : Pos S (Own (DS α)) k} {m : M S γ} {f : DS α → γ → Option δ} {x : DS α} {y : γ} {z : δ} (h : p.get s = .mine x) (e : m s = some (y, s)) (e2 : f x y = some z) : dqMS p m f s = some (z, s) := by rw [e_dqMS, e]; simp only [Option.bind_some, v_rddS h, e2]
theorem o_dqMS {δ : Type} [Enc α] {k : Nat} {p : Pos S (Own (DS α)) k} {m : M S γ} {f : DS α → γ → Option δ} {x : DS α} {y : γ} {t : Option δ} (h : p.get s = .mine x) (e : m s = some (y, s)) (e2 : f x y = t) : dqMS p m f s = t.bind fun z => some (z, s) := by rw [e_dqMS, e]; simp only [Option.bind_some, v_rddS h, e2]
theorem k_dqMS {δ : Type} [Enc α] {k : Nat} {p : Pos S (Own (DS α)) k} {m : M S γ} {f : DS α → γ → Option δ} {k' : δ × S → Option γ'} {o : Option δ'}
    (K : Q ((m s).bind fun q => (rddS p q.2).bind fun r => (f r.1 q.1).bind fun z => k' (z, r.2)) o) : Q ((dqMS p m f s).bind k') o := by
  rw [e_dqMS]; simp only [Option.bind_assoc, Option.bind_some]; exact K
theorem p_ownDS [Enc α] {k : Nat} {p : Pos S (Own (DS α)) k} {x : DS α} {k' : S → Option γ'} {o : Option δ'} (h : p.put s (.mine x) = s') (K : Q (k' s') o) : Q ((pOwnDS p x s).bind k') o := by subst h; exact K
end
end Rm
namespace Rg
open PySem PySem.Spec PyProof.Rows L2
/-! ### type(x) != T of any types -/
section
variable {prog : Program} {w : World} {A : Around} {E : Value → Shared → Prop} {s : Shared} {Q : Value → Shared → Prop}
theorem ne_declines {X Y : String} (hX : ∀ s' : Shared, s'.TypeIs (.type X) "type") (hne : (Value.type X == Value.type Y) = false) (hu : A.units < cLine) (h : Q .notImplemented s) : wpAny (model prog w) A (call (.builtin "object.__ne__") [.type X, .type Y]) Q E s := by
  refine wpAny_call (codeAny_call_builtin slot_type_ne.plain F.entry_object_ne (slot_type_ne.check _ _ _ _ _ _ _ _ (hX s) (F.args_object_ne_2 _ _) ?_))
  unfold Builtin.«object.__ne__»
  repeat (first
    | with_reducible refine wpAny_cRoomFor hu ?_
    | (refine wpAny_bind (m := callSpecialIfBound? (.type X) (Str.ofString "__eq__") [.type Y])
        (wpAny_callSpecialIfBound?_slot (hX _) PySem.TypeEq.slot_type_eq (call_gives PySem.TypeEq.slot_type_eq (hX _) F.entry_object_eq (F.args_object_eq_2 _ _) (PySem.TypeEq.object_eq_other rfl hne) ?_)))
    | wp_step)
  exact wpAny_pure h
theorem slot_ne_refl : Slot "type" (cmpInfo .NotEq).2.2 "object.__ne__" :=
  .of (owner := "object") (n := "__ne__") (by rw [typeLookup_type, builtinLookup_eq_fast]; kernel_rfl) (by decide +kernel) (by decide +kernel) (by decide +kernel)
    (by first | exact .inl (by decide +kernel) | exact .inr (by decide +kernel)) (by rw [isSubtype_type]; kernel_rfl)
theorem ne_type_other {X Y : String} (hX : ∀ s' : Shared, s'.TypeIs (.type X) "type") (hY : ∀ s' : Shared, s'.TypeIs (.type Y) "type") (hne : (Value.type X == Value.type Y) = false) (hu : A.units < cLine) (h : Q (.bool true) s) : wpAny (model prog w) A (compareOp .NotEq (.type X) (.type Y)) Q E s := by
  have hne' : (Value.type Y == Value.type X) = false := Bool.eq_false_iff.mpr fun e => by rw [beq_iff_eq] at e; rw [e] at hne; simp at hne
  have k1 := slot_type_ne
  have k2 := slot_ne_refl
  show wpAny _ A (richCompare .NotEq _ _) Q E s
  rcases hi : cmpInfo CmpOp.NotEq with ⟨sym, f, r⟩
  rw [hi] at k1 k2
  simp only [richCompare, hi, (hX s).oneThing_none]
  try with_reducible refine wpAny_holding ?_
  refine wpAny_bind (wpAny_cRoomFor_or (.inl rfl) (wpAny_bind (wpAny_typeOf (hX s) (wpAny_bind (wpAny_typeOf (hY s) ?_)))))
  simp only [bne_self_eq_false, Bool.false_eq_true, if_false, pure_bind, Bool.not_false, if_true]
  refine wpAny_bind (wpAny_tryCompare_declines (hX s) k1 (ne_declines hX hne hu ⟨rfl, wpAny_bind (wpAny_tryCompare_declines (hY s) k2 (ne_declines hY hne' hu ⟨rfl, ?_⟩))⟩))
  have e1 : isSame (.type X) (.type Y) = pure false := by rw [isSame_plain rfl, hne]
  first
    | exact wpAny_bind (wpAny_rule (wpAny_bind (wpAny_of_eq e1 (wpAny_pure h))))
    | skip
end
end Rg
namespace Rg
open PySem PySem.Spec PyProof.Rows L2
/-! ### any data, empty dicts among it -/
mutual
inductive Dw (K : PySem.W.Frag) (H : Hp) : V → PyData → Prop
  | non : Dw K H .non .none
  | bl (b : Bool) : Dw K H (.bl b) (.bool b)
  | int (i : Int) : Dw K H (.int i) (.int i)
  | str (x : Str) : Dw K H (.str x) (.str x)
  | lst {a : Addr} {xs : List V} {ds : List PyData} (h : SqL K H a xs) (r : DwAll K H xs ds) : Dw K H (.ref a) (.list ds)
  | tup {a : Addr} {xs : List V} {ds : List PyData} (h : SqT K H a xs) (r : DwAll K H xs ds) : Dw K H (.ref a) (.tuple ds)
  | emp {a : Addr} (h : H a = some (.dK [])) : Dw K H (.ref a) (.dict [])
inductive DwAll (K : PySem.W.Frag) (H : Hp) : List V → List PyData → Prop
  | nil : DwAll K H [] []
  | cons {v : V} {vs : List V} {d : PyData} {ds : List PyData} (h : Dw K H v d) (t : DwAll K H vs ds) : DwAll K H (v :: vs) (d :: ds)
end
section
variable {K : PySem.W.Frag} {H H' : Hp}
mutual
theorem Dw.same (k : Same H H') : ∀ {d : PyData} {v : V}, Dw K H v d → Dw K H' v d
  | _, _, .non => .non
  | _, _, .bl b => .bl b
  | _, _, .int i => .int i
  | _, _, .str x => .str x
  | _, _, .lst h r => .lst (Same.seq k h) (DwAll.same k r)
  | _, _, .tup h r => .tup (SqT.same h k) (DwAll.same k r)
  | _, _, .emp h => .emp (k _ _ h)
theorem DwAll.same (k : Same H H') : ∀ {ds : List PyData} {vs : List V}, DwAll K H vs ds → DwAll K H' vs ds
  | _, _, .nil => .nil
  | _, _, .cons h t => .cons (Dw.same k h) (DwAll.same k t)
end
mutual
theorem Dw.of : ∀ {d : PyData} {v : V}, Dp K H v d → Dw K H v d
  | _, _, .non => .non
  | _, _, .bl b => .bl b
  | _, _, .int i => .int i
  | _, _, .str x => .str x
  | _, _, .lst h r => .lst h (DwAll.of r)
  | _, _, .tup h r => .tup h (DwAll.of r)
theorem DwAll.of : ∀ {ds : List PyData} {vs : List V}, DpAll K H vs ds → DwAll K H vs ds
  | _, _, .nil => .nil
  | _, _, .cons h t => .cons (Dw.of h) (DwAll.of t)
end
mutual
theorem Dw.dp : ∀ {d : PyData} {v : V}, Dw K H v d → d.hasDict = false → Dp K H v d
  | _, _, .non, _ => .non
  | _, _, .bl b, _ => .bl b
  | _, _, .int i, _ => .int i
  | _, _, .str x, _ => .str x
  | _, _, .lst h r, e => .lst h (DwAll.dp r (by simpa [PyData.hasDict] using e))
  | _, _, .tup h r, e => .tup h (DwAll.dp r (by simpa [PyData.hasDict] using e))
  | _, _, .emp h, e => by simp [PyData.hasDict] at e
theorem DwAll.dp : ∀ {ds : List PyData} {vs : List V}, DwAll K H vs ds → PyData.hasDictAll ds = false → DpAll K H vs ds
  | _, _, .nil, _ => .nil
  | _, _, .cons h t, e => by
    simp only [PyData.hasDictAll, Bool.or_eq_false_iff] at e
    exact .cons (Dw.dp h e.1) (DwAll.dp t e.2)
end
theorem DwAll.paired : ∀ {vs : List V} {ds : List PyData}, DwAll K H vs ds → Paired (Dw K H) vs ds
  | _, _, .nil => .nil
  | _, _, .cons h t => .cons h (DwAll.paired t)
theorem DwAll.ofP : ∀ {vs : List V} {ds : List PyData}, Paired (Dw K H) vs ds → DwAll K H vs ds
  | _, _, .nil => .nil
  | _, _, .cons h t => .cons h (DwAll.ofP t)
theorem Dw.tyB {v : V} {d : PyData} (h : Dw K H v d) : TyB K H v (tyN d) := by
  cases h with
  | non => exact .non
  | bl b => exact .bl b
  | int i => exact .int i
  | str x => exact .str x
  | lst hs _ => exact .lst hs
  | tup hs _ => exact .tup hs
  | emp e => exact .dK e
theorem Dw.tyX {v : V} {d : PyData} (h : Dw K H v d) : TyX K H v (.type (tyN d)) := by
  cases h with
  | non => exact .base .non
  | bl b => exact .base (.bl b)
  | int i => exact .base (.int i)
  | str x => exact .base (.str x)
  | lst hs _ =>
    rcases hs with (e | ⟨o, e⟩) | ⟨o, its, n, e, c, _⟩
    · exact .base (.lst e)
    · exact .base (.frz e)
    · exact .kList e c
  | tup hs _ =>
    rcases hs with (e | ⟨o, e⟩) | ⟨o, its, n, e, c, _⟩
    · exact .base (.tup e)
    · exact .fTuple e
    · exact .kTuple e c
  | emp e => exact .base (.dK e)
end
def isTup : PyData → Bool
  | .tuple _ => true
  | _ => false
def isStr : PyData → Bool
  | .str _ => true
  | _ => false
theorem kit_tup (K : PySem.W.Frag) (d : PyData) : PySem.W.kitOne K (.type (tyN d)) (.type "tuple") = some (isTup d) := by
  cases d <;> rfl
theorem kit_strD (K : PySem.W.Frag) (d : PyData) : PySem.W.kitOne K (.type (tyN d)) (.type "str") = some (isStr d) := by
  cases d <;> rfl
def rTyDn : R2 := fun x y H Q => ∃ a b, BasicTy a ∧ BasicTy b ∧ x = .ty a ∧ y = .ty b ∧ Q (.bl (!decide (a = b))) H
section
variable {X : Cx}
theorem op_neTyD (hu : X.A.units + 64 < cLine) : OpR X (compareOp .NotEq) rTyDn := by
  intro pins s σ H x y v u Q I rx ry h
  obtain ⟨a, b, ha, hb, rfl, rfl, q⟩ := h
  cases (show v = Value.type a from rx)
  cases (show u = Value.type b from ry)
  by_cases e : a = b
  · subst e
    rw [decide_eq_true rfl] at q
    exact ne_type_same (meta_basic ha) (by omega) ⟨.bl false, H, I, rfl, q⟩
  · rw [decide_eq_false e] at q
    exact ne_type_other (meta_basic ha) (meta_basic hb) (by simpa using e) (by omega) ⟨.bl true, H, I, rfl, q⟩
end
end Rg
namespace Rm
open PySem PySem.Spec PyProof.Rows L2 Rg
open Enc (rel)
/-- any value that is data -/
structure Any where
  d : PyData
instance : Enc Any := ⟨fun K F v x => Dw K F v x.d, fun s h => Dw.same s h⟩
class EncW (α : Type) [Enc α] where
  w : α → PyData
  dw : ∀ {K : PySem.W.Frag} {F : Hp} {v : V} {x : α}, rel K F v x → Dw K F v (w x)
instance : EncW Any := ⟨Any.d, fun h => h⟩
instance : EncW Int := ⟨.int, fun h => by cases h; exact .int _⟩
instance : EncW Bool := ⟨.bool, fun h => by cases h; exact .bl _⟩
instance : EncW Unit := ⟨fun _ => .none, fun h => by cases h; exact .non⟩
instance : EncW Str := ⟨.str, fun h => by cases h; exact .str _⟩
theorem dwAll_of {α : Type} [Enc α] [EncW α] {K : PySem.W.Frag} {F : Hp} : ∀ {vs : List V} {xs : List α}, Paired (rel K F) vs xs → DwAll K F vs (xs.map EncW.w)
  | _, _, .nil => .nil
  | _, _, .cons a t => .cons (EncW.dw a) (dwAll_of t)
instance {α : Type} [Enc α] [EncW α] : EncW (Option α) := ⟨fun o => match o with | none => .none | some x => EncW.w x, fun {K F v x} h => match x, h with
  | none, h => by cases h; exact .non
  | some _, h => EncW.dw h⟩
instance {α : Type} [Enc α] [EncW α] : EncW (List α) := ⟨fun xs => .list (xs.map EncW.w), fun ⟨a, vs, e, h, p⟩ => by subst e; exact .lst h (dwAll_of p)⟩
instance {α β : Type} [Enc α] [Enc β] [EncW α] [EncW β] : EncW (α × β) := ⟨fun p => .tuple [EncW.w p.1, EncW.w p.2], fun ⟨a, x, y, e, h, p, q⟩ => by subst e; exact .tup h (.cons (EncW.dw p) (.cons (EncW.dw q) .nil))⟩
instance {α β γ : Type} [Enc α] [Enc β] [Enc γ] [EncW α] [EncW β] [EncW γ] : EncW (Tri α β γ) := ⟨fun p => .tuple [EncW.w p.a, EncW.w p.b, EncW.w p.c], fun ⟨a, x, y, z, e, h, p, q, r⟩ => by subst e; exact .tup h (.cons (EncW.dw p) (.cons (EncW.dw q) (.cons (EncW.dw r) .nil)))⟩
/-- read back from data -/
class DecW (α : Type) [Enc α] where
  dec : PyData → Option α
  ok : ∀ {K : PySem.W.Frag} {F : Hp} {v : V} {d : PyData} {x : α}, dec d = some x → Dw K F v d → rel K F v x
instance : DecW Any := ⟨fun d => some ⟨d⟩, fun e h => by cases e; exact h⟩
instance : DecW Int := ⟨fun d => match d with | .int i => some i | _ => none, fun {K F v d x} e h => by
  cases h <;> first | (cases e; done) | (cases e; rfl)⟩
instance : DecW Str := ⟨fun d => match d with | .str i => some i | _ => none, fun {K F v d x} e h => by
  cases h <;> first | (cases e; done) | (cases e; rfl)⟩
def decL {α : Type} [Enc α] [DecW α] : List PyData → Option (List α)
  | [] => some []
  | d :: ds => match DecW.dec d with
    | some x => (decL ds).map (x :: ·)
    | none => none
theorem decL_ok {α : Type} [Enc α] [DecW α] {K : PySem.W.Frag} {F : Hp} : ∀ {ds : List PyData} {vs : List V} {xs : List α}, decL ds = some xs → DwAll K F vs ds → Paired (rel K F) vs xs
  | [], _, _, e, .nil => by cases e; exact .nil
  | d :: ds, _, xs, e, .cons h t => by
    unfold decL at e
    cases e1 : (DecW.dec d : Option α) with
    | none => rw [e1] at e; cases e
    | some x =>
      rw [e1] at e
      cases e2 : (decL ds : Option (List α)) with
      | none => rw [e2] at e; cases e
      | some ys =>
        rw [e2] at e
        cases e
        exact .cons (DecW.ok e1 h) (decL_ok e2 t)
instance {α : Type} [Enc α] [DecW α] : DecW (List α) := ⟨fun d => match d with | .list ds => decL ds | _ => none, fun {K F v d x} e h => by
  cases h <;> first | (cases e; done) | skip
  case lst hs r => exact ⟨_, _, rfl, hs, decL_ok e r⟩⟩
def dec2 {α β : Type} [Enc α] [Enc β] [DecW α] [DecW β] : List PyData → Option (α × β)
  | [a, b] => (DecW.dec a).bind fun x => (DecW.dec b).map fun y => (x, y)
  | _ => none
theorem dec2_ok {α β : Type} [Enc α] [Enc β] [DecW α] [DecW β] {K : PySem.W.Frag} {F : Hp} {ds : List PyData} {xs : List V} {z : α × β} (e : dec2 ds = some z) (r : DwAll K F xs ds) : ∃ x y, xs = [x, y] ∧ rel K F x z.1 ∧ rel K F y z.2 := by
  cases r with
  | nil => cases e
  | cons h1 t1 => cases t1 with
    | nil => cases e
    | cons h2 t2 => cases t2 with
      | cons _ _ => cases e
      | nil =>
        simp only [dec2, Option.bind_eq_some_iff, Option.map_eq_some_iff] at e
        obtain ⟨x, e1, y, e2, rfl⟩ := e
        exact ⟨_, _, rfl, DecW.ok e1 h1, DecW.ok e2 h2⟩
instance {α β : Type} [Enc α] [Enc β] [DecW α] [DecW β] : DecW (α × β) := ⟨fun d => match d with | .tuple ds => dec2 ds | _ => none, fun {K F v d x} e h => by
  cases h <;> first | (cases e; done) | skip
  case tup hs r =>
    obtain ⟨y, z, rfl, r1, r2⟩ := dec2_ok e r
    exact ⟨_, _, _, rfl, hs, r1, r2⟩⟩
def dec3 {α β γ : Type} [Enc α] [Enc β] [Enc γ] [DecW α] [DecW β] [DecW γ] : List PyData → Option (Tri α β γ)
  | [a, b, c] => (DecW.dec a).bind fun x => (DecW.dec b).bind fun y => (DecW.dec c).map fun z => ⟨x, y, z⟩
  | _ => none
theorem dec3_ok {α β γ : Type} [Enc α] [Enc β] [Enc γ] [DecW α] [DecW β] [DecW γ] {K : PySem.W.Frag} {F : Hp} {ds : List PyData} {xs : List V} {z : Tri α β γ} (e : dec3 ds = some z) (r : DwAll K F xs ds) : ∃ x y t, xs = [x, y, t] ∧ rel K F x z.a ∧ rel K F y z.b ∧ rel K F t z.c := by
  cases r with
  | nil => cases e
  | cons h1 t1 => cases t1 with
    | nil => cases e
    | cons h2 t2 => cases t2 with
      | nil => cases e
      | cons h3 t3 => cases t3 with
        | cons _ _ => cases e
        | nil =>
          simp only [dec3, Option.bind_eq_some_iff, Option.map_eq_some_iff] at e
          obtain ⟨x, e1, y, e2, t, e3, rfl⟩ := e
          exact ⟨_, _, _, rfl, DecW.ok e1 h1, DecW.ok e2 h2, DecW.ok e3 h3⟩
instance {α β γ : Type} [Enc α] [Enc β] [Enc γ] [DecW α] [DecW β] [DecW γ] : DecW (Tri α β γ) := ⟨fun d => match d with | .tuple ds => dec3 ds | _ => none, fun {K F v d x} e h => by
  cases h <;> first | (cases e; done) | skip
  case tup hs r =>
    obtain ⟨y, z, t, rfl, r1, r2, r3⟩ := dec3_ok e r
    exact ⟨_, _, _, _, rfl, hs, r1, r2, r3⟩⟩
section
variable {K : PySem.W.Frag} {d : Addr → Prop} {F0 H0 : Hp} {S : Type} [Slots S]
theorem j_toA {α : Type} [Enc α] [EncW α] {t : TE} {m : M S α} (h : JE K d F0 H0 S t m) : JE K d F0 H0 S t (op1 (fun x : α => some (Any.mk (EncW.w x))) m) := by
  intro Z s σ F H c x s' e Q q
  obtain ⟨y1, s1, e1, e⟩ := bnd_some e
  obtain ⟨e3, rfl⟩ := lft_some e
  cases e3
  exact h _ _ _ _ _ c _ _ e1 _ fun v F1 H1 c1 q1 r1 => q v _ _ c1 q1 (EncW.dw r1)
def toAL {α : Type} [Enc α] [EncW α] (xs : List α) : List Any := xs.map fun y => Any.mk (EncW.w y)
theorem toAL_p {α : Type} [Enc α] [EncW α] {F : Hp} {vs : List V} {xs : List α} (p : Paired (rel K F) vs xs) : Paired (rel K F) vs (toAL xs) := by
  unfold toAL
  exact Paired.map (Paired.imp (fun _ _ r => EncW.dw r) p)
theorem j_toAL {α : Type} [Enc α] [EncW α] {t : TE} {m : M S (List α)} (h : JE K d F0 H0 S t m) : JE K d F0 H0 S t (op1 (fun x : List α => some (toAL x)) m) := by
  intro Z s σ F H c x s' e Q q
  obtain ⟨y1, s1, e1, e⟩ := bnd_some e
  obtain ⟨e3, rfl⟩ := lft_some e
  cases e3
  refine h _ _ _ _ _ c _ _ e1 _ fun v F1 H1 c1 q1 r1 => q v _ _ c1 q1 ?_
  obtain ⟨a, vs, rfl, hs, p⟩ := r1
  exact ⟨a, vs, rfl, hs, toAL_p p⟩
theorem jf_toAL {α : Type} [Enc α] [EncW α] {t : TE} {m : M S (List α)} (h : JF K d F0 H0 S t m) : JF K d F0 H0 S t (op1 (fun x : List α => some (toAL x)) m) := by
  intro Z s σ F H c x s' e Q q
  obtain ⟨y1, s1, e1, e⟩ := bnd_some e
  obtain ⟨e3, rfl⟩ := lft_some e
  cases e3
  exact h _ _ _ _ _ c _ _ e1 _ fun vs p F1 H1 c1 q1 hp r1 => q vs p _ _ c1 q1 hp (toAL_p r1)
@[irreducible] def gDec {α : Type} [Enc α] [DecW α] (x : Any) : Option α := DecW.dec x.d
theorem gDec_some {α : Type} [Enc α] [DecW α] {x : Any} {z : α} (h : gDec x = some z) : DecW.dec x.d = some z := by
  unfold gDec at h
  exact h
theorem j_dec {α : Type} [Enc α] [DecW α] {t : TE} {m : M S Any} (h : JE K d F0 H0 S t m) : JE K d F0 H0 S t (op1 (fun x : Any => (gDec x : Option α)) m) := by
  intro Z s σ F H c x s' e Q q
  obtain ⟨y1, s1, e1, e⟩ := bnd_some e
  obtain ⟨e3, rfl⟩ := lft_some e
  exact h _ _ _ _ _ c _ _ e1 _ fun v F1 H1 c1 q1 r1 => q v _ _ c1 q1 (DecW.ok (gDec_some e3) r1)
def gTupA (xs : List Any) : Option Any := if xs.length ≤ 100000 then some ⟨.tuple (xs.map Any.d)⟩ else none
theorem j_tupA {t : TA} {m : M S (List Any)} (h : JL K d F0 H0 S t m) : JE K d F0 H0 S (tTup t) (op1 gTupA m) := by
  intro Z s σ F H c x s' e Q q
  obtain ⟨y1, s1, e1, e⟩ := bnd_some e
  obtain ⟨e3, rfl⟩ := lft_some e
  obtain ⟨k, rfl⟩ := ite_some e3
  refine r_tup (h _ _ _ _ _ c _ _ e1 _ fun vs F1 H1 c1 q1 r1 => ⟨?_, fun p hp => ?_⟩)
  · rw [Paired.length r1]
    exact Nat.le_trans k (by decide)
  · have n := c1.new hp (.tup vs)
    exact q _ _ _ n.1 (q1.trans n.2) (.tup (.inl (.inl upd_same)) (dwAll_of (Paired.imp (fun _ _ => Enc.mono n.2) r1)))
theorem j_empA : JE K d F0 H0 S tDNewK (pur (Any.mk (.dict []))) := by
  intro Z s σ F H c x s' e Q q
  cases e
  intro p hp
  have n := c.new hp (.dK [])
  exact q _ _ _ n.1 n.2 (.emp upd_same)
def gIsi (n : String) (d : PyData) : Option Bool := if n = "int" then some (isNum d) else if n = "bool" then some (isBoo d) else if n = "list" then some (isLst d) else if n = "tuple" then some (isTup d) else if n = "str" then some (isStr d) else none
theorem j_isiA {n : String} {t : TE} {m : M S Any} (h : JE K d F0 H0 S t m) : JE K d F0 H0 S (tCB (rIsi K) (tCons t (tCons (tC (.ty n)) tNil))) (op1 (fun x : Any => gIsi n x.d) m) := by
  intro Z s σ F H c x s' e Q q
  obtain ⟨y1, s1, e1, e⟩ := bnd_some e
  obtain ⟨e3, rfl⟩ := lft_some e
  refine r_cb (r_cons (h _ _ _ _ _ c _ _ e1 _ fun v F1 H1 c1 q1 r1 => r_cons (r_c (r_nil ?_))))
  have ty := (Dw.same c1.fh r1).tyX
  have k := q _ _ _ c1 q1 (rfl : rel K F1 (.bl x) x)
  unfold gIsi at e3
  repeat' split at e3
  all_goals first | (cases e3; done) | skip
  · rename_i h1; subst h1; cases e3; exact ⟨_, .ty "int", _, _, _, rfl, .ty "int", ty, kit_int K _, k⟩
  · rename_i h1; subst h1; cases e3; exact ⟨_, .ty "bool", _, _, _, rfl, .ty "bool", ty, kit_bool K _, k⟩
  · rename_i h1; subst h1; cases e3; exact ⟨_, .ty "list", _, _, _, rfl, .ty "list", ty, kit_list K _, k⟩
  · rename_i h1; subst h1; cases e3; exact ⟨_, .ty "tuple", _, _, _, rfl, .ty "tuple", ty, kit_tup K _, k⟩
  · rename_i h1; subst h1; cases e3; exact ⟨_, .ty "str", _, _, _, rfl, .ty "str", ty, kit_strD K _, k⟩
def basicB (n : String) : Bool := n == "NoneType" || n == "bool" || n == "int" || n == "str" || n == "list" || n == "tuple" || n == "dict"
theorem basicB_ok {n : String} (h : basicB n = true) : BasicTy n := by
  simpa [basicB, BasicTy, or_assoc] using h
theorem j_tyA {n : String} (hn : basicB n = true) {t : TE} {m : M S Any} (h : JE K d F0 H0 S t m) : JE K d F0 H0 S (tOp rTyD (tCB (rTyp K) (tCons t tNil)) (tC (.ty n))) (op1 (fun x : Any => some (decide (tyN x.d = n))) m) := by
  intro Z s σ F H c x s' e Q q
  obtain ⟨y1, s1, e1, e⟩ := bnd_some e
  obtain ⟨e3, rfl⟩ := lft_some e
  cases e3
  exact r_op (r_cb (r_cons (h _ _ _ _ _ c _ _ e1 _ fun v F1 H1 c1 q1 r1 => r_nil ⟨_, _, rfl, (Dw.same c1.fh r1).tyB, _, _, tyN_basic _, basicB_ok hn, rfl, rfl, q _ _ _ c1 q1 rfl⟩)))
theorem j_ntyA {n : String} (hn : basicB n = true) {t : TE} {m : M S Any} (h : JE K d F0 H0 S t m) : JE K d F0 H0 S (tOp rTyDn (tCB (rTyp K) (tCons t tNil)) (tC (.ty n))) (op1 (fun x : Any => some (!decide (tyN x.d = n))) m) := by
  intro Z s σ F H c x s' e Q q
  obtain ⟨y1, s1, e1, e⟩ := bnd_some e
  obtain ⟨e3, rfl⟩ := lft_some e
  cases e3
  exact r_op (r_cb (r_cons (h _ _ _ _ _ c _ _ e1 _ fun v F1 H1 c1 q1 r1 => r_nil ⟨_, _, rfl, (Dw.same c1.fh r1).tyB, _, _, tyN_basic _, basicB_ok hn, rfl, rfl, q _ _ _ c1 q1 rfl⟩)))
def gLenA (d : PyData) : Option Int := match d with | .list ds => some ds.length | .tuple ds => some ds.length | _ => none
theorem rb_lenA : RB K d F0 H0 S (rLen2 K) (fun x : Any × Unit => gLenA x.1.d) := by
  intro Z s σ F H c vs x z r e Q q
  obtain ⟨v, ws, rfl, r, rfl⟩ := r
  have r : Dw K F v x.1.d := r
  have e : gLenA x.1.d = some z := e
  generalize x.1.d = y at r e
  cases r with
  | lst hs p =>
    cases e
    refine ⟨_, _, rfl, .inl (Same.seq c.fh hs), ?_⟩
    rw [Paired.length p.paired]
    exact q _ _ _ c (Same.refl _) rfl
  | tup hs p =>
    cases e
    refine ⟨_, _, rfl, .inr (SqT.same hs c.fh), ?_⟩
    rw [Paired.length p.paired]
    exact q _ _ _ c (Same.refl _) rfl
  | _ => cases e
@[irreducible] def eqW {α β : Type} [Enc α] [Enc β] [EncW α] [EncW β] (x : α) (y : β) : Option Bool := if ((EncW.w x).hasDict = false ∧ (EncW.w y).hasDict = false) ∧ SeqAt.shaped (EncW.w x) = true ∧ SeqAt.shaped (EncW.w y) = true then some (PyData.eqv (EncW.w x) (EncW.w y)) else none
@[irreducible] def neW {α β : Type} [Enc α] [Enc β] [EncW α] [EncW β] (x : α) (y : β) : Option Bool := if ((EncW.w x).hasDict = false ∧ (EncW.w y).hasDict = false) ∧ SeqAt.shaped (EncW.w x) = true ∧ SeqAt.shaped (EncW.w y) = true then some (!PyData.eqv (EncW.w x) (EncW.w y)) else none
theorem rj_eqW {α β : Type} [Enc α] [Enc β] [EncW α] [EncW β] : RJ2 K d F0 H0 S (rEqD K) (eqW (α := α) (β := β)) := by
  intro Z s σ F H c v u x y z r1 r2 e Q q
  unfold eqW at e
  obtain ⟨k, rfl⟩ := ite_some e
  exact ⟨_, _, Dp.same c.fh ((EncW.dw r1).dp k.1.1), Dp.same c.fh ((EncW.dw r2).dp k.1.2), k.2.1, k.2.2, q _ _ _ c (Same.refl _) rfl⟩
theorem rj_neW {α β : Type} [Enc α] [Enc β] [EncW α] [EncW β] : RJ2 K d F0 H0 S (rNeD K) (neW (α := α) (β := β)) := by
  intro Z s σ F H c v u x y z r1 r2 e Q q
  unfold neW at e
  obtain ⟨k, rfl⟩ := ite_some e
  exact ⟨_, _, Dp.same c.fh ((EncW.dw r1).dp k.1.1), Dp.same c.fh ((EncW.dw r2).dp k.1.2), k.2.1, k.2.2, q _ _ _ c (Same.refl _) rfl⟩
def gNinIA (x : Int) (xs : List Any) : Option Bool := if PyData.hasDictAll (xs.map Any.d) = false ∧ PyData.canLayAll0 (xs.map Any.d) = true then some (!(xs.map Any.d).any fun d => PyData.eqv d (.int x)) else none
theorem rj_ninIA : RJ2 K d F0 H0 S (rNiI K) gNinIA := by
  intro Z s σ F H c v u x y z r1 r2 e Q q
  unfold gNinIA at e
  obtain ⟨k, rfl⟩ := ite_some e
  cases r1
  obtain ⟨a, vs, rfl, hs, p⟩ := r2
  exact ⟨a, vs, _, x, rfl, rfl, Same.seq c.fh hs, (DwAll.same c.fh (dwAll_of p)).dp k.1, k.2, q _ _ _ c (Same.refl _) rfl⟩
/-- x in ("..", "..") -/
def inSA (x : Any) (p : Str × Str) : Option Bool := match x.d with | .str z => some (inS2 z p) | .none => some false | .int _ => some false | .bool _ => some false | _ => none
theorem rj_inSA : RJ2 K d F0 H0 S (rIn K false) inSA := by
  intro Z s σ F H c v u x y z r1 r2 e Q q
  obtain ⟨a, v1, v2, rfl, hs, e1, e2⟩ := r2
  cases e1
  cases e2
  have r1 : Dw K F v x.d := r1
  unfold inSA at e
  generalize x.d = y0 at r1 e
  refine ⟨a, _, rfl, .inr (SqT.same hs c.fh), ?_⟩
  cases r1 with
  | str t =>
    cases e
    refine ⟨rfl, rfl, ?_⟩
    show Q (.bl (inV (.str t) [.str y.1, .str y.2])) H
    rw [inV_str2]
    exact q _ _ _ c (Same.refl _) rfl
  | non => cases e; exact ⟨rfl, rfl, q _ _ _ c (Same.refl _) rfl⟩
  | int i => cases e; exact ⟨rfl, rfl, q _ _ _ c (Same.refl _) rfl⟩
  | bl b => cases e; exact ⟨rfl, rfl, q _ _ _ c (Same.refl _) rfl⟩
  | _ => cases e
theorem rj_ninSA : RJ2 K d F0 H0 S (rIn K true) (fun x p => (inSA x p).map (!·)) := by
  intro Z s σ F H c v u x y z r1 r2 e Q q
  obtain ⟨a, v1, v2, rfl, hs, e1, e2⟩ := r2
  cases e1
  cases e2
  have r1 : Dw K F v x.d := r1
  simp only [inSA] at e
  generalize x.d = y0 at r1 e
  refine ⟨a, _, rfl, .inr (SqT.same hs c.fh), ?_⟩
  cases r1 with
  | str t =>
    cases e
    refine ⟨rfl, rfl, ?_⟩
    show Q (.bl (!inV (.str t) [.str y.1, .str y.2])) H
    rw [inV_str2]
    exact q _ _ _ c (Same.refl _) rfl
  | non => cases e; exact ⟨rfl, rfl, q _ _ _ c (Same.refl _) rfl⟩
  | int i => cases e; exact ⟨rfl, rfl, q _ _ _ c (Same.refl _) rfl⟩
  | bl b => cases e; exact ⟨rfl, rfl, q _ _ _ c (Same.refl _) rfl⟩
  | _ => cases e
def showB (d : PyData) : Bool := d.showable && (!d.hasDict && (d.leavesShort 150 && (decide (d.depth ≤ 20) && decide (d.weight ≤ 100000))))
theorem showB_ok {d : PyData} (h : showB d = true) : reprD d := by
  simp only [showB, Bool.and_eq_true, Bool.not_eq_true', decide_eq_true_eq] at h
  exact ⟨h.1, h.2.1, h.2.2.1, h.2.2.2.1, h.2.2.2.2⟩
def isEmp : PyData → Bool
  | .dict [] => true
  | _ => false
theorem isEmp_inv {K : PySem.W.Frag} {H : Hp} {v : V} {d : PyData} (r : Dw K H v d) (k : isEmp d = true) : ∃ a, v = .ref a ∧ d = .dict [] ∧ H a = some (.dK []) := by
  cases r with
  | emp h => exact ⟨_, rfl, rfl, h⟩
  | _ => cases k
@[irreducible] def gReprW {α : Type} [Enc α] [EncW α] (x : α) : Option Str := if showB (EncW.w x) = true ∨ isEmp (EncW.w x) = true then some (EncW.w x).shown else none
theorem gReprW_some {α : Type} [Enc α] [EncW α] {x : α} {z : Str} (h : gReprW x = some z) : (showB (EncW.w x) = true ∨ isEmp (EncW.w x) = true) ∧ (EncW.w x).shown = z := by
  unfold gReprW at h
  exact ite_some h
theorem rb_reprW {α : Type} [Enc α] [EncW α] : RB K d F0 H0 S (rReprA K) (fun x : α × Unit => gReprW x.1) := by
  intro Z s σ F H c vs x z r e Q q
  obtain ⟨k, rfl⟩ := gReprW_some e
  obtain ⟨v, ws, rfl, r, rfl⟩ := r
  have r1 := Dw.same c.fh (EncW.dw r)
  rcases k with k | k
  · have k := showB_ok k
    exact ⟨v, _, rfl, .inl (r1.dp k.2.1), .inl k, q _ _ _ c (Same.refl _) rfl⟩
  · obtain ⟨a, e1, e2, h⟩ := isEmp_inv r1 k
    exact ⟨v, _, rfl, .inr ⟨a, e1, e2, h⟩, .inr e2, q _ _ _ c (Same.refl _) rfl⟩
theorem rb_tupOf {α : Type} [Enc α] [EncW α] : RB K d F0 H0 S (fun xs H Q => ∃ p ys, xs = [.ref p] ∧ ((SqL K H p ys ∧ ∀ l, H l = none → Q (.ref l) (upd H l (.tup ys))) ∨ (SqT K H p ys ∧ Q (.ref p) H))) (fun x : List α × Unit => some (Any.mk (.tuple (x.1.map EncW.w)))) := by
  intro Z s σ F H c vs x z r e Q q
  cases e
  obtain ⟨v, ws, rfl, ⟨a, us, rfl, hs, p⟩, rfl⟩ := r
  refine ⟨a, us, rfl, .inl ⟨Same.seq c.fh hs, fun l hl => ?_⟩⟩
  have n := c.new hl (.tup us)
  exact q _ _ _ n.1 n.2 (.tup (.inl (.inl upd_same)) (dwAll_of (Paired.imp (fun _ _ => Enc.mono n.2) p)))
end
section
variable {K : PySem.W.Frag} {d : Addr → Prop} {F0 H0 : Hp} {S : Type} [Slots S] {ρ : Type} {RT : S → Hp → VK → ρ → Prop} [RTm RT]
theorem js_asg2DO {α β : Type} [Enc α] [Enc β] {i j : Nat} (p : Pos S (Dt α) i) (p' : Pos S (Own (List β)) j) {ta tb : TE} {m : M S α} {n : M S (List β)} (ha : JE K d F0 H0 S ta m) (hb : JF K d F0 H0 S tb n) :
    JS K d F0 H0 S RT (tAsg (tTup (tCons ta (tCons tb tNil))) (gTup K 2 (gCons (gName i) (gCons (gName j) gNil)))) (parOM m n (pName p) (pOwn p')) := by
  intro s σ F H c f e D q
  obtain ⟨x, s1, e1, ea⟩ := bindS_some e
  obtain ⟨y, s2, e2, eb⟩ := bindS_some ea
  cases eb
  refine r_asg (r_tup (r_cons (ha _ _ _ _ _ c _ _ e1 _ fun v F1 H1 c1 q1 r1 => r_cons (hb _ _ _ _ _ c1 _ _ e2 _ fun vs b F2 H2 c2 q2 hp r2 => r_nil ⟨by show 2 ≤ sizeLine; decide, fun t ht => ?_⟩))))
  have c3 := (c2.junk hp (.lst vs)).drop ht (.tup [v, .ref b])
  refine r_gtup (.inl (.inl upd_same)) rfl (r_gcons (r_name (r_gcons (r_name (r_gnil ?_)))))
  exact q _ F2 _ ((c3.set p (Enc.mono q2 r1)).ownHeld rfl p' ⟨vs, rfl, r2⟩) (q1.trans q2)
theorem js_asg2OO {α β : Type} [Enc α] [Enc β] {i j : Nat} (p : Pos S (Own (List α)) i) (p' : Pos S (Own (List β)) j) {ta tb : TE} {m : M S (List α)} {n : M S (List β)} (ha : JF K d F0 H0 S ta m) (hb : JF K d F0 H0 S tb n) :
    JS K d F0 H0 S RT (tAsg (tTup (tCons ta (tCons tb tNil))) (gTup K 2 (gCons (gName i) (gCons (gName j) gNil)))) (parOM m n (pOwn p) (pOwn p')) := by
  intro s σ F H c f e D q
  obtain ⟨x, s1, e1, ea⟩ := bindS_some e
  obtain ⟨y, s2, e2, eb⟩ := bindS_some ea
  cases eb
  refine r_asg (r_tup (r_cons (ha _ _ _ _ _ c _ _ e1 _ fun vs b F1 H1 c1 q1 hp r1 => r_cons (hb _ _ _ _ _ (c1.junk hp (.lst vs)) _ _ e2 _ fun ws a F2 H2 c2 q2 ha r2 => r_nil ⟨by show 2 ≤ sizeLine; decide, fun t ht => ?_⟩))))
  have ne : a ≠ b := fun z => by subst z; have := (c2.hz upd_same).1; rw [ha] at this; cases this
  have c3 := c2.junk ha (.lst ws)
  have zc : upd (upd Z0 b (.lst vs)) a (.lst ws) = upd (upd Z0 a (.lst ws)) b (.lst vs) := by
    funext x
    by_cases h1 : x = a
    · subst h1; rw [upd_same, upd_ne ne, upd_same]
    · rw [upd_ne h1]
      by_cases h2 : x = b
      · subst h2; rw [upd_same, upd_same]
      · rw [upd_ne h2, upd_ne h2, upd_ne h1]
  rw [zc] at c3
  have c4 := c3.drop ht (.tup [.ref b, .ref a])
  have c5 := c4.ownHeld (Z := upd Z0 a (.lst ws)) (by rw [upd_ne (fun z => ne z.symm)]) p ⟨vs, rfl, Paired.imp (fun _ _ => Enc.mono q2) r1⟩
  have c6 := c5.ownHeld (Z := Z0) rfl p' ⟨ws, rfl, r2⟩
  refine r_gtup (.inl (.inl upd_same)) rfl (r_gcons (r_name (r_gcons (r_name (r_gnil ?_)))))
  exact q _ F2 _ c6 (q1.trans q2)
end
/-- a variable that changes no more takes a list that stays as it is -/
def pGon {S α : Type} [Slots S] [Enc α] {k : Nat} (p : Pos S (Own (List α)) k) : List α → S → Option S := fun x s => some (p.put s (.gone x))
theorem Cx.setG {K : PySem.W.Frag} {d : Addr → Prop} {F0 H0 : Hp} {S : Type} [Slots S] {Z : Addr → Option HO} {s : S} {σ : L2.St} {F H : Hp} {α : Type} [Enc α] {k : Nat} (c : Cx K d F0 H0 Z s σ F H) (p : Pos S (Own (List α)) k) {v : V} {x : List α} (r : rel K F v x) : Cx K d F0 H0 Z (p.put s (.gone x)) (σ.set k (some v)) F H := by
  obtain ⟨g, dn, own, w1, w2, sl⟩ := c
  exact ⟨g, dn, own, w1, w2, p.wr sl ⟨Same.refl _, fun j b l q f n => ⟨q, f, rfl⟩⟩ ⟨v, rfl, r⟩⟩
theorem jg_gon {K : PySem.W.Frag} {d : Addr → Prop} {F0 H0 : Hp} {S : Type} [Slots S] {α : Type} [Enc α] {k : Nat} (p : Pos S (Own (List α)) k) : JG K d F0 H0 S [k] (gName k) (pGon p) := by
  intro Z s σ F H c v x s' r e Q q
  cases e
  exact r_name (q _ (c.setG p r) fun vs h => wipe_set (h k (List.mem_singleton.mpr rfl)))
section
variable {S α : Type} [Slots S] {s s' : S} {γ' δ' : Type} {Q : Option γ' → Option δ' → Prop} [BR Q]
theorem p_gon [Enc α] {k : Nat} {p : Pos S (Own (List α)) k} {x : List α} {k' : S → Option γ'} {o : Option δ'} (h : p.put s (.gone x) = s') (K : Q (k' s') o) : Q ((pGon p x s).bind k') o := by subst h; exact K
end
theorem ji_toAL {K : PySem.W.Frag} {d : Addr → Prop} {F0 H0 : Hp} {S : Type} [Slots S] {α : Type} [Enc α] [EncW α] {t : TI} {m : M S (List α)} (h : JI K d F0 H0 S t m) : JI K d F0 H0 S t (op1 (fun x : List α => some (toAL x)) m) := by
  intro Z s σ F H c xs s' e R q
  obtain ⟨y1, s1, e1, e⟩ := bnd_some e
  obtain ⟨e3, rfl⟩ := lft_some e
  cases e3
  refine h _ _ _ _ _ c _ _ e1 _ fun J F1 H1 c1 q1 it => q J F1 H1 c1 q1 ⟨fun F2 H2 s1 s2 => ?_, fun i F2 H2 hi s1 s2 => ?_, fun i x F2 H2 v H3 e s1 s2 y => ?_⟩
  · have := it.stop F2 H2 s1 s2
    rw [toAL, List.length_map]
    exact this
  · rw [toAL, List.length_map] at hi
    exact it.go i F2 H2 hi s1 s2
  · rw [toAL, List.getElem?_map] at e
    obtain ⟨z, ez, rfl⟩ := Option.map_eq_some_iff.mp e
    rcases it.yld i z F2 H2 v H3 ez s1 s2 y with ⟨e1, r⟩ | ⟨p, o, hp, e1, r⟩
    · exact .inl ⟨e1, EncW.dw r⟩
    · exact .inr ⟨p, o, hp, e1, EncW.dw r⟩
end Rm
namespace Rg
open PySem PySem.Spec PyProof.Rows L2
/-! ### a list that is read, times a small number -/
theorem mul_own (l : Addr) (us : Array Value) (m : Nat) (sl : Array (Option Value)) (k : Int) (u : Tok) (h0 : ¬(!Builtin.List.listFitsIndex k) = true) (h1 : ¬us.size * k.toNat > (2 ^ 63 - 1) / 8) (h2 : ¬Builtin.List.listTooLong (us.size * k.toNat) = true) :
    Meets (Builtin.«list.__mul__» ⟨[.ref l, .int k u], []⟩) (fun _ R s => s.heap.get? l = some { cls := .type "list", dict := none, data := .seq us m, slots := sl } ∧ R (.ok (.ret (Value.ref s.heap.objs.size))) { s with heap := s.heap.push { cls := Value.type "list", data := Data.seq (List.foldl (fun a b => a ++ b) #[] (List.replicate (if us.isEmpty = true then 0 else k.toNat) us)) }, toks := s.toks }) :=
  .of_wp fun P0 w0 A0 R0 s0 z => by
    obtain ⟨hp0, g0, d0, tk0, os0⟩ := s0
    obtain ⟨hl, z⟩ := z
    have sz := AutoListH.joined_fits h2
    wp_walk using wpAny_loadPart' hl
    refine wpAny_ite_false (decide_eq_false (Nat.not_lt.mpr sz)) ?_
    wp_walk using wpAny_loadPart' hl
    exact ⟨_, rfl, z⟩
theorem rmul_own (k : Int) (t : Tok) (l : Addr) (us : Array Value) (m : Nat) (sl : Array (Option Value)) :
    Meets (Builtin.«int.__rmul__» ⟨[.int k t, .ref l], []⟩) (fun _ R s => s.heap.get? l = some { cls := .type "list", dict := none, data := .seq us m, slots := sl } ∧ R (.ok (.ret Value.notImplemented)) s) :=
  .of_wp fun P0 w0 A0 R0 s0 z => by
    obtain ⟨hp0, g0, d0, tk0, os0⟩ := s0
    obtain ⟨hl, z⟩ := z
    wp_walk using wpAny_loadPart' hl
    exact ⟨_, rfl, z⟩
def rRepR (K : PySem.W.Frag) : R2 := fun x y H Q => ∃ l k xs, x = .ref l ∧ y = .int k ∧ SqL K H l xs ∧ 0 ≤ k ∧ k ≤ 100 ∧ xs.length ≤ 1000 ∧ ∀ p, H p = none → Q (.ref p) (upd H p (.lst (List.replicate k.toNat xs).flatten))
theorem foldl_app {α : Type} (its : List α) : ∀ (m : Nat) (acc : List α), List.foldl (fun a b => a ++ b) acc.toArray (List.replicate m its.toArray) = (acc ++ (List.replicate m its).flatten).toArray
  | 0, acc => by simp
  | m + 1, acc => by
    rw [List.replicate_succ, List.foldl_cons, show acc.toArray ++ its.toArray = (acc ++ its).toArray by simp, foldl_app its m (acc ++ its), List.replicate_succ, List.flatten_cons, List.append_assoc]
theorem rep_len {α : Type} (xs : List α) : ∀ k : Nat, (List.replicate k xs).flatten.length = k * xs.length
  | 0 => by simp
  | k + 1 => by rw [List.replicate_succ, List.flatten_cons, List.length_append, rep_len xs k, Nat.succ_mul, Nat.add_comm]
theorem rep_vals {xs : List V} {us : List Value} (r : Vals xs us) : ∀ k : Nat, Vals (List.replicate k xs).flatten (List.replicate k us).flatten
  | 0 => by simp; exact .nil
  | k + 1 => by
    rw [List.replicate_succ, List.flatten_cons, List.replicate_succ, List.flatten_cons]
    exact Vals.append r (rep_vals r k)
section
variable {X : Cx}
theorem op_repR : OpR X (binaryOp .Mult) (rRepR X.K) := by
  intro pins s σ H x y v u Q I rx ry h
  obtain ⟨l, k, xs, rfl, rfl, hs, k0, k1, hz, q⟩ := h
  cases rx
  obtain ⟨t, rfl⟩ := ry
  obtain ⟨its, r, e, _⟩ := I.list hs
  have hl := r.length
  obtain ⟨o1, n1, g1, c1, d1, e1⟩ := e
  obtain ⟨cc1, dd1, dt1, sl1⟩ := o1
  simp only at c1 d1 e1
  subst c1 d1 e1
  have hk : k.toNat ≤ 100 := by omega
  have prod : its.toArray.size * k.toNat ≤ 100000 := by
    rw [List.size_toArray, ← hl]
    calc xs.length * k.toNat ≤ 1000 * 100 := Nat.mul_le_mul hz hk
      _ = 100000 := rfl
  have a0 : ¬ (!Builtin.List.listFitsIndex k) = true := by
    rw [fitsIndex_both (by omega) (by omega)]
    exact Bool.false_ne_true
  have a2 : ¬ Builtin.List.listTooLong (its.toArray.size * k.toNat) = true := by
    simp [Builtin.List.listTooLong, sizeLine]
    rw [List.size_toArray] at prod
    omega
  have new : List.foldl (fun a b => a ++ b) #[] (List.replicate (if its.toArray.isEmpty = true then 0 else k.toNat) its.toArray) = (List.replicate k.toNat its).flatten.toArray := by
    cases its with
    | nil =>
      have z : ∀ m : Nat, (List.replicate m ([] : List Value)).flatten = [] := fun m => by induction m with
        | zero => rfl
        | succ m ih => rw [List.replicate_succ, List.flatten_cons, ih]; rfl
      rw [z]
      simp
    | cons a b =>
      have z := foldl_app (a :: b) k.toNat []
      rw [List.nil_append] at z
      rw [if_neg (by simp)]
      exact z
  refine wpAny_binaryOp_repeat_ref (T := "list") (U := "int") (by decide) ⟨_, g1, rfl⟩ (fun s' => typeIs_int s' k t) noFill_list_mul F.fills_int_mul F.slot_int_rmul repeat_list F.slot_int_index.lookup (call_meets F.slot_int_rmul (typeIs_int s k t) F.entry_int_rmul (F.args_int_rmul_2 _ _) (rmul_own k t l its.toArray n1 sl1) ⟨g1, rfl, ⟨_, g1, rfl⟩, call_meets F.slot_list_mul ⟨_, g1, rfl⟩ F.entry_list_mul (F.args_list_mul_2 _ _) (mul_own l its.toArray n1 sl1 k t a0 (by omega) a2) ⟨g1, ?_⟩⟩)
  rw [new]
  exact ⟨.ref _, _, I.lnew (t' := s.toks) (rep_vals r k.toNat) (by rw [rep_len]; have : k.toNat * xs.length ≤ 100 * 1000 := Nat.mul_le_mul hk hz; exact Nat.le_trans this (by decide)), rfl, q _ I.fresh⟩
end
end Rg
namespace Rm
open PySem PySem.Spec PyProof.Rows L2 Rg
open Enc (rel)
def gRepR {α : Type} (xs : List α) (k : Int) : Option (List α) := if 0 ≤ k ∧ k ≤ 100 ∧ xs.length ≤ 1000 then some (List.replicate k.toNat xs).flatten else none
theorem rep_paired {α β : Type} {R : α → β → Prop} {xs : List α} {ys : List β} (r : Paired R xs ys) : ∀ k : Nat, Paired R (List.replicate k xs).flatten (List.replicate k ys).flatten
  | 0 => by simp; exact .nil
  | k + 1 => by
    rw [List.replicate_succ, List.flatten_cons, List.replicate_succ, List.flatten_cons]
    exact Paired.append r (rep_paired r k)
theorem rf_repR {K : PySem.W.Frag} {d : Addr → Prop} {F0 H0 : Hp} {S : Type} [Slots S] {α : Type} [Enc α] : RF2 K d F0 H0 S (rRepR K) (gRepR (α := α)) := by
  intro Z s σ F H c v u x y z r1 r2 e Q q
  unfold gRepR at e
  obtain ⟨k, rfl⟩ := ite_some e
  obtain ⟨a, vs, rfl, hs, p⟩ := r1
  cases r2
  exact ⟨a, y, vs, rfl, rfl, Same.seq c.fh hs, k.1, k.2.1, by rw [Paired.length p]; exact k.2.2, fun p2 hp => q _ _ _ _ c (Same.refl _) hp (rep_paired p y.toNat)⟩
end Rm
namespace Rm
open PySem PySem.Spec PyProof.Rows L2 Rg
open Enc (rel)
/-! ### what a plain function comes to -/
def Ok {α : Type} (o : Option α) (P : α → Prop) : Prop := ∃ v, o = some v ∧ P v
section
variable {α β γ σ ρ : Type} {P : α → Prop} {Q : β → Prop}
theorem ok_some {v : α} (h : P v) : Ok (some v) P := ⟨v, rfl, h⟩
theorem Ok.imp {o : Option α} {P' : α → Prop} (h : Ok o P) (k : ∀ v, P v → P' v) : Ok o P' := by
  obtain ⟨v, e, p⟩ := h
  exact ⟨v, e, k v p⟩
theorem Ok.eq {o : Option α} {v : α} (h : Ok o (· = v)) : o = some v := by
  obtain ⟨w, e, rfl⟩ := h
  exact e
theorem ok_of {o : Option α} {v : α} (e : o = some v) (h : P v) : Ok o P := ⟨v, e, h⟩
/-- what is known of the first, and on -/
theorem ok_b {o : Option α} {f : α → Option β} (h : Ok o P) (K : ∀ v, P v → Ok (f v) Q) : Ok (o.bnd f) Q := by
  obtain ⟨v, rfl, p⟩ := h
  rw [Option.bnd_some]
  exact K v p
theorem ok_bb {o : Option α} {f : α → Option β} (h : Ok o P) (K : ∀ v, P v → Ok (f v) Q) : Ok (o.bind f) Q := by
  obtain ⟨v, rfl, p⟩ := h
  exact K v p
theorem ok_e {o : Option α} {v : α} {f : α → Option β} (e : o = some v) (K : Ok (f v) Q) : Ok (o.bnd f) Q := by
  rw [e, Option.bnd_some]
  exact K
theorem ok_s {v : α} {f : α → Option β} (K : Ok (f v) Q) : Ok (letO v f) Q := by rw [letO_eq]; exact K
theorem ok_let {v : α} {f : α → Option β} (K : ∀ x, x = v → Ok (f x) Q) : Ok (letO v f) Q := by rw [letO_eq]; exact K v rfl
theorem ok_T {c : Bool} {a b : Option α} (h : c = true) (K : Ok a P) : Ok (if c = true then a else b) P := by rw [if_pos h]; exact K
theorem ok_F {c : Bool} {a b : Option α} (h : c = false) (K : Ok b P) : Ok (if c = true then a else b) P := by rw [if_neg (by rw [h]; decide)]; exact K
theorem ok_if {c : Bool} {a b : Option α} (K1 : c = true → Ok a P) (K2 : c = false → Ok b P) : Ok (if c = true then a else b) P := by
  cases c
  · exact K2 rfl
  · exact K1 rfl
/-- what is asked holds, so what is behind a not is passed by -/
theorem ok_n {p : Prop} [Decidable p] {a b : Option α} (h : p) (K : Ok b P) : Ok (if (!decide p) = true then a else b) P := by
  rw [decide_eq_true h]
  exact K
theorem ok_nb {c : Bool} {a b : Option α} (h : c = true) (K : Ok b P) : Ok (if (!c) = true then a else b) P := by
  rw [h]
  exact K
theorem ok_p {p : Prop} [Decidable p] {a b : Option α} (h : p) (K : Ok a P) : Ok (if decide p = true then a else b) P := by
  rw [decide_eq_true h]
  exact K
theorem ok_np {p : Prop} [Decidable p] {a b : Option α} (h : ¬ p) (K : Ok b P) : Ok (if decide p = true then a else b) P := by
  rw [decide_eq_false h]
  exact K
theorem ok_d {p : Prop} [Decidable p] {a b : Option α} (K1 : p → Ok a P) (K2 : ¬ p → Ok b P) : Ok (if decide p = true then a else b) P := by
  by_cases h : p
  · exact ok_p h (K1 h)
  · exact ok_np h (K2 h)
/-- an if in the middle: what is known behind it -/
theorem ok_j {c : Bool} {a b : Option α} {f : α → Option β} (K1 : c = true → Ok a P) (K2 : c = false → Ok b P) (K : ∀ v, P v → Ok (f v) Q) : Ok ((if c = true then a else b).bnd f) Q := ok_b (ok_if K1 K2) K
-- the operators
theorem ok_mod {x y : Int} {f : Int → Option β} (h : 0 < y) (K : Ok (f (x % y)) Q) : Ok ((gMod x y).bnd f) Q := ok_e (gMod_of h) K
theorem ok_div {x y : Int} {f : Int → Option β} (h : 0 < y) (h2 : y.natAbs < 2 ^ 8000) (K : Ok (f (x / y)) Q) : Ok ((gDiv x y).bnd f) Q := ok_e (gDiv_of h h2) K
theorem ok_mul {x y : Int} {f : Int → Option β} (h : x.natAbs < 2 ^ 50000) (h2 : y.natAbs < 2 ^ 50000) (K : Ok (f (x * y)) Q) : Ok ((gMul x y).bnd f) Q := ok_e (gMul_of h h2) K
theorem ok_divmod {x y : Int} {f : Int × Int → Option β} (h : 0 < y) (h2 : y < 1073741824) (K : Ok (f (x / y, x % y)) Q) : Ok ((gDivmod x y).bnd f) Q := ok_e (by unfold gDivmod; exact if_pos ⟨h, h2⟩) K
theorem ok_shortL {xs : List α} {f : List α → Option β} (h : xs.length ≤ 100000) (K : Ok (f xs) Q) : Ok ((shortL xs).bnd f) Q := ok_e (shortL_of h) K
theorem ok_short {xs : List α} {f : Unit → Option β} (h : xs.length ≤ 100000) (K : Ok (f ()) Q) : Ok ((short xs).bnd f) Q := ok_e (if_pos h) K
theorem ok_fits {xs : List α} {f : Unit → Option β} (h : xs.length < 100000) (K : Ok (f ()) Q) : Ok ((fits xs).bnd f) Q := ok_e (if_pos h) K
theorem gCat_of {xs ys : List α} (h : xs.length + ys.length ≤ 100000) : gCat xs ys = some (xs ++ ys) := if_pos h
theorem ok_cat {xs ys : List α} {f : List α → Option β} (h : xs.length + ys.length ≤ 100000) (K : Ok (f (xs ++ ys)) Q) : Ok ((gCat xs ys).bnd f) Q := ok_e (gCat_of h) K
theorem gRg1_nat {n : Nat} (h : n < 2 ^ 62) : gRg1 (n : Int) = some (rgL 0 n) := by
  unfold gRg1
  rw [if_pos ⟨by omega, by omega⟩]
  rfl
theorem gRg1_of {i : Int} (h : 0 ≤ i) (h2 : i < 2 ^ 62) : gRg1 i = some (rgL 0 i.toNat) := by
  unfold gRg1
  rw [if_pos ⟨by omega, by omega⟩]
theorem ok_rg {i : Int} {f : List Int → Option β} (h : 0 ≤ i) (h2 : i < 2 ^ 62) (K : Ok (f (rgL 0 i.toNat)) Q) : Ok ((gRg1 i).bnd f) Q := ok_e (gRg1_of h h2) K
theorem gRg2_of {i j : Int} (h : -1000 ≤ i) (h2 : i < 2 ^ 60) (h3 : -1000 ≤ j) (h4 : j < 2 ^ 60) : gRg2 i j = some (rgL i (j - i).toNat) := by
  unfold gRg2
  rw [if_pos ⟨⟨by omega, by omega⟩, by omega, by omega⟩]
theorem ok_rg2 {i j : Int} {f : List Int → Option β} (h : -1000 ≤ i) (h2 : i < 2 ^ 60) (h3 : -1000 ≤ j) (h4 : j < 2 ^ 60) (K : Ok (f (rgL i (j - i).toNat)) Q) : Ok ((gRg2 i j).bnd f) Q := ok_e (gRg2_of h h2 h3 h4) K
theorem atI_of {xs : List α} {i : Int} (h : 0 ≤ i) (h2 : i < xs.length) : atI xs i = some (xs[i.toNat]'(by omega)) := by
  obtain ⟨n, rfl⟩ : ∃ n : Nat, i = n := ⟨i.toNat, by omega⟩
  rw [atI_nat', List.getElem?_eq_getElem (by omega)]
  rfl
/-- an item of what is known of all -/
theorem ok_at {xs : List α} {i : Int} {f : α → Option β} (h : 0 ≤ i) (h2 : i < xs.length) (hP : ∀ y ∈ xs, P y) (K : ∀ y, P y → Ok (f y) Q) : Ok ((atI xs i).bnd f) Q := ok_e (atI_of h h2) (K _ (hP _ (List.getElem_mem _)))
theorem ok_atn {xs : List α} {n : Nat} {f : α → Option β} (h : n < xs.length) (K : Ok (f xs[n]) Q) : Ok ((atI xs (n : Int)).bnd f) Q := by
  refine ok_e ?_ K
  rw [atI_nat']
  exact List.getElem?_eq_getElem h
theorem ok_at0 {x : α} {xs : List α} {f : α → Option β} (K : Ok (f x) Q) : Ok ((atI (x :: xs) 0).bnd f) Q := ok_e (atI_nat' (n := 0)) K
theorem ok_ixn {n i : Nat} {f : Nat → Option β} (h : i < n) (K : Ok (f i) Q) : Ok ((ixN n (i : Int)).bnd f) Q := ok_e (ixN_nat h) K
theorem ok_ix {n : Nat} {i : Int} {f : Nat → Option β} (h0 : 0 ≤ i) (h : i < n) (K : Ok (f i.toNat) Q) : Ok ((ixN n i).bnd f) Q := by
  obtain ⟨m, rfl⟩ : ∃ m : Nat, i = m := ⟨i.toNat, by omega⟩
  exact ok_ixn (by omega) K
-- loops
theorem ok_fold {B : σ → α → Option σ} {f : σ → Option β} (I : Nat → σ → Prop) {xs : List α} {s : σ} (h0 : I 0 s) (hs : ∀ i x s, xs[i]? = some x → I i s → Ok (B s x) (I (i + 1))) (K : ∀ s, I xs.length s → Ok (f s) Q) : Ok ((foldO B xs s).bnd f) Q := by
  have go : ∀ (ys : List α) (i : Nat) (s : σ), xs.drop i = ys → i ≤ xs.length → I i s → Ok (foldO B ys s) (I xs.length) := by
    intro ys
    induction ys with
    | nil =>
      intro i s e hi h
      have := congrArg List.length e
      rw [List.length_drop] at this
      have e2 : i = xs.length := by simp at this; omega
      subst e2
      exact ok_some h
    | cons y ys ih =>
      intro i s e hi h
      have hl : i < xs.length := by
        have := congrArg List.length e
        rw [List.length_drop] at this
        simp at this
        omega
      rw [List.drop_eq_getElem_cons hl] at e
      injection e with e1 e2
      have q := hs i y s (by rw [← e1]; exact List.getElem?_eq_getElem hl) h
      exact ok_bb q fun s' h' => ih (i + 1) s' e2 (by omega) h'
  exact ok_b (go xs 0 s (by rw [List.drop_zero]) (Nat.zero_le _) h0) K
/-- .. what does not hang on the turn -/
theorem ok_foldI {B : σ → α → Option σ} {f : σ → Option β} (I : σ → Prop) {xs : List α} {s : σ} (h0 : I s) (hs : ∀ x ∈ xs, ∀ s, I s → Ok (B s x) I) (K : ∀ s, I s → Ok (f s) Q) : Ok ((foldO B xs s).bnd f) Q :=
  ok_fold (fun _ => I) h0 (fun i x s e h => hs x (List.mem_of_getElem? e) s h) K
/-- a loop that is not left early -/
theorem ok_loop {B : σ → α → Option (Re σ ρ)} {f : Re σ ρ → Option β} (I : Nat → σ → Prop) {xs : List α} {s : σ} (h0 : I 0 s) (hs : ∀ i x s, xs[i]? = some x → I i s → Ok (B s x) fun r => ∃ s', r = .nx s' ∧ I (i + 1) s') (K : ∀ s, I xs.length s → Ok (f (.nx s)) Q) :
    Ok ((loopO B xs s).bnd f) Q := by
  have go : ∀ (ys : List α) (i : Nat) (s : σ), xs.drop i = ys → i ≤ xs.length → I i s → Ok (loopO B ys s) fun r => ∃ s', r = .nx s' ∧ I xs.length s' := by
    intro ys
    induction ys with
    | nil =>
      intro i s e hi h
      have := congrArg List.length e
      rw [List.length_drop] at this
      have e2 : i = xs.length := by simp at this; omega
      subst e2
      exact ok_some ⟨s, rfl, h⟩
    | cons y ys ih =>
      intro i s e hi h
      have hl : i < xs.length := by
        have := congrArg List.length e
        rw [List.length_drop] at this
        simp at this
        omega
      rw [List.drop_eq_getElem_cons hl] at e
      injection e with e1 e2
      obtain ⟨r, e3, s', rfl, h'⟩ := hs i y s (by rw [← e1]; exact List.getElem?_eq_getElem hl) h
      unfold loopO
      rw [e3]
      exact ih (i + 1) s' e2 (by omega) h'
  refine ok_b (go xs 0 s (by rw [List.drop_zero]) (Nat.zero_le _) h0) fun r h => ?_
  obtain ⟨s', rfl, h⟩ := h
  exact K s' h
theorem ok_loopI {B : σ → α → Option (Re σ ρ)} {f : Re σ ρ → Option β} (I : σ → Prop) {xs : List α} {s : σ} (h0 : I s) (hs : ∀ x ∈ xs, ∀ s, I s → Ok (B s x) fun r => ∃ s', r = .nx s' ∧ I s') (K : ∀ s, I s → Ok (f (.nx s)) Q) : Ok ((loopO B xs s).bnd f) Q :=
  ok_loop (fun _ => I) h0 (fun i x s e h => hs x (List.mem_of_getElem? e) s h) K
/-- while, by a number that falls -/
theorem ok_while {C : σ → Option Bool} {B : σ → Option σ} {f : σ → Option β} (I : Nat → σ → Prop) {s : σ} {n k : Nat} (h0 : I n s) (hn : n < k) (hs : ∀ n s, I n s → ∃ c, C s = some c ∧ (c = true → Ok (B s) fun s' => ∃ m, m < n ∧ I m s')) (K : ∀ n s, I n s → C s = some false → Ok (f s) Q) :
    Ok ((whileO C B k s).bnd f) Q := by
  have go : ∀ (k n : Nat) (s : σ), n < k → I n s → Ok (whileO C B k s) fun s => ∃ n, I n s ∧ C s = some false := by
    intro k
    induction k with
    | zero => intro n s h; omega
    | succ k ih =>
      intro n s hk h
      obtain ⟨c, e, q⟩ := hs n s h
      unfold whileO
      rw [e]
      cases c with
      | false => exact ok_some ⟨n, h, e⟩
      | true =>
        show Ok ((B s).bind (whileO C B k)) _
        refine ok_bb (q rfl) fun s' h' => ?_
        obtain ⟨m, hm, h'⟩ := h'
        exact ih m s' (by omega) h'
  exact ok_b (go k n s hn h0) fun s h => by
    obtain ⟨n, h, e⟩ := h
    exact K n s h e
-- lists
theorem mapO_of {g : α → Option β} {h : α → β} : ∀ {xs : List α}, (∀ x ∈ xs, g x = some (h x)) → mapO g xs = some (xs.map h)
  | [], _ => rfl
  | x :: xs, e => by
    unfold mapO
    rw [e x (List.mem_cons_self ..), mapO_of (xs := xs) fun y hy => e y (List.mem_cons_of_mem _ hy)]
    rfl
theorem mapO_some {h : α → β} {xs : List α} : mapO (fun x => some (h x)) xs = some (xs.map h) := mapO_of fun _ _ => rfl
theorem ok_map {g : α → Option γ} {f : List γ → Option β} (h : α → γ) {xs : List α} (e : ∀ x ∈ xs, g x = some (h x)) (K : Ok (f (xs.map h)) Q) : Ok ((mapO g xs).bnd f) Q := ok_e (mapO_of e) K
theorem fmapO_of {t : α → Option Bool} {g : α → Option β} {b : α → Bool} {h : α → β} : ∀ {xs : List α}, (∀ x ∈ xs, t x = some (b x)) → (∀ x ∈ xs, b x = true → g x = some (h x)) → fmapO t g xs = some ((xs.filter b).map h)
  | [], _, _ => rfl
  | x :: xs, e, e2 => by
    unfold fmapO
    rw [e x (List.mem_cons_self ..)]
    have ih := fmapO_of (xs := xs) (fun y hy => e y (List.mem_cons_of_mem _ hy)) fun y hy => e2 y (List.mem_cons_of_mem _ hy)
    simp only [Option.bind_some, ih]
    cases hb : b x with
    | false => simp [hb]
    | true => simp [hb, e2 x (List.mem_cons_self ..) hb]
theorem ok_fmap {t : α → Option Bool} {g : α → Option γ} {f : List γ → Option β} (b : α → Bool) (h : α → γ) {xs : List α} (e : ∀ x ∈ xs, t x = some (b x)) (e2 : ∀ x ∈ xs, b x = true → g x = some (h x)) (K : Ok (f ((xs.filter b).map h)) Q) : Ok ((fmapO t g xs).bnd f) Q := ok_e (fmapO_of e e2) K
/-- what is known of each, where the values themselves are not told -/
theorem ok_mapP {g : α → Option γ} {f : List γ → Option β} {R : α → γ → Prop} {xs : List α} (e : ∀ x ∈ xs, Ok (g x) (R x)) (K : ∀ ys, Paired R xs ys → Ok (f ys) Q) : Ok ((mapO g xs).bnd f) Q := by
  have go : ∀ xs : List α, (∀ x ∈ xs, Ok (g x) (R x)) → Ok (mapO g xs) (Paired R xs) := by
    intro xs
    induction xs with
    | nil => intro _; exact ok_some .nil
    | cons x xs ih =>
      intro e
      unfold mapO
      refine ok_bb (e x (List.mem_cons_self ..)) fun y hy => ok_bb (ih fun z hz => e z (List.mem_cons_of_mem _ hz)) fun ys hys => ok_some (.cons hy hys)
  exact ok_b (go xs e) K
/-- a comprehension that draws: what is known of each item, and of the source turn by turn -/
theorem ok_mapS {g : σ → α → Option (γ × σ)} {f : List γ × σ → Option β} (I : Nat → σ → Prop) {R : α → γ → Prop} {xs : List α} {s : σ} (h0 : I 0 s) (hs : ∀ i x s, xs[i]? = some x → I i s → Ok (g s x) fun r => R x r.1 ∧ I (i + 1) r.2)
    (K : ∀ ys s, Paired R xs ys → I xs.length s → Ok (f (ys, s)) Q) : Ok ((mapS g xs s).bnd f) Q := by
  have go : ∀ (ys : List α) (i : Nat) (s : σ), xs.drop i = ys → i ≤ xs.length → I i s → Ok (mapS g ys s) fun r => Paired R ys r.1 ∧ I xs.length r.2 := by
    intro ys
    induction ys with
    | nil =>
      intro i s e hi h
      have := congrArg List.length e
      rw [List.length_drop] at this
      have e2 : i = xs.length := by simp at this; omega
      subst e2
      exact ok_some ⟨.nil, h⟩
    | cons y ys ih =>
      intro i s e hi h
      have hl : i < xs.length := by
        have := congrArg List.length e
        rw [List.length_drop] at this
        simp at this
        omega
      rw [List.drop_eq_getElem_cons hl] at e
      injection e with e1 e2
      unfold mapS
      refine ok_bb (hs i y s (by rw [← e1]; exact List.getElem?_eq_getElem hl) h) fun r hr => ok_bb (ih (i + 1) r.2 e2 (by omega) hr.2) fun q hq => ok_some ⟨.cons hr.1 hq.1, hq.2⟩
  exact ok_b (go xs 0 s (by rw [List.drop_zero]) (Nat.zero_le _) h0) fun r h => K r.1 r.2 h.1 h.2
end
/-! ### texts of numbers -/
theorem int_text {i : Int} {k : Nat} (hk : 0 < k) (h : i.natAbs < 10 ^ k) : (toString i).length ≤ k + 1 := by
  cases i with
  | ofNat m =>
    show (Nat.repr m).length ≤ k + 1
    exact Nat.le_succ_of_le ((Nat.length_repr_le_iff hk).mpr h)
  | negSucc m =>
    show ("-" ++ Nat.repr (m + 1)).length ≤ k + 1
    rw [String.length_append]
    have := (Nat.length_repr_le_iff (n := m + 1) hk).mpr h
    have e : ("-" : String).length = 1 := by decide
    omega
theorem nice_big {i : Int} (h : i.natAbs < 10 ^ 140) : Nice (.int i) 0 470 := by
  have h2 : i.natAbs < 2 ^ 470 := Nat.lt_trans h (by decide +kernel)
  have hl : i.natAbs.log2 < 470 ∧ (i ≠ 0 → i.natAbs.log2 + 1 ≤ 470) := by
    by_cases z : i.natAbs = 0
    · rw [z]
      exact ⟨by decide, fun q => absurd (Int.natAbs_eq_zero.mp z) q⟩
    · have := (Nat.log2_lt z).mpr h2
      exact ⟨by omega, fun _ => by omega⟩
  refine ⟨by simp only [PyData.showable, decide_eq_true_eq]; omega, by simp only [PyData.hasDict], ?_, by simp only [PyData.canLay0], by simp only [PyData.depth]; omega, ?_⟩
  · simp only [PyData.leavesShort, decide_eq_true_eq]
    rw [shown_int]
    exact Nat.le_trans (int_text (k := 140) (by decide) h) (by decide)
  · simp only [PyData.weight]
    by_cases z : i = 0
    · subst z
      simp
    · have e : (i == 0) = false := by simpa using z
      rw [e]
      simp
      have := hl.2 z
      omega
theorem nice_ints_big {xs : List Int} (h : ∀ x ∈ xs, x.natAbs < 10 ^ 140) : Nice (EncD.d xs) 1 (xs.length * 471) := by
  have z := nice_list (ds := xs.map EncD.d) (p := 0) (w := 470) fun d hd => by
    obtain ⟨q, hq, rfl⟩ := List.mem_map.mp hd
    exact nice_big (h q hq)
  rw [List.length_map] at z
  exact z
theorem gRepr_nice {α : Type} [Enc α] [EncD α] {x : α} {p w : Nat} (h : Nice (EncD.d x) p w) (hp : p ≤ 20) (hw : w ≤ 100000) : gRepr x = some (EncD.d x).shown := by
  unfold gRepr
  have r := h.repr hp hw
  exact if_pos r
theorem gRepr_int {x : Int} (h : x.natAbs < 10 ^ 140) : ∃ s, gRepr x = some s := ⟨_, gRepr_nice (nice_big h) (by decide) (by decide)⟩
theorem gRepr_ints {xs : List Int} (h : ∀ x ∈ xs, x.natAbs < 10 ^ 140) (hl : xs.length ≤ 200) : ∃ s, gRepr xs = some s := ⟨_, gRepr_nice (nice_ints_big h) (by decide) (by omega)⟩
theorem n140 {x : Int} (h : -(10 ^ 139) ≤ x) (h2 : x ≤ 10 ^ 139) : x.natAbs < 10 ^ 140 := by
  have e : (10 : Nat) ^ 139 < 10 ^ 140 := by decide +kernel
  omega
/-! ### sizes -/
theorem nb {x : Int} {n : Nat} (h : -(10 ^ 300) ≤ x) (h2 : x ≤ 10 ^ 300) (k : 1000 ≤ n) : x.natAbs < 2 ^ n := by
  have h3 : x.natAbs ≤ 10 ^ 300 := by omega
  have h4 : (10 : Nat) ^ 300 < 2 ^ 1000 := by decide +kernel
  exact Nat.lt_of_lt_of_le (Nat.lt_of_le_of_lt h3 h4) (Nat.pow_le_pow_right (by decide) k)
theorem mul_bd {x y a b : Int} (h0 : 0 ≤ x) (h1 : x ≤ a) (k0 : 0 ≤ y) (k1 : y ≤ b) : 0 ≤ x * y ∧ x * y ≤ a * b := ⟨Int.mul_nonneg h0 k0, Int.mul_le_mul h1 k1 k0 (by omega)⟩
theorem p10_5 : gPow 10 5 = some (10 ^ 5) := by decide +kernel
theorem p10_15 : gPow 10 15 = some (10 ^ 15) := by decide +kernel
theorem p10_18 : gPow 10 18 = some (10 ^ 18) := by decide +kernel
theorem p10_20 : gPow 10 20 = some (10 ^ 20) := by decide +kernel
theorem p10_28 : gPow 10 28 = some (10 ^ 28) := by decide +kernel
theorem p10_29 : gPow 10 29 = some (10 ^ 29) := by decide +kernel
theorem p10_30 : gPow 10 30 = some (10 ^ 30) := by decide +kernel
theorem p10_31 : gPow 10 31 = some (10 ^ 31) := by decide +kernel
theorem p10_39 : gPow 10 39 = some (10 ^ 39) := by decide +kernel
theorem p10_40 : gPow 10 40 = some (10 ^ 40) := by decide +kernel
theorem p10_44 : gPow 10 44 = some (10 ^ 44) := by decide +kernel
theorem p10_64 : gPow 10 64 = some (10 ^ 64) := by decide +kernel
end Rm
namespace N01
open PySem PySem.Spec PyProof.Rows L2 Rg
def top (i : Nat) : Stmt := PySem.Challenge.pw_ringreads_k01_records_recognized.main.body.getD i (.Pass ⟨0, 0, 0, 0⟩)
abbrev s_is_integer : Stmt := top 7
abbrev N_is_integer : List Str := ["value"]
abbrev P_is_integer : List Str := ["value"]
theorem sc_is_integer : FnScope N_is_integer P_is_integer (defScope s_is_integer) := ⟨rfl, rfl, rfl, by decide +kernel, rfl, by decide +kernel, by decide +kernel⟩
abbrev s_is_between : Stmt := top 8
abbrev N_is_between : List Str := ["value", "least", "most"]
abbrev P_is_between : List Str := ["value", "least", "most"]
theorem sc_is_between : FnScope N_is_between P_is_between (defScope s_is_between) := ⟨rfl, rfl, rfl, by decide +kernel, rfl, by decide +kernel, by decide +kernel⟩
abbrev s_is_list : Stmt := top 9
abbrev N_is_list : List Str := ["value", "least", "most"]
abbrev P_is_list : List Str := ["value", "least", "most"]
theorem sc_is_list : FnScope N_is_list P_is_list (defScope s_is_list) := ⟨rfl, rfl, rfl, by decide +kernel, rfl, by decide +kernel, by decide +kernel⟩
abbrev s_is_mark : Stmt := top 10
abbrev N_is_mark : List Str := ["marks", "value"]
abbrev P_is_mark : List Str := ["marks", "value"]
theorem sc_is_mark : FnScope N_is_mark P_is_mark (defScope s_is_mark) := ⟨rfl, rfl, rfl, by decide +kernel, rfl, by decide +kernel, by decide +kernel⟩
abbrev s_is_record : Stmt := top 11
abbrev N_is_record : List Str := ["marks", "value", "begin", "length"]
abbrev P_is_record : List Str := ["marks", "value"]
theorem sc_is_record : FnScope N_is_record P_is_record (defScope s_is_record) := ⟨rfl, rfl, rfl, by decide +kernel, rfl, by decide +kernel, by decide +kernel⟩
abbrev s_check_marks : Stmt := top 12
abbrev N_check_marks : List Str := ["marks"]
abbrev P_check_marks : List Str := ["marks"]
theorem sc_check_marks : FnScope N_check_marks P_check_marks (defScope s_check_marks) := ⟨rfl, rfl, rfl, by decide +kernel, rfl, by decide +kernel, by decide +kernel⟩
abbrev s_is_records : Stmt := top 14
abbrev N_is_records : List Str := ["marks", "value", "item"]
abbrev P_is_records : List Str := ["marks", "value"]
theorem sc_is_records : FnScope N_is_records P_is_records (defScope s_is_records) := ⟨rfl, rfl, rfl, by decide +kernel, rfl, by decide +kernel, by decide +kernel⟩
abbrev s_law_source : Stmt := top 16
abbrev N_law_source : List Str := ["cell", "k", "great"]
abbrev P_law_source : List Str := ["cell", "k"]
theorem sc_law_source : FnScope N_law_source P_law_source (defScope s_law_source) := ⟨rfl, rfl, rfl, by decide +kernel, rfl, by decide +kernel, by decide +kernel⟩
abbrev s_law_draw : Stmt := top 17
abbrev N_law_draw : List Str := ["source", "count", "digit", "mixed"]
abbrev P_law_draw : List Str := ["source", "count"]
theorem sc_law_draw : FnScope N_law_draw P_law_draw (defScope s_law_draw) := ⟨rfl, rfl, rfl, by decide +kernel, rfl, by decide +kernel, by decide +kernel⟩
abbrev s_law_lot : Stmt := top 18
abbrev N_law_lot : List Str := ["source", "wide", "many", "found", "way", "spot", "k", "size", "at"]
abbrev P_law_lot : List Str := ["source", "wide", "many"]
theorem sc_law_lot : FnScope N_law_lot P_law_lot (defScope s_law_lot) := ⟨rfl, rfl, rfl, by decide +kernel, rfl, by decide +kernel, by decide +kernel⟩
abbrev s_law_is_whole : Stmt := top 19
abbrev N_law_is_whole : List Str := ["thing", "low", "high"]
abbrev P_law_is_whole : List Str := ["thing", "low", "high"]
theorem sc_law_is_whole : FnScope N_law_is_whole P_law_is_whole (defScope s_law_is_whole) := ⟨rfl, rfl, rfl, by decide +kernel, rfl, by decide +kernel, by decide +kernel⟩
abbrev s_law_due : Stmt := top 20
abbrev N_law_due : List Str := ["wide", "thing", "part"]
abbrev P_law_due : List Str := ["wide", "thing"]
theorem sc_law_due : FnScope N_law_due P_law_due (defScope s_law_due) := ⟨rfl, rfl, rfl, by decide +kernel, rfl, by decide +kernel, by decide +kernel⟩
abbrev s_law_near : Stmt := top 21
abbrev N_law_near : List Str := ["source", "wide", "lot", "spot", "at", "size", "odd", "found", "part"]
abbrev P_law_near : List Str := ["source", "wide", "lot"]
theorem sc_law_near : FnScope N_law_near P_law_near (defScope s_law_near) := ⟨rfl, rfl, rfl, by decide +kernel, rfl, by decide +kernel, by decide +kernel⟩
abbrev s_law : Stmt := top 22
abbrev N_law : List Str := ["script", "k", "cell", "source", "wide", "lot", "thing", "kept", "due", "told"]
abbrev P_law : List Str := ["script"]
theorem sc_law : FnScope N_law P_law (defScope s_law) := ⟨rfl, rfl, rfl, by decide +kernel, rfl, by decide +kernel, by decide +kernel⟩
/-- what the top has written of them -/
structure Tx (K : PySem.W.Frag) (mg : Str → Option Value) where
  a_is_integer : Addr
  d_is_integer : FuncData
  p_is_integer : Df K mg "is_integer" s_is_integer P_is_integer a_is_integer d_is_integer
  a_is_between : Addr
  d_is_between : FuncData
  p_is_between : Df K mg "is_between" s_is_between P_is_between a_is_between d_is_between
  a_is_list : Addr
  d_is_list : FuncData
  p_is_list : Df K mg "is_list" s_is_list P_is_list a_is_list d_is_list
  a_is_mark : Addr
  d_is_mark : FuncData
  p_is_mark : Df K mg "is_mark" s_is_mark P_is_mark a_is_mark d_is_mark
  a_is_record : Addr
  d_is_record : FuncData
  p_is_record : Df K mg "is_record" s_is_record P_is_record a_is_record d_is_record
  a_check_marks : Addr
  d_check_marks : FuncData
  p_check_marks : Df K mg "check_marks" s_check_marks P_check_marks a_check_marks d_check_marks
  a_is_records : Addr
  d_is_records : FuncData
  p_is_records : Df K mg "is_records" s_is_records P_is_records a_is_records d_is_records
  a_law_source : Addr
  d_law_source : FuncData
  p_law_source : Df K mg "_law_source" s_law_source P_law_source a_law_source d_law_source
  a_law_draw : Addr
  d_law_draw : FuncData
  p_law_draw : Df K mg "_law_draw" s_law_draw P_law_draw a_law_draw d_law_draw
  a_law_lot : Addr
  d_law_lot : FuncData
  p_law_lot : Df K mg "_law_lot" s_law_lot P_law_lot a_law_lot d_law_lot
  a_law_is_whole : Addr
  d_law_is_whole : FuncData
  p_law_is_whole : Df K mg "_law_is_whole" s_law_is_whole P_law_is_whole a_law_is_whole d_law_is_whole
  a_law_due : Addr
  d_law_due : FuncData
  p_law_due : Df K mg "_law_due" s_law_due P_law_due a_law_due d_law_due
  a_law_near : Addr
  d_law_near : FuncData
  p_law_near : Df K mg "_law_near" s_law_near P_law_near a_law_near d_law_near
  a_law : Addr
  d_law : FuncData
  p_law : Df K mg "law" s_law P_law a_law d_law
  n_abs : mg "abs" = none
  n_all : mg "all" = none
  n_bool : mg "bool" = none
  n_enumerate : mg "enumerate" = none
  n_int : mg "int" = none
  n_isinstance : mg "isinstance" = none
  n_len : mg "len" = none
  n_list : mg "list" = none
  n_max : mg "max" = none
  n_min : mg "min" = none
  n_range : mg "range" = none
  n_repr : mg "repr" = none
  n_sum : mg "sum" = none
  n_tuple : mg "tuple" = none
  n_type : mg "type" = none
  t_MOST_LENGTH : Tok
  c_MOST_LENGTH : mg "MOST_LENGTH" = some (.int (10 ^ 31) t_MOST_LENGTH)
  t_MOST_MARKS : Tok
  c_MOST_MARKS : mg "MOST_MARKS" = some (.int (10 ^ 30) t_MOST_MARKS)
  t_MOST_RECORDS : Tok
  c_MOST_RECORDS : mg "MOST_RECORDS" = some (.int (30) t_MOST_RECORDS)
  kb0_is_records : KwB K d_is_records P_is_records ["value", "marks"] (prm [1, 0]) (prm [1, 0])
end N01
namespace N01
open PySem PySem.Spec PyProof.Rows L2 Rg Rm
open Rm.Enc (rel)
open Rm.Slots (srels)
section
variable {P : Program} {w : World} {K : PySem.W.Frag} {mg : Str → Option Value} {base : Heap}
abbrev S_is_integer : Type := (Dt Int) × Unit
abbrev q_is_integer_0 : Pos S_is_integer (Dt Int) 0 := Pos.here
def m_is_integer : MS S_is_integer Bool :=
    (retM (andM (op1 (fun _ => isiI "int") (rdv q_is_integer_0)) (op1 (fun b : Bool => some (!b)) (op1 (fun _ => isiI "bool") (rdv q_is_integer_0)))))
def i_is_integer (x : Int × Unit) : S_is_integer := (.is x.1, ())
def F_is_integer (x : Int × Unit) : Option Bool := run m_is_integer (i_is_integer x)
theorem in_is_integer : Ini (Int × Unit) S_is_integer N_is_integer 1 i_is_integer := fun K P own F H vs x h => by
  obtain ⟨v0, w0, rfl, h0, rfl⟩ := h
  exact ⟨⟨_, _, rfl, ⟨_, rfl, h0⟩, rfl⟩, rfl⟩
theorem ok_is_integer (T : Tx K mg) : FnOk P w K mg base CX0 1 T.a_is_integer T.d_is_integer P_is_integer (spP K F_is_integer) := by
  refine T.p_is_integer.fn.ok sc_is_integer (fun vs H Q E h => len_P in_is_integer h) (fun cdv A outer s H vs Q E hr h => ?_)
  exact ⟨_, (pss_one (ps_ret (pe_and (pe_callB call_isi (by rfl) T.n_isinstance (by rfl) (pa_cons (pv 0) (pa_cons (pe_bltn (v := .ty "int") (u := .type "int") (by rfl) T.n_int (by rfl) rfl) pa_nil))) (pe_one (pe_not (pe_callB call_isi (by rfl) T.n_isinstance (by rfl) (pa_cons (pv 0) (pa_cons (pe_bltn (v := .ty "bool") (u := .type "bool") (by rfl) T.n_bool (by rfl) rfl) pa_nil)))))))),
    read_P (m := m_is_integer) in_is_integer (fun F0 H0 => (js_ret (j_and (j_isiI (j_var q_is_integer_0)) (j_not (j_isiI (j_var q_is_integer_0)))))) h⟩
def G_is_integer (value1 : Int) : Option (Bool) :=
  (isiI "int").bnd fun t1 =>
  (if t1 = true then ((isiI "bool").bnd fun t2 =>
  some (!t2)) else some false).bnd fun t3 =>
  some t3
theorem g_is_integer (value1 : Int) : F_is_integer (value1, ()) = G_is_integer value1 := by
  unfold F_is_integer m_is_integer i_is_integer G_is_integer
  refine run_k ?_
  refine s_ret ?_
  refine k_and ?_
  refine k_o (by exact o_op1 (v_rdv rfl) rfl) (fun t1 => ?_)
  (try dsimp only)
  refine k_o (by refine o_and (by exact v_pur) ?_; refine qv_o ?_; refine k_op1 ?_; refine k_o (by exact o_op1 (v_rdv rfl) rfl) (fun t2 => ?_); refine k_s (by exact rfl) (by exact qv_some)) (fun t3 => ?_)
  exact kfP_rt
abbrev S_is_integer_d : Type := (Dt Any) × Unit
abbrev q_is_integer_d_0 : Pos S_is_integer_d (Dt Any) 0 := Pos.here
def m_is_integer_d : MS S_is_integer_d Bool :=
    (retM (andM (op1 (fun x : Any => gIsi "int" x.d) (rdv q_is_integer_d_0)) (op1 (fun b : Bool => some (!b)) (op1 (fun x : Any => gIsi "bool" x.d) (rdv q_is_integer_d_0)))))
def i_is_integer_d (x : Any × Unit) : S_is_integer_d := (.is x.1, ())
def F_is_integer_d (x : Any × Unit) : Option Bool := run m_is_integer_d (i_is_integer_d x)
theorem in_is_integer_d : Ini (Any × Unit) S_is_integer_d N_is_integer 1 i_is_integer_d := fun K P own F H vs x h => by
  obtain ⟨v0, w0, rfl, h0, rfl⟩ := h
  exact ⟨⟨_, _, rfl, ⟨_, rfl, h0⟩, rfl⟩, rfl⟩
theorem ok_is_integer_d (T : Tx K mg) : FnOk P w K mg base CX0 1 T.a_is_integer T.d_is_integer P_is_integer (spP K F_is_integer_d) := by
  refine T.p_is_integer.fn.ok sc_is_integer (fun vs H Q E h => len_P in_is_integer_d h) (fun cdv A outer s H vs Q E hr h => ?_)
  exact ⟨_, (pss_one (ps_ret (pe_and (pe_callB call_isi (by rfl) T.n_isinstance (by rfl) (pa_cons (pv 0) (pa_cons (pe_bltn (v := .ty "int") (u := .type "int") (by rfl) T.n_int (by rfl) rfl) pa_nil))) (pe_one (pe_not (pe_callB call_isi (by rfl) T.n_isinstance (by rfl) (pa_cons (pv 0) (pa_cons (pe_bltn (v := .ty "bool") (u := .type "bool") (by rfl) T.n_bool (by rfl) rfl) pa_nil)))))))),
    read_P (m := m_is_integer_d) in_is_integer_d (fun F0 H0 => (js_ret (j_and (j_isiA (j_var q_is_integer_d_0)) (j_not (j_isiA (j_var q_is_integer_d_0)))))) h⟩
def G_is_integer_d (value1 : Any) : Option (Bool) :=
  (gIsi "int" value1.d).bnd fun t1 =>
  (if t1 = true then ((gIsi "bool" value1.d).bnd fun t2 =>
  some (!t2)) else some false).bnd fun t3 =>
  some t3
theorem g_is_integer_d (value1 : Any) : F_is_integer_d (value1, ()) = G_is_integer_d value1 := by
  unfold F_is_integer_d m_is_integer_d i_is_integer_d G_is_integer_d
  refine run_k ?_
  refine s_ret ?_
  refine k_and ?_
  refine k_o (by exact o_op1 (v_rdv rfl) rfl) (fun t1 => ?_)
  (try dsimp only)
  refine k_o (by refine o_and (by exact v_pur) ?_; refine qv_o ?_; refine k_op1 ?_; refine k_o (by exact o_op1 (v_rdv rfl) rfl) (fun t2 => ?_); refine k_s (by exact rfl) (by exact qv_some)) (fun t3 => ?_)
  exact kfP_rt
abbrev S_is_between : Type := (Dt Int) × (Dt Int) × (Dt Int) × Unit
abbrev q_is_between_0 : Pos S_is_between (Dt Int) 0 := Pos.here
abbrev q_is_between_1 : Pos S_is_between (Dt Int) 1 := (Pos.there Pos.here)
abbrev q_is_between_2 : Pos S_is_between (Dt Int) 2 := (Pos.there (Pos.there Pos.here))
def m_is_between : MS S_is_between Bool :=
    (retM (andM (op1 F_is_integer (consA (rdv q_is_between_0) nilA)) (chainM (fun x y : Int => some (decide (x ≤ y))) (fun x y : Int => some (decide (x ≤ y))) (rdv q_is_between_1) (rdv q_is_between_0) (rdv q_is_between_2))))
def i_is_between (x : Int × Int × Int × Unit) : S_is_between := (.is x.1, .is x.2.1, .is x.2.2.1, ())
def F_is_between (x : Int × Int × Int × Unit) : Option Bool := run m_is_between (i_is_between x)
theorem in_is_between : Ini (Int × Int × Int × Unit) S_is_between N_is_between 3 i_is_between := fun K P own F H vs x h => by
  obtain ⟨v0, w0, rfl, h0, v1, w1, rfl, h1, v2, w2, rfl, h2, rfl⟩ := h
  exact ⟨⟨_, _, rfl, ⟨_, rfl, h0⟩, _, _, rfl, ⟨_, rfl, h1⟩, _, _, rfl, ⟨_, rfl, h2⟩, rfl⟩, rfl⟩
theorem ok_is_between (T : Tx K mg) : FnOk P w K mg base CX0 2 T.a_is_between T.d_is_between P_is_between (spP K F_is_between) := by
  refine T.p_is_between.fn.ok sc_is_between (fun vs H Q E h => len_P in_is_between h) (fun cdv A outer s H vs Q E hr h => ?_)
  exact ⟨_, (pss_one (ps_ret (pe_and (pe_call (ok_is_integer T) (hr.mono (by decide)) (by rfl) T.p_is_integer.g T.p_is_integer.fn.kp T.p_is_integer.b .nil pass0 (pa_cons (pv 0) pa_nil)) (pe_one (pe_chain op_le op_le (pv 1) (pv 0) (pv 2)))))),
    read_P (m := m_is_between) in_is_between (fun F0 H0 => (js_ret (j_and (j_call (ja_cons (j_var q_is_between_0) ja_nil)) (j_chain rj_le rj_le (j_var q_is_between_1) (j_var q_is_between_0) (j_var q_is_between_2))))) h⟩
def G_is_between (value1 : Int) (least1 : Int) (most1 : Int) : Option (Bool) :=
  (G_is_integer value1).bnd fun t1 =>
  some (t1 && ((decide (least1 ≤ value1)) && (decide (value1 ≤ most1))))
theorem g_is_between (value1 : Int) (least1 : Int) (most1 : Int) : F_is_between (value1, least1, most1, ()) = G_is_between value1 least1 most1 := by
  unfold F_is_between m_is_between i_is_between G_is_between
  refine run_k ?_
  refine s_ret ?_
  refine k_and ?_
  refine k_o (by exact o_op1 (v_consA (v_rdv rfl) v_nilA) (g_is_integer value1)) (fun t1 => ?_)
  refine k_v (by exact v_and v_pur (v_chain (v_rdv rfl) (v_rdv rfl) (v_rdv rfl) rfl rfl)) (by exact kfP_rt)
abbrev S_is_between_dii : Type := (Dt Any) × (Dt Int) × (Dt Int) × Unit
abbrev q_is_between_dii_0 : Pos S_is_between_dii (Dt Any) 0 := Pos.here
abbrev q_is_between_dii_1 : Pos S_is_between_dii (Dt Int) 1 := (Pos.there Pos.here)
abbrev q_is_between_dii_2 : Pos S_is_between_dii (Dt Int) 2 := (Pos.there (Pos.there Pos.here))
def m_is_between_dii : MS S_is_between_dii Bool :=
    (retM (andM (op1 F_is_integer_d (consA (rdv q_is_between_dii_0) nilA)) (chainM (fun x y : Int => some (decide (x ≤ y))) (fun x y : Int => some (decide (x ≤ y))) (rdv q_is_between_dii_1) (op1 (fun x : Any => (gDec x : Option Int)) (rdv q_is_between_dii_0)) (rdv q_is_between_dii_2))))
def i_is_between_dii (x : Any × Int × Int × Unit) : S_is_between_dii := (.is x.1, .is x.2.1, .is x.2.2.1, ())
def F_is_between_dii (x : Any × Int × Int × Unit) : Option Bool := run m_is_between_dii (i_is_between_dii x)
theorem in_is_between_dii : Ini (Any × Int × Int × Unit) S_is_between_dii N_is_between 3 i_is_between_dii := fun K P own F H vs x h => by
  obtain ⟨v0, w0, rfl, h0, v1, w1, rfl, h1, v2, w2, rfl, h2, rfl⟩ := h
  exact ⟨⟨_, _, rfl, ⟨_, rfl, h0⟩, _, _, rfl, ⟨_, rfl, h1⟩, _, _, rfl, ⟨_, rfl, h2⟩, rfl⟩, rfl⟩
theorem ok_is_between_dii (T : Tx K mg) : FnOk P w K mg base CX0 2 T.a_is_between T.d_is_between P_is_between (spP K F_is_between_dii) := by
  refine T.p_is_between.fn.ok sc_is_between (fun vs H Q E h => len_P in_is_between_dii h) (fun cdv A outer s H vs Q E hr h => ?_)
  exact ⟨_, (pss_one (ps_ret (pe_and (pe_call (ok_is_integer_d T) (hr.mono (by decide)) (by rfl) T.p_is_integer.g T.p_is_integer.fn.kp T.p_is_integer.b .nil pass0 (pa_cons (pv 0) pa_nil)) (pe_one (pe_chain op_le op_le (pv 1) (pv 0) (pv 2)))))),
    read_P (m := m_is_between_dii) in_is_between_dii (fun F0 H0 => (js_ret (j_and (j_call (ja_cons (j_var q_is_between_dii_0) ja_nil)) (j_chain rj_le rj_le (j_var q_is_between_dii_1) (j_dec (α := Int) (j_var q_is_between_dii_0)) (j_var q_is_between_dii_2))))) h⟩
def G_is_between_dii (value1 : Any) (least1 : Int) (most1 : Int) : Option (Bool) :=
  (G_is_integer_d value1).bnd fun t1 =>
  (if t1 = true then (((gDec value1 : Option Int)).bnd fun t2 =>
  some ((decide (least1 ≤ t2)) && (decide (t2 ≤ most1)))) else some false).bnd fun t3 =>
  some t3
theorem g_is_between_dii (value1 : Any) (least1 : Int) (most1 : Int) : F_is_between_dii (value1, least1, most1, ()) = G_is_between_dii value1 least1 most1 := by
  unfold F_is_between_dii m_is_between_dii i_is_between_dii G_is_between_dii
  refine run_k ?_
  refine s_ret ?_
  refine k_and ?_
  refine k_o (by exact o_op1 (v_consA (v_rdv rfl) v_nilA) (g_is_integer_d value1)) (fun t1 => ?_)
  refine k_o (by refine o_and (by exact v_pur) ?_; refine qv_o ?_; refine k_chain ?_; refine k_v (by exact v_rdv rfl) ?_; (try dsimp only); refine k_o (by exact o_op1 (v_rdv rfl) rfl) (fun t2 => ?_); refine k_v (by exact v_chain v_pur v_pur (v_rdv rfl) rfl rfl) (by exact qv_some)) (fun t3 => ?_)
  exact kfP_rt
abbrev S_is_list_dii : Type := (Dt Any) × (Dt Int) × (Dt Int) × Unit
abbrev q_is_list_dii_0 : Pos S_is_list_dii (Dt Any) 0 := Pos.here
abbrev q_is_list_dii_1 : Pos S_is_list_dii (Dt Int) 1 := (Pos.there Pos.here)
abbrev q_is_list_dii_2 : Pos S_is_list_dii (Dt Int) 2 := (Pos.there (Pos.there Pos.here))
def m_is_list_dii : MS S_is_list_dii Bool :=
    (retM (andM (op1 (fun x : Any => some (decide (tyN x.d = "list"))) (rdv q_is_list_dii_0)) (chainM (fun x y : Int => some (decide (x ≤ y))) (fun x y : Int => some (decide (x ≤ y))) (rdv q_is_list_dii_1) (op1 (fun x : Any × Unit => gLenA x.1.d) (consA (rdv q_is_list_dii_0) nilA)) (rdv q_is_list_dii_2))))
def i_is_list_dii (x : Any × Int × Int × Unit) : S_is_list_dii := (.is x.1, .is x.2.1, .is x.2.2.1, ())
def F_is_list_dii (x : Any × Int × Int × Unit) : Option Bool := run m_is_list_dii (i_is_list_dii x)
theorem in_is_list_dii : Ini (Any × Int × Int × Unit) S_is_list_dii N_is_list 3 i_is_list_dii := fun K P own F H vs x h => by
  obtain ⟨v0, w0, rfl, h0, v1, w1, rfl, h1, v2, w2, rfl, h2, rfl⟩ := h
  exact ⟨⟨_, _, rfl, ⟨_, rfl, h0⟩, _, _, rfl, ⟨_, rfl, h1⟩, _, _, rfl, ⟨_, rfl, h2⟩, rfl⟩, rfl⟩
theorem ok_is_list_dii (T : Tx K mg) : FnOk P w K mg base CX0 1 T.a_is_list T.d_is_list P_is_list (spP K F_is_list_dii) := by
  refine T.p_is_list.fn.ok sc_is_list (fun vs H Q E h => len_P in_is_list_dii h) (fun cdv A outer s H vs Q E hr h => ?_)
  exact ⟨_, (pss_one (ps_ret (pe_and (pe_cmpR op_eqTyD (pe_callTy call_type1 (by rfl) T.n_type (by rfl) (pa_cons (pv 0) pa_nil)) (pe_bltn (v := .ty "list") (u := .type "list") (by rfl) T.n_list (by rfl) rfl) (nomark _)) (pe_one (pe_chain op_le op_le (pv 1) (pe_callB call_len2 (by rfl) T.n_len (by rfl) (pa_cons (pv 0) pa_nil)) (pv 2)))))),
    read_P (m := m_is_list_dii) in_is_list_dii (fun F0 H0 => (js_ret (j_and (j_tyA rfl (j_var q_is_list_dii_0)) (j_chain rj_le rj_le (j_var q_is_list_dii_1) (j_cb rb_lenA (ja_cons (j_var q_is_list_dii_0) ja_nil)) (j_var q_is_list_dii_2))))) h⟩
def G_is_list_dii (value1 : Any) (least1 : Int) (most1 : Int) : Option (Bool) :=
  (if (decide (tyN value1.d = "list")) = true then ((gLenA value1.d).bnd fun t1 =>
  some ((decide (least1 ≤ t1)) && (decide (t1 ≤ most1)))) else some false).bnd fun t2 =>
  some t2
theorem g_is_list_dii (value1 : Any) (least1 : Int) (most1 : Int) : F_is_list_dii (value1, least1, most1, ()) = G_is_list_dii value1 least1 most1 := by
  unfold F_is_list_dii m_is_list_dii i_is_list_dii G_is_list_dii
  refine run_k ?_
  refine s_ret ?_
  refine k_o (by refine o_and (by exact v_op1 (v_rdv rfl) rfl) ?_; refine qv_o ?_; refine k_chain ?_; refine k_v (by exact v_rdv rfl) ?_; refine k_o (by exact o_op1 (v_consA (v_rdv rfl) v_nilA) rfl) (fun t1 => ?_); (try dsimp only); refine k_v (by exact v_chain v_pur v_pur (v_rdv rfl) rfl rfl) (by exact qv_some)) (fun t2 => ?_)
  exact kfP_rt
abbrev S_is_list : Type := (Dt (List (Int × Int))) × (Dt Int) × (Dt Int) × Unit
abbrev q_is_list_0 : Pos S_is_list (Dt (List (Int × Int))) 0 := Pos.here
abbrev q_is_list_1 : Pos S_is_list (Dt Int) 1 := (Pos.there Pos.here)
abbrev q_is_list_2 : Pos S_is_list (Dt Int) 2 := (Pos.there (Pos.there Pos.here))
def m_is_list : MS S_is_list Bool :=
    (retM (andM (op1 (fun _ => some true) (rdv q_is_list_0)) (chainM (fun x y : Int => some (decide (x ≤ y))) (fun x y : Int => some (decide (x ≤ y))) (rdv q_is_list_1) (op1 (fun x : (List (Int × Int)) × Unit => some (x.1.length : Int)) (consA (rdv q_is_list_0) nilA)) (rdv q_is_list_2))))
def i_is_list (x : (List (Int × Int)) × Int × Int × Unit) : S_is_list := (.is x.1, .is x.2.1, .is x.2.2.1, ())
def F_is_list (x : (List (Int × Int)) × Int × Int × Unit) : Option Bool := run m_is_list (i_is_list x)
theorem in_is_list : Ini ((List (Int × Int)) × Int × Int × Unit) S_is_list N_is_list 3 i_is_list := fun K P own F H vs x h => by
  obtain ⟨v0, w0, rfl, h0, v1, w1, rfl, h1, v2, w2, rfl, h2, rfl⟩ := h
  exact ⟨⟨_, _, rfl, ⟨_, rfl, h0⟩, _, _, rfl, ⟨_, rfl, h1⟩, _, _, rfl, ⟨_, rfl, h2⟩, rfl⟩, rfl⟩
theorem ok_is_list (T : Tx K mg) : FnOk P w K mg base CX0 1 T.a_is_list T.d_is_list P_is_list (spP K F_is_list) := by
  refine T.p_is_list.fn.ok sc_is_list (fun vs H Q E h => len_P in_is_list h) (fun cdv A outer s H vs Q E hr h => ?_)
  exact ⟨_, (pss_one (ps_ret (pe_and (pe_cmpR op_eqTy (pe_callTy call_type1 (by rfl) T.n_type (by rfl) (pa_cons (pv 0) pa_nil)) (pe_bltn (v := .ty "list") (u := .type "list") (by rfl) T.n_list (by rfl) rfl) (nomark _)) (pe_one (pe_chain op_le op_le (pv 1) (pe_callB call_len2 (by rfl) T.n_len (by rfl) (pa_cons (pv 0) pa_nil)) (pv 2)))))),
    read_P (m := m_is_list) in_is_list (fun F0 H0 => (js_ret (j_and (j_tyL (b := true) (j_var q_is_list_0)) (j_chain rj_le rj_le (j_var q_is_list_1) (j_cb rb_len (ja_cons (j_var q_is_list_0) ja_nil)) (j_var q_is_list_2))))) h⟩
def G_is_list (value1 : (List (Int × Int))) (least1 : Int) (most1 : Int) : Option (Bool) :=
  some (true && ((decide (least1 ≤ (value1.length : Int))) && (decide ((value1.length : Int) ≤ most1))))
theorem g_is_list (value1 : (List (Int × Int))) (least1 : Int) (most1 : Int) : F_is_list (value1, least1, most1, ()) = G_is_list value1 least1 most1 := by
  unfold F_is_list m_is_list i_is_list G_is_list
  refine run_k ?_
  refine s_ret ?_
  refine k_v (by exact v_and (v_op1 (v_rdv rfl) rfl) (v_chain (v_rdv rfl) (v_op1 (v_consA (v_rdv rfl) v_nilA) rfl) (v_rdv rfl) rfl rfl)) (by exact kfP_rt)
abbrev S_is_mark_id : Type := (Dt Int) × (Dt Any) × Unit
abbrev q_is_mark_id_0 : Pos S_is_mark_id (Dt Int) 0 := Pos.here
abbrev q_is_mark_id_1 : Pos S_is_mark_id (Dt Any) 1 := (Pos.there Pos.here)
def m_is_mark_id : MS S_is_mark_id Bool :=
    (retM (op1 F_is_between_dii (consA (rdv q_is_mark_id_1) (consA (pur (0 : Int)) (consA (op2 (fun x y : Int => some (x - y)) (rdv q_is_mark_id_0) (pur (1 : Int))) nilA)))))
def i_is_mark_id (x : Int × Any × Unit) : S_is_mark_id := (.is x.1, .is x.2.1, ())
def F_is_mark_id (x : Int × Any × Unit) : Option Bool := run m_is_mark_id (i_is_mark_id x)
theorem in_is_mark_id : Ini (Int × Any × Unit) S_is_mark_id N_is_mark 2 i_is_mark_id := fun K P own F H vs x h => by
  obtain ⟨v0, w0, rfl, h0, v1, w1, rfl, h1, rfl⟩ := h
  exact ⟨⟨_, _, rfl, ⟨_, rfl, h0⟩, _, _, rfl, ⟨_, rfl, h1⟩, rfl⟩, rfl⟩
theorem ok_is_mark_id (T : Tx K mg) : FnOk P w K mg base CX0 3 T.a_is_mark T.d_is_mark P_is_mark (spP K F_is_mark_id) := by
  refine T.p_is_mark.fn.ok sc_is_mark (fun vs H Q E h => len_P in_is_mark_id h) (fun cdv A outer s H vs Q E hr h => ?_)
  exact ⟨_, (pss_one (ps_ret (pe_call (ok_is_between_dii T) (hr.mono (by decide)) (by rfl) T.p_is_between.g T.p_is_between.fn.kp T.p_is_between.b .nil pass0 (pa_cons (pv 1) (pa_cons pe_int (pa_cons (pe_op op_sub (pv 0) pe_int) pa_nil)))))),
    read_P (m := m_is_mark_id) in_is_mark_id (fun F0 H0 => (js_ret (j_call (ja_cons (j_var q_is_mark_id_1) (ja_cons (j_int 0) (ja_cons (j_op rj_sub (j_var q_is_mark_id_0) (j_int 1)) ja_nil)))))) h⟩
def G_is_mark_id (marks1 : Int) (value1 : Any) : Option (Bool) :=
  (G_is_between_dii value1 (0 : Int) (marks1 - (1 : Int))).bnd fun t1 =>
  some t1
theorem g_is_mark_id (marks1 : Int) (value1 : Any) : F_is_mark_id (marks1, value1, ()) = G_is_mark_id marks1 value1 := by
  unfold F_is_mark_id m_is_mark_id i_is_mark_id G_is_mark_id
  refine run_k ?_
  refine s_ret ?_
  refine k_o (by exact o_op1 (v_consA (v_rdv rfl) (v_consA v_pur (v_consA (v_op2 (v_rdv rfl) v_pur rfl) v_nilA))) (g_is_between_dii value1 (0 : Int) (marks1 - (1 : Int)))) (fun t1 => ?_)
  (try dsimp only)
  exact kfP_rt
abbrev S_is_record_id : Type := (Dt Int) × (Dt Any) × (Dt Any) × (Dt Any) × Unit
abbrev q_is_record_id_0 : Pos S_is_record_id (Dt Int) 0 := Pos.here
abbrev q_is_record_id_1 : Pos S_is_record_id (Dt Any) 1 := (Pos.there Pos.here)
abbrev q_is_record_id_2 : Pos S_is_record_id (Dt Any) 2 := (Pos.there (Pos.there Pos.here))
abbrev q_is_record_id_3 : Pos S_is_record_id (Dt Any) 3 := (Pos.there (Pos.there (Pos.there Pos.here)))
def m_is_record_id : MS S_is_record_id Bool :=
    (seqM (ifS (orM (op1 (fun x : Any => some (!decide (tyN x.d = "tuple"))) (rdv q_is_record_id_1)) (op2 (fun x y : Int => some (!decide (x = y))) (op1 (fun x : Any × Unit => gLenA x.1.d) (consA (rdv q_is_record_id_1) nilA)) (pur (2 : Int)))) (retM (pur false)) nextM)
    (seqM (asgM (op1 (fun x : Any => (gDec x : Option (Any × Any))) (rdv q_is_record_id_1)) (pTwo (pName q_is_record_id_2) (pName q_is_record_id_3)))
    (retM (andM (op1 F_is_mark_id (consA (rdv q_is_record_id_0) (consA (rdv q_is_record_id_2) nilA))) (op1 F_is_between_dii (consA (rdv q_is_record_id_3) (consA (pur (1 : Int)) (consA (pur (10 ^ 31 : Int)) nilA))))))))
def i_is_record_id (x : Int × Any × Unit) : S_is_record_id := (.is x.1, .is x.2.1, .no, .no, ())
def F_is_record_id (x : Int × Any × Unit) : Option Bool := run m_is_record_id (i_is_record_id x)
theorem in_is_record_id : Ini (Int × Any × Unit) S_is_record_id N_is_record 2 i_is_record_id := fun K P own F H vs x h => by
  obtain ⟨v0, w0, rfl, h0, v1, w1, rfl, h1, rfl⟩ := h
  exact ⟨⟨_, _, rfl, ⟨_, rfl, h0⟩, _, _, rfl, ⟨_, rfl, h1⟩, _, _, rfl, trivial, _, _, rfl, trivial, rfl⟩, rfl⟩
theorem ok_is_record_id (T : Tx K mg) : FnOk P w K mg base CX0 4 T.a_is_record T.d_is_record P_is_record (spP K F_is_record_id) := by
  refine T.p_is_record.fn.ok sc_is_record (fun vs H Q E h => len_P in_is_record_id h) (fun cdv A outer s H vs Q E hr h => ?_)
  exact ⟨_, (pss_cons (ps_if (PW.pt (pw_or (pt_cmpR (op_neTyD (hu64 hr)) (pe_callTy call_type1 (by rfl) T.n_type (by rfl) (pa_cons (pv 1) pa_nil)) (pe_bltn (v := .ty "tuple") (u := .type "tuple") (by rfl) T.n_tuple (by rfl) rfl) (nomark _)) (pw_or1 (pt_cmpR op_ne (pe_callB call_len2 (by rfl) T.n_len (by rfl) (pa_cons (pv 1) pa_nil)) pe_int (nomark _))))) (pss_one (ps_ret pe_bl)) pss_nil)
      (pss_cons (ps_asg (pv 1) (pg_tup (n := 2) rfl (pgs_cons (pg_name (i := 2) sc_is_record.nd rfl (.inl rfl)) (pgs_cons (pg_name (i := 3) sc_is_record.nd rfl (.inl rfl)) pgs_nil))))
      (pss_one (ps_ret (pe_and (pe_call (ok_is_mark_id T) (hr.mono (by decide)) (by rfl) T.p_is_mark.g T.p_is_mark.fn.kp T.p_is_mark.b .nil pass0 (pa_cons (pv 0) (pa_cons (pv 2) pa_nil))) (pe_one (pe_call (ok_is_between_dii T) (hr.mono (by decide)) (by rfl) T.p_is_between.g T.p_is_between.fn.kp T.p_is_between.b .nil pass0 (pa_cons (pv 3) (pa_cons pe_int (pa_cons (pe_glob (v := .int (10 ^ 31)) rfl T.c_MOST_LENGTH ⟨_, rfl⟩) pa_nil)))))))))),
    read_P (m := m_is_record_id) in_is_record_id (fun F0 H0 => (js_seq (js_if (jt_or (jt_test (j_ntyA rfl (j_var q_is_record_id_1))) (jt_test (j_op rj_neI (j_cb rb_lenA (ja_cons (j_var q_is_record_id_1) ja_nil)) (j_int 2)))) (js_ret (j_bl false)) js_next)
    (js_seq (js_asg (j_dec (α := (Any × Any)) (j_var q_is_record_id_1)) (jg_two (jg_name q_is_record_id_2) (jg_name q_is_record_id_3)))
    (js_ret (j_and (j_call (ja_cons (j_var q_is_record_id_0) (ja_cons (j_var q_is_record_id_2) ja_nil))) (j_call (ja_cons (j_var q_is_record_id_3) (ja_cons (j_int 1) (ja_cons (j_int (10 ^ 31)) ja_nil))))))))) h⟩
def G_is_record_id (marks1 : Int) (value1 : Any) : Option (Bool) :=
  (if (!decide (tyN value1.d = "tuple")) = true then some true else ((gLenA value1.d).bnd fun t1 =>
  some (!decide (t1 = (2 : Int))))).bnd fun t2 =>
  if t2 = true then (some false) else (((gDec value1 : Option (Any × Any))).bnd fun p1 =>
  (G_is_mark_id marks1 p1.1).bnd fun t3 =>
  (if t3 = true then (G_is_between_dii p1.2 (1 : Int) (10 ^ 31 : Int)) else some false).bnd fun t4 =>
  some t4)
theorem g_is_record_id (marks1 : Int) (value1 : Any) : F_is_record_id (marks1, value1, ()) = G_is_record_id marks1 value1 := by
  unfold F_is_record_id m_is_record_id i_is_record_id G_is_record_id
  refine run_k ?_
  refine s_seq ?_
  refine s_ifK ?_
  refine k_o (by refine o_or (by exact v_op1 (v_rdv rfl) rfl) ?_; refine qv_o ?_; refine k_op2 ?_; refine k_o (by exact o_op1 (v_consA (v_rdv rfl) v_nilA) rfl) (fun t1 => ?_); refine k_v (by exact v_pur) ?_; refine k_s (by exact rfl) (by exact qv_some)) (fun t2 => ?_)
  refine s_if (by exact v_pur) (by refine s_ret ?_; refine k_v (by exact v_pur) ?_; (try dsimp only); refine s_seqR (by exact kfP_rt)) ?_
  refine s_nx ?_
  refine s_seqN ?_
  refine s_seq ?_
  refine s_asg ?_
  refine k_o (by exact o_op1 (v_rdv rfl) rfl) (fun p1 => ?_)
  (try dsimp only)
  refine p_two ?_
  refine p_name (s' := ((.is marks1, .is value1, .is p1.1, .no, ()) : S_is_record_id)) (by exact rfl) ?_
  refine p_name (s' := ((.is marks1, .is value1, .is p1.1, .is p1.2, ()) : S_is_record_id)) (by exact rfl) ?_
  refine s_seqN ?_
  refine s_ret ?_
  refine k_and ?_
  refine k_o (by exact o_op1 (v_consA (v_rdv rfl) (v_consA (v_rdv rfl) v_nilA)) (g_is_mark_id marks1 p1.1)) (fun t3 => ?_)
  refine k_o (by refine o_and (by exact v_pur) (by exact o_op1 (v_consA (v_rdv rfl) (v_consA v_pur (v_consA v_pur v_nilA))) (g_is_between_dii p1.2 (1 : Int) (10 ^ 31 : Int)))) (fun t4 => ?_)
  exact kfP_rt
abbrev S_check_marks : Type := (Dt Int) × Unit
abbrev q_check_marks_0 : Pos S_check_marks (Dt Int) 0 := Pos.here
def m_check_marks : MS S_check_marks Unit :=
    (ifS (op1 (fun b : Bool => some (!b)) (op1 F_is_between (consA (rdv q_check_marks_0) (consA (pur (1 : Int)) (consA (pur (10 ^ 30 : Int)) nilA))))) (fun _ => none) nextM)
def i_check_marks (x : Int × Unit) : S_check_marks := (.is x.1, ())
def F_check_marks (x : Int × Unit) : Option Unit := runU m_check_marks (i_check_marks x)
theorem in_check_marks : Ini (Int × Unit) S_check_marks N_check_marks 1 i_check_marks := fun K P own F H vs x h => by
  obtain ⟨v0, w0, rfl, h0, rfl⟩ := h
  exact ⟨⟨_, _, rfl, ⟨_, rfl, h0⟩, rfl⟩, rfl⟩
theorem ok_check_marks (T : Tx K mg) : FnOk P w K mg base CX0 3 T.a_check_marks T.d_check_marks P_check_marks (spP K F_check_marks) := by
  refine T.p_check_marks.fn.ok sc_check_marks (fun vs H Q E h => len_P in_check_marks h) (fun cdv A outer s H vs Q E hr h => ?_)
  exact ⟨_, (pss_one (ps_if (pt_not (pt_val (pe_call (ok_is_between T) (hr.mono (by decide)) (by rfl) T.p_is_between.g T.p_is_between.fn.kp T.p_is_between.b .nil pass0 (pa_cons (pv 0) (pa_cons pe_int (pa_cons (pe_glob (v := .int (10 ^ 30)) rfl T.c_MOST_MARKS ⟨_, rfl⟩) pa_nil)))))) (pss_one ps_never) pss_nil)),
    read_U (m := m_check_marks) in_check_marks (fun F0 H0 => (js_if (jt_not (jt_B (j_call (ja_cons (j_var q_check_marks_0) (ja_cons (j_int 1) (ja_cons (j_int (10 ^ 30)) ja_nil)))))) (js_never fun _ => rfl) js_next)) h⟩
def G_check_marks (marks1 : Int) : Option (Unit) :=
  (G_is_between marks1 (1 : Int) (10 ^ 30 : Int)).bnd fun t1 =>
  if (!t1) = true then (none) else (some ())
theorem g_check_marks (marks1 : Int) : F_check_marks (marks1, ()) = G_check_marks marks1 := by
  unfold F_check_marks m_check_marks i_check_marks G_check_marks
  refine runU_k ?_
  refine s_ifK ?_
  refine k_op1 ?_
  refine k_o (by exact o_op1 (v_consA (v_rdv rfl) (v_consA v_pur (v_consA v_pur v_nilA))) (g_is_between marks1 (1 : Int) (10 ^ 30 : Int))) (fun t1 => ?_)
  (try dsimp only)
  refine k_s (by exact rfl) ?_
  refine s_if (by exact v_pur) (by exact br_none) ?_
  refine s_nx (by exact kfU_nx)
abbrev S_is_records : Type := (Dt Int) × (Dt Any) × (Dt Any) × Unit
abbrev q_is_records_0 : Pos S_is_records (Dt Int) 0 := Pos.here
abbrev q_is_records_1 : Pos S_is_records (Dt Any) 1 := (Pos.there Pos.here)
abbrev q_is_records_2 : Pos S_is_records (Dt Any) 2 := (Pos.there (Pos.there Pos.here))
def m_is_records : MS S_is_records Bool :=
    (seqM (dropM (op1 F_check_marks (consA (rdv q_is_records_0) nilA)))
    (retM (andM (op1 F_is_list_dii (consA (rdv q_is_records_1) (consA (pur (1 : Int)) (consA (pur (30 : Int)) nilA)))) (op1 (fun x : List Bool × Unit => some (x.1.all id)) (consA (lcM (op1 (fun x : Any => (gDec x : Option (List Any))) (rdv q_is_records_1)) (Wp.wp (Wp.cons q_is_records_2 Wp.nil fun _ => rfl)) (pName q_is_records_2) (pur true) (op1 F_is_record_id (consA (rdv q_is_records_0) (consA (rdv q_is_records_2) nilA)))) nilA)))))
def i_is_records (x : Int × Any × Unit) : S_is_records := (.is x.1, .is x.2.1, .no, ())
def F_is_records (x : Int × Any × Unit) : Option Bool := run m_is_records (i_is_records x)
theorem in_is_records : Ini (Int × Any × Unit) S_is_records N_is_records 2 i_is_records := fun K P own F H vs x h => by
  obtain ⟨v0, w0, rfl, h0, v1, w1, rfl, h1, rfl⟩ := h
  exact ⟨⟨_, _, rfl, ⟨_, rfl, h0⟩, _, _, rfl, ⟨_, rfl, h1⟩, _, _, rfl, trivial, rfl⟩, rfl⟩
theorem ok_is_records (T : Tx K mg) : FnOk P w K mg base CX0 5 T.a_is_records T.d_is_records P_is_records (spP K F_is_records) := by
  refine T.p_is_records.fn.ok sc_is_records (fun vs H Q E h => len_P in_is_records h) (fun cdv A outer s H vs Q E hr h => ?_)
  exact ⟨_, (pss_cons (ps_expr (pe_call (ok_check_marks T) (hr.mono (by decide)) (by rfl) T.p_check_marks.g T.p_check_marks.fn.kp T.p_check_marks.b .nil pass0 (pa_cons (pv 0) pa_nil)))
      (pss_one (ps_ret (pe_and (pe_call (ok_is_list_dii T) (hr.mono (by decide)) (by rfl) T.p_is_list.g T.p_is_list.fn.kp T.p_is_list.b .nil pass0 (pa_cons (pv 1) (pa_cons pe_int (pa_cons (pe_glob (v := .int (30)) rfl T.c_MOST_RECORDS ⟨_, rfl⟩) pa_nil)))) (pe_one (pe_callB (cr_all rfl) (by rfl) T.n_all (by rfl) (pa_cons (pe_lc (own := [("item", 2)]) (tt := tYes) rfl sc_is_records.nd (pi_list (pv 1)) (blkOk_by (N := N_is_records) (sc := defScope s_is_records) (by decide +kernel)) (fun _ _ _ _ _ => by exact (pg_name (i := 2) sc_is_records.nd rfl (.inl rfl))) (fun _ _ _ _ _ => pts_nil) (fun _ _ _ _ _ => by exact (pe_call (ok_is_record_id T) (hr.mono (by decide)) (by rfl) T.p_is_record.g T.p_is_record.fn.kp T.p_is_record.b .nil pass0 (pa_cons (pv 0) (pa_cons (pv 2) pa_nil))))) pa_nil))))))),
    read_P (m := m_is_records) in_is_records (fun F0 H0 => (js_seq (js_drop (j_call (ja_cons (j_var q_is_records_0) ja_nil)))
    (js_ret (j_and (j_call (ja_cons (j_var q_is_records_1) (ja_cons (j_int 1) (ja_cons (j_int (30)) ja_nil)))) (j_cb rb_all (ja_cons ((jf_lc (Wp.cons q_is_records_2 Wp.nil fun _ => rfl) (ji_list (j_dec (α := (List Any)) (j_var q_is_records_1))) (jg_name q_is_records_2) (by decide) jt_yes (j_call (ja_cons (j_var q_is_records_0) (ja_cons (j_var q_is_records_2) ja_nil))))).e ja_nil)))))) h⟩
def G_is_records (marks1 : Int) (value1 : Any) : Option (Bool) :=
  (G_check_marks marks1).bnd fun t1 =>
  (G_is_list_dii value1 (1 : Int) (30 : Int)).bnd fun t2 =>
  (if t2 = true then (((gDec value1 : Option (List Any))).bnd fun t3 =>
  (short t3).bnd fun _ => (mapO (fun (x1 : Any) => (G_is_record_id marks1 x1)) t3).bnd fun l1 =>
  some (l1.all id)) else some false).bnd fun t4 =>
  some t4
theorem g_is_records (marks1 : Int) (value1 : Any) : F_is_records (marks1, value1, ()) = G_is_records marks1 value1 := by
  unfold F_is_records m_is_records i_is_records G_is_records
  refine run_k ?_
  refine s_seq ?_
  refine s_drop ?_
  refine k_o (by exact o_op1 (v_consA (v_rdv rfl) v_nilA) (g_check_marks marks1)) (fun t1 => ?_)
  (try dsimp only)
  refine s_seqN ?_
  refine s_ret ?_
  refine k_and ?_
  refine k_o (by exact o_op1 (v_consA (v_rdv rfl) (v_consA v_pur (v_consA v_pur v_nilA))) (g_is_list_dii value1 (1 : Int) (30 : Int))) (fun t2 => ?_)
  refine k_o (by refine o_and (by exact v_pur) ?_; refine qv_o ?_; refine k_op1 ?_; refine k_consA ?_; refine k_lcM ?_; refine k_o (by exact o_op1 (v_rdv rfl) rfl) (fun t3 => ?_); (try dsimp only); refine k_t (by rfl) (fun _ => ?_); refine k_lca (s0 := ((.is marks1, .is value1, .no, ()) : S_is_records)) (s1 := fun x1 => ((.is marks1, .is value1, .is x1, ()) : S_is_records)) (by exact rfl) (fun _ => by exact rfl) (fun x1 => by exact o_op1 (v_consA (v_rdv rfl) (v_consA (v_rdv rfl) v_nilA)) (g_is_record_id marks1 x1)) (fun _ => by exact rfl) (fun l1 => ?_); refine k_v (by exact v_nilA) ?_; refine k_s (by exact rfl) (by exact qv_some)) (fun t4 => ?_)
  exact kfP_rt
abbrev S_law_source : Type := (Dt Int) × (Dt Int) × (Dt Int) × Unit
abbrev q_law_source_0 : Pos S_law_source (Dt Int) 0 := Pos.here
abbrev q_law_source_1 : Pos S_law_source (Dt Int) 1 := (Pos.there Pos.here)
abbrev q_law_source_2 : Pos S_law_source (Dt Int) 2 := (Pos.there (Pos.there Pos.here))
def m_law_source : MS S_law_source (List Int) :=
    (seqM (asgM (op1 (fun x : Int × Unit => some (if x.1 < 0 then -x.1 else x.1)) (consA (rdv q_law_source_0) nilA)) (pName q_law_source_2))
    (retM (op1 shortL (consM (op1 (fun x : Int × Int × Unit => some (if x.2.1 > x.1 then x.2.1 else x.1)) (consA (pur (0 : Int)) (consA (op2 (fun x y : Int => some (x - y)) (rdv q_law_source_2) (op2 gPow (pur (10 : Int)) (pur (18 : Int)))) nilA))) (consM (op2 (fun x y : Int => some (x + y)) (op2 (fun x y : Int => some (x + y)) (op2 gMul (op2 gMod (op1 (fun x : Int × Unit => some x.1) (consA (rdv q_law_source_2) nilA)) (op2 (fun x y : Int => some (x + y)) (op2 gPow (pur (10 : Int)) (pur (44 : Int))) (pur (31 : Int)))) (pur (97 : Int))) (op2 gMul (pur (2 : Int)) (rdv q_law_source_1))) (op1 (fun x : Bool × Unit => some (if x.1 then (1 : Int) else 0)) (consA (op2 (fun x y : Int => some (decide (x < y))) (rdv q_law_source_0) (pur (0 : Int))) nilA))) (consM (pur (0 : Int)) nilM))))))
def i_law_source (x : Int × Int × Unit) : S_law_source := (.is x.1, .is x.2.1, .no, ())
def F_law_source (x : Int × Int × Unit) : Option (List Int) := run m_law_source (i_law_source x)
theorem in_law_source : Ini (Int × Int × Unit) S_law_source N_law_source 2 i_law_source := fun K P own F H vs x h => by
  obtain ⟨v0, w0, rfl, h0, v1, w1, rfl, h1, rfl⟩ := h
  exact ⟨⟨_, _, rfl, ⟨_, rfl, h0⟩, _, _, rfl, ⟨_, rfl, h1⟩, _, _, rfl, trivial, rfl⟩, rfl⟩
theorem ok_law_source (T : Tx K mg) : FnOk P w K mg base CX0 1 T.a_law_source T.d_law_source P_law_source (spN K F_law_source) := by
  refine T.p_law_source.fn.ok sc_law_source (fun vs H Q E h => len_N in_law_source h) (fun cdv A outer s H vs Q E hr h => ?_)
  exact ⟨_, (pss_cons (ps_set (i := 2) sc_law_source.nd rfl (.inl rfl) (pe_callB call_abs2 (by rfl) T.n_abs (by rfl) (pa_cons (pv 0) pa_nil)))
      (pss_one (ps_ret (pe_lst (pa_cons (pe_callB (call_mx2 rfl) (by rfl) T.n_max (by rfl) (pa_cons pe_int (pa_cons (pe_op op_sub (pv 2) (pe_op op_powW pe_int pe_int)) pa_nil))) (pa_cons (pe_op op_add (pe_op op_add (pe_op op_mulW (pe_op op_mod (pe_callTy call_intI (by rfl) T.n_int (by rfl) (pa_cons (pv 2) pa_nil)) (pe_op op_add (pe_op op_powW pe_int pe_int) pe_int)) pe_int) (pe_op op_mulW pe_int (pv 1))) (pe_callTy call_intB (by rfl) T.n_int (by rfl) (pa_cons (pe_cmpR op_lt (pv 0) pe_int (nomark _)) pa_nil))) (pa_cons pe_int pa_nil))))))),
    read_N (m := m_law_source) in_law_source (fun F0 H0 => (js_seq (js_asg (j_cb rb_abs (ja_cons (j_var q_law_source_0) ja_nil)) (jg_name q_law_source_2))
    (js_retF (jf_lst (jl_cons (j_cb rb_max2 (ja_cons (j_int 0) (ja_cons (j_op rj_sub (j_var q_law_source_2) (j_op rj_pow (j_int 10) (j_int 18))) ja_nil))) (jl_cons (j_op rj_add (j_op rj_add (j_op rj_mul (j_op rj_mod (j_cb rb_int (ja_cons (j_var q_law_source_2) ja_nil)) (j_op rj_add (j_op rj_pow (j_int 10) (j_int 44)) (j_int 31))) (j_int 97)) (j_op rj_mul (j_int 2) (j_var q_law_source_1))) (j_cb rb_intB (ja_cons (j_op rj_lt (j_var q_law_source_0) (j_int 0)) ja_nil))) (jl_cons (j_int 0) jl_nil))))))) h⟩
def G_law_source (cell1 : Int) (k1 : Int) : Option ((List Int)) :=
  letO (if cell1 < 0 then -cell1 else cell1) fun great1 =>
  (gPow (10 : Int) (18 : Int)).bnd fun t1 =>
  (gPow (10 : Int) (44 : Int)).bnd fun t2 =>
  (gMod great1 (t2 + (31 : Int))).bnd fun t3 =>
  (gMul t3 (97 : Int)).bnd fun t4 =>
  (gMul (2 : Int) k1).bnd fun t5 =>
  (shortL [(if (great1 - t1) > (0 : Int) then (great1 - t1) else (0 : Int)), ((t4 + t5) + (if (decide (cell1 < (0 : Int))) then (1 : Int) else 0)), (0 : Int)]).bnd fun t6 =>
  some t6
theorem g_law_source (cell1 : Int) (k1 : Int) : F_law_source (cell1, k1, ()) = G_law_source cell1 k1 := by
  unfold F_law_source m_law_source i_law_source G_law_source
  refine run_k ?_
  refine s_seq ?_
  refine s_asg ?_
  refine k_vl (by exact v_op1 (v_consA (v_rdv rfl) v_nilA) rfl) (fun great1 => ?_)
  refine p_name (s' := ((.is cell1, .is k1, .is great1, ()) : S_law_source)) (by exact rfl) ?_
  refine s_seqN ?_
  refine s_ret ?_
  refine k_op1 ?_
  refine k_consM ?_
  refine k_op1 ?_
  refine k_consA ?_
  refine k_v (by exact v_pur) ?_
  refine k_consA ?_
  refine k_op2 ?_
  refine k_v (by exact v_rdv rfl) ?_
  (try dsimp only)
  refine k_o (by exact o_op2 v_pur v_pur rfl) (fun t1 => ?_)
  refine k_s (by exact rfl) ?_
  refine k_v (by exact v_nilA) ?_
  (try dsimp only)
  refine k_s (by exact rfl) ?_
  refine k_consM ?_
  refine k_op2 ?_
  refine k_op2 ?_
  refine k_op2 ?_
  refine k_op2 ?_
  refine k_v (by exact v_op1 (v_consA (v_rdv rfl) v_nilA) rfl) ?_
  refine k_op2 ?_
  refine k_o (by exact o_op2 v_pur v_pur rfl) (fun t2 => ?_)
  (try dsimp only)
  refine k_v (by exact v_pur) ?_
  refine k_s (by exact rfl) ?_
  refine k_t (by exact rfl) (fun t3 => ?_)
  (try dsimp only)
  refine k_v (by exact v_pur) ?_
  refine k_t (by exact rfl) (fun t4 => ?_)
  refine k_o (by exact o_op2 v_pur (v_rdv rfl) rfl) (fun t5 => ?_)
  (try dsimp only)
  refine k_s (by exact rfl) ?_
  refine k_v (by exact v_op1 (v_consA (v_op2 (v_rdv rfl) v_pur rfl) v_nilA) rfl) ?_
  refine k_s (by exact rfl) ?_
  (try dsimp only)
  refine k_v (by exact v_consM v_pur v_nilM) ?_
  refine k_t (by exact rfl) (fun t6 => ?_)
  exact kfP_rt
abbrev S_law_draw : Type := (Src true) × (Dt Int) × (Dt Int) × (Dt Int) × Unit
abbrev q_law_draw_0 : Pos S_law_draw (Src true) 0 := Pos.here
abbrev q_law_draw_1 : Pos S_law_draw (Dt Int) 1 := (Pos.there Pos.here)
abbrev q_law_draw_2 : Pos S_law_draw (Dt Int) 2 := (Pos.there (Pos.there Pos.here))
abbrev q_law_draw_3 : Pos S_law_draw (Dt Int) 3 := (Pos.there (Pos.there (Pos.there Pos.here)))
def m_law_draw : MS S_law_draw Int :=
    (seqM (ifS (op2 (fun x y : Int => some (decide (y < x))) (ixSM q_law_draw_0 (pur (0 : Int))) (pur (0 : Int))) (seqM (asgM (op2 gMod (op1 (fun x : Int × Unit => some x.1) (consA (ixSM q_law_draw_0 (pur (0 : Int))) nilA)) (rdv q_law_draw_1)) (pName q_law_draw_2))
    (seqM (setSM q_law_draw_0 (op2 gDiv (ixSM q_law_draw_0 (pur (0 : Int))) (rdv q_law_draw_1)) (pur (0 : Int)))
    (retM (rdv q_law_draw_2)))) nextM)
    (seqM (setSM q_law_draw_0 (op2 (fun x y : Int => some (x + y)) (ixSM q_law_draw_0 (pur (2 : Int))) (pur (1 : Int))) (pur (2 : Int)))
    (seqM (asgM (op2 gMod (op1 (fun x : Int × Unit => some x.1) (consA (op2 gPow (op2 (fun x y : Int => some (x + y)) (ixSM q_law_draw_0 (pur (1 : Int))) (op2 gMul (pur (900007 : Int)) (ixSM q_law_draw_0 (pur (2 : Int))))) (pur (3 : Int))) nilA)) (op2 (fun x y : Int => some (x + y)) (op2 gPow (pur (10 : Int)) (pur (39 : Int))) (pur (3 : Int)))) (pName q_law_draw_3))
    (seqM (asgM (op2 gMod (op1 (fun x : Int × Unit => some x.1) (consA (op2 gPow (op2 (fun x y : Int => some (x + y)) (op2 gMul (rdv q_law_draw_3) (ixSM q_law_draw_0 (pur (2 : Int)))) (pur (60013 : Int))) (pur (3 : Int))) nilA)) (op2 (fun x y : Int => some (x + y)) (op2 gPow (pur (10 : Int)) (pur (40 : Int))) (pur (121 : Int)))) (pName q_law_draw_3))
    (retM (op2 gMod (op1 (fun x : Int × Unit => some x.1) (consA (op2 gDiv (rdv q_law_draw_3) (pur (104729 : Int))) nilA)) (rdv q_law_draw_1)))))))
def i_law_draw (zs : List Int) (x : Int × Unit) : S_law_draw := (.at zs, .is x.1, .no, .no, ())
def F_law_draw (zs : List Int) (x : Int × Unit) : Option (Int × List Int) := runS q_law_draw_0 m_law_draw (i_law_draw zs x)
theorem in_law_draw : IniS (Int × Unit) S_law_draw N_law_draw 2 i_law_draw := fun K P own F H vs x a zs h ho hp hf hh => by
  obtain ⟨v0, w0, rfl, h0, rfl⟩ := h
  exact ⟨⟨_, _, rfl, ⟨a, rfl, ho, hp, hf, hh⟩, _, _, rfl, ⟨_, rfl, h0⟩, _, _, rfl, trivial, _, _, rfl, trivial, rfl⟩, rfl⟩
theorem ok_law_draw (T : Tx K mg) : FnOk P w K mg base CX0 1 T.a_law_draw T.d_law_draw P_law_draw (spS K F_law_draw) := by
  refine T.p_law_draw.fn.ok sc_law_draw (fun vs H Q E h => len_S in_law_draw h) (fun cdv A outer s H vs Q E hr h => ?_)
  exact ⟨_, (pss_cons (ps_if (pt_cmpR op_gt (pe_ix ix_list (pv 0) pe_int (fun _ _ => rfl)) pe_int (nomark _)) (pss_cons (ps_set (i := 2) sc_law_draw.nd rfl (.inl rfl) (pe_op op_mod (pe_callTy call_intI (by rfl) T.n_int (by rfl) (pa_cons (pe_ix ix_list (pv 0) pe_int (fun _ _ => rfl)) pa_nil)) (pv 1)))
      (pss_cons (ps_asg (pe_op op_fdivW (pe_ix ix_list (pv 0) pe_int (fun _ _ => rfl)) (pv 1)) (pg_sub (pv 0) pe_int set_list))
      (pss_one (ps_ret (pv 2))))) pss_nil)
      (pss_cons (ps_asg (pe_op op_add (pe_ix ix_list (pv 0) pe_int (fun _ _ => rfl)) pe_int) (pg_sub (pv 0) pe_int set_list))
      (pss_cons (ps_set (i := 3) sc_law_draw.nd rfl (.inl rfl) (pe_op op_mod (pe_callTy call_intI (by rfl) T.n_int (by rfl) (pa_cons (pe_op op_powW (pe_op op_add (pe_ix ix_list (pv 0) pe_int (fun _ _ => rfl)) (pe_op op_mulW pe_int (pe_ix ix_list (pv 0) pe_int (fun _ _ => rfl)))) pe_int) pa_nil)) (pe_op op_add (pe_op op_powW pe_int pe_int) pe_int)))
      (pss_cons (ps_set (i := 3) sc_law_draw.nd rfl (.inl rfl) (pe_op op_mod (pe_callTy call_intI (by rfl) T.n_int (by rfl) (pa_cons (pe_op op_powW (pe_op op_add (pe_op op_mulW (pv 3) (pe_ix ix_list (pv 0) pe_int (fun _ _ => rfl))) pe_int) pe_int) pa_nil)) (pe_op op_add (pe_op op_powW pe_int pe_int) pe_int)))
      (pss_one (ps_ret (pe_op op_mod (pe_callTy call_intI (by rfl) T.n_int (by rfl) (pa_cons (pe_op op_fdivW (pv 3) pe_int) pa_nil)) (pv 1)))))))),
    read_S q_law_draw_0 (m := m_law_draw) in_law_draw (fun a F0 H0 => (js_seq (js_if (jt_test (j_op rj_gt (j_ixS q_law_draw_0 (j_int 0)) (j_int 0))) (js_seq (js_asg (j_op rj_mod (j_cb rb_int (ja_cons (j_ixS q_law_draw_0 (j_int 0)) ja_nil)) (j_var q_law_draw_1)) (jg_name q_law_draw_2))
    (js_seq (js_setS q_law_draw_0 (j_op rj_div (j_ixS q_law_draw_0 (j_int 0)) (j_var q_law_draw_1)) (j_int 0))
    (js_ret (j_var q_law_draw_2)))) js_next)
    (js_seq (js_setS q_law_draw_0 (j_op rj_add (j_ixS q_law_draw_0 (j_int 2)) (j_int 1)) (j_int 2))
    (js_seq (js_asg (j_op rj_mod (j_cb rb_int (ja_cons (j_op rj_pow (j_op rj_add (j_ixS q_law_draw_0 (j_int 1)) (j_op rj_mul (j_int 900007) (j_ixS q_law_draw_0 (j_int 2)))) (j_int 3)) ja_nil)) (j_op rj_add (j_op rj_pow (j_int 10) (j_int 39)) (j_int 3))) (jg_name q_law_draw_3))
    (js_seq (js_asg (j_op rj_mod (j_cb rb_int (ja_cons (j_op rj_pow (j_op rj_add (j_op rj_mul (j_var q_law_draw_3) (j_ixS q_law_draw_0 (j_int 2))) (j_int 60013)) (j_int 3)) ja_nil)) (j_op rj_add (j_op rj_pow (j_int 10) (j_int 40)) (j_int 121))) (jg_name q_law_draw_3))
    (js_ret (j_op rj_mod (j_cb rb_int (ja_cons (j_op rj_div (j_var q_law_draw_3) (j_int 104729)) ja_nil)) (j_var q_law_draw_1)))))))) h⟩
def G_law_draw (source1 : List Int) (count1 : Int) : Option (Int × List Int) :=
  (atI source1 (0 : Int)).bnd fun t1 =>
  if (decide ((0 : Int) < t1)) = true then ((atI source1 (0 : Int)).bnd fun t2 =>
  (gMod t2 count1).bnd fun digit1 =>
  (atI source1 (0 : Int)).bnd fun t5 =>
  (gDiv t5 count1).bnd fun t6 =>
  (ixN source1.length (0 : Int)).bnd fun j1 =>
  some (digit1, (source1.set j1 t6))) else ((atI source1 (2 : Int)).bnd fun t8 =>
  (ixN source1.length (2 : Int)).bnd fun j2 =>
  (atI (source1.set j2 (t8 + (1 : Int))) (1 : Int)).bnd fun t9 =>
  (atI (source1.set j2 (t8 + (1 : Int))) (2 : Int)).bnd fun t10 =>
  (gMul (900007 : Int) t10).bnd fun t11 =>
  (gPow (t9 + t11) (3 : Int)).bnd fun t12 =>
  (gPow (10 : Int) (39 : Int)).bnd fun t13 =>
  (gMod t12 (t13 + (3 : Int))).bnd fun mixed1 =>
  (atI (source1.set j2 (t8 + (1 : Int))) (2 : Int)).bnd fun t14 =>
  (gMul mixed1 t14).bnd fun t15 =>
  (gPow (t15 + (60013 : Int)) (3 : Int)).bnd fun t16 =>
  (gPow (10 : Int) (40 : Int)).bnd fun t17 =>
  (gMod t16 (t17 + (121 : Int))).bnd fun mixed2 =>
  (gDiv mixed2 (104729 : Int)).bnd fun t18 =>
  (gMod t18 count1).bnd fun t19 =>
  some (t19, (source1.set j2 (t8 + (1 : Int)))))
theorem g_law_draw (source1 : List Int) (count1 : Int) : F_law_draw source1 (count1, ()) = G_law_draw source1 count1 := by
  unfold F_law_draw m_law_draw i_law_draw G_law_draw
  refine runS_k ?_
  refine s_seq ?_
  refine s_ifK ?_
  refine k_op2 ?_
  refine k_o (by exact o_ixS rfl v_pur rfl) (fun t1 => ?_)
  (try dsimp only)
  refine k_v (by exact v_pur) ?_
  refine k_s (by exact rfl) ?_
  refine s_if (by exact v_pur) (by refine s_seq ?_; refine s_asg ?_; refine k_op2 ?_; refine k_op1 ?_; refine k_consA ?_; refine k_o (by exact o_ixS rfl v_pur rfl) (fun t2 => ?_); refine k_v (by exact v_nilA) ?_; refine k_s (by exact rfl) ?_; (try dsimp only); refine k_v (by exact v_rdv rfl) ?_; refine k_t (by exact rfl) (fun digit1 => ?_); refine p_name (s' := ((.at source1, .is count1, .is digit1, .no, ()) : S_law_draw)) (by exact rfl) ?_; refine s_seqN ?_; refine s_seq ?_; refine s_setS (by exact hset_o (qv_o (k_op2 (k_o (o_ixS rfl v_pur rfl) fun t3 => (k_v (v_rdv rfl) (k_t rfl fun t4 => qv_some))))) rfl) ?_; refine k_op2 ?_; refine k_o (by exact o_ixS rfl v_pur rfl) (fun t5 => ?_); (try dsimp only); refine k_v (by exact v_rdv rfl) ?_; refine k_t (by exact rfl) (fun t6 => ?_); refine k_v (by exact v_pur) ?_; (try dsimp only); refine k_v (by exact v_rdS rfl) ?_; refine k_t (by exact rfl) (fun j1 => ?_); refine s_nx' (s' := ((.at (source1.set j1 t6), .is count1, .is digit1, .no, ()) : S_law_draw)) (by exact rfl) ?_; refine s_seqN ?_; refine s_ret ?_; refine k_v (by exact v_rdv rfl) ?_; (try dsimp only); refine s_seqR (by exact kfS_rt rfl)) ?_
  refine s_nx ?_
  refine s_seqN ?_
  refine s_seq ?_
  refine s_setS (by exact hset_o (qv_o (k_op2 (k_o (o_ixS rfl v_pur rfl) fun t7 => (k_v v_pur (k_s rfl qv_some))))) rfl) ?_
  refine k_op2 ?_
  refine k_o (by exact o_ixS rfl v_pur rfl) (fun t8 => ?_)
  (try dsimp only)
  refine k_v (by exact v_pur) ?_
  refine k_s (by exact rfl) ?_
  refine k_v (by exact v_pur) ?_
  (try dsimp only)
  refine k_v (by exact v_rdS rfl) ?_
  refine k_t (by exact rfl) (fun j2 => ?_)
  refine s_nx' (s' := ((.at (source1.set j2 (t8 + (1 : Int))), .is count1, .no, .no, ()) : S_law_draw)) (by exact rfl) ?_
  refine s_seqN ?_
  refine s_seq ?_
  refine s_asg ?_
  refine k_op2 ?_
  refine k_op1 ?_
  refine k_consA ?_
  refine k_op2 ?_
  refine k_op2 ?_
  refine k_o (by exact o_ixS rfl v_pur rfl) (fun t9 => ?_)
  (try dsimp only)
  refine k_op2 ?_
  refine k_v (by exact v_pur) ?_
  refine k_o (by exact o_ixS rfl v_pur rfl) (fun t10 => ?_)
  refine k_t (by exact rfl) (fun t11 => ?_)
  (try dsimp only)
  refine k_s (by exact rfl) ?_
  refine k_v (by exact v_pur) ?_
  refine k_t (by exact rfl) (fun t12 => ?_)
  (try dsimp only)
  refine k_v (by exact v_nilA) ?_
  refine k_s (by exact rfl) ?_
  refine k_op2 ?_
  refine k_o (by exact o_op2 v_pur v_pur rfl) (fun t13 => ?_)
  (try dsimp only)
  refine k_v (by exact v_pur) ?_
  refine k_s (by exact rfl) ?_
  refine k_t (by exact rfl) (fun mixed1 => ?_)
  (try dsimp only)
  refine p_name (s' := ((.at (source1.set j2 (t8 + (1 : Int))), .is count1, .no, .is mixed1, ()) : S_law_draw)) (by exact rfl) ?_
  refine s_seqN ?_
  refine s_seq ?_
  refine s_asg ?_
  refine k_op2 ?_
  refine k_op1 ?_
  refine k_consA ?_
  refine k_op2 ?_
  refine k_op2 ?_
  refine k_op2 ?_
  refine k_v (by exact v_rdv rfl) ?_
  refine k_o (by exact o_ixS rfl v_pur rfl) (fun t14 => ?_)
  refine k_t (by exact rfl) (fun t15 => ?_)
  (try dsimp only)
  refine k_v (by exact v_pur) ?_
  refine k_s (by exact rfl) ?_
  refine k_v (by exact v_pur) ?_
  (try dsimp only)
  refine k_t (by exact rfl) (fun t16 => ?_)
  refine k_v (by exact v_nilA) ?_
  refine k_s (by exact rfl) ?_
  (try dsimp only)
  refine k_op2 ?_
  refine k_o (by exact o_op2 v_pur v_pur rfl) (fun t17 => ?_)
  refine k_v (by exact v_pur) ?_
  refine k_s (by exact rfl) ?_
  (try dsimp only)
  refine k_t (by exact rfl) (fun mixed2 => ?_)
  refine p_name (s' := ((.at (source1.set j2 (t8 + (1 : Int))), .is count1, .no, .is mixed2, ()) : S_law_draw)) (by exact rfl) ?_
  refine s_seqN ?_
  refine s_ret ?_
  refine k_op2 ?_
  refine k_op1 ?_
  refine k_consA ?_
  refine k_o (by exact o_op2 (v_rdv rfl) v_pur rfl) (fun t18 => ?_)
  refine k_v (by exact v_nilA) ?_
  (try dsimp only)
  refine k_s (by exact rfl) ?_
  refine k_v (by exact v_rdv rfl) ?_
  refine k_t (by exact rfl) (fun t19 => ?_)
  (try dsimp only)
  exact kfS_rt rfl
abbrev S_law_lot : Type := (Src true) × (Dt Int) × (Dt Int) × (Own (List (Int × Int))) × (Dt Int) × (Dt Int) × (Dt Int) × (Dt Int) × (Dt Int) × Unit
abbrev q_law_lot_0 : Pos S_law_lot (Src true) 0 := Pos.here
abbrev q_law_lot_1 : Pos S_law_lot (Dt Int) 1 := (Pos.there Pos.here)
abbrev q_law_lot_2 : Pos S_law_lot (Dt Int) 2 := (Pos.there (Pos.there Pos.here))
abbrev q_law_lot_3 : Pos S_law_lot (Own (List (Int × Int))) 3 := (Pos.there (Pos.there (Pos.there Pos.here)))
abbrev q_law_lot_4 : Pos S_law_lot (Dt Int) 4 := (Pos.there (Pos.there (Pos.there (Pos.there Pos.here))))
abbrev q_law_lot_5 : Pos S_law_lot (Dt Int) 5 := (Pos.there (Pos.there (Pos.there (Pos.there (Pos.there Pos.here)))))
abbrev q_law_lot_6 : Pos S_law_lot (Dt Int) 6 := (Pos.there (Pos.there (Pos.there (Pos.there (Pos.there (Pos.there Pos.here))))))
abbrev q_law_lot_7 : Pos S_law_lot (Dt Int) 7 := (Pos.there (Pos.there (Pos.there (Pos.there (Pos.there (Pos.there (Pos.there Pos.here)))))))
abbrev q_law_lot_8 : Pos S_law_lot (Dt Int) 8 := (Pos.there (Pos.there (Pos.there (Pos.there (Pos.there (Pos.there (Pos.there (Pos.there Pos.here))))))))
def b_law_lot_0 : MS S_law_lot (List (Int × Int)) :=
    (seqM (asgM (op2 (fun x y : Int => some (x + y)) (pur (1 : Int)) (srcM q_law_lot_0 F_law_draw (consA (op2 (fun x i => atI x i) (op1 shortL (consM (op1 (fun x : Int × Int × Unit => some (if x.2.1 < x.1 then x.2.1 else x.1)) (consA (rdv q_law_lot_1) (consA (pur (2 : Int)) nilA))) (consM (rdv q_law_lot_1) (consM (rdv q_law_lot_1) (consM (op2 (fun x y : Int => some (x + y)) (op2 gMul (pur (2 : Int)) (rdv q_law_lot_1)) (pur (1 : Int))) nilM))))) (srcM q_law_lot_0 F_law_draw (consA (pur (4 : Int)) nilA))) nilA))) (pName q_law_lot_7))
    (seqM (asgM (srcM q_law_lot_0 F_law_draw (consA (rdv q_law_lot_1) nilA)) (pName q_law_lot_8))
    (seqM (ifS (andM (op2 (fun x y : Int => some (decide (x = y))) (rdv q_law_lot_4) (pur (1 : Int))) (op2 (fun x y : Int => some (decide (x = y))) (srcM q_law_lot_0 F_law_draw (consA (pur (2 : Int)) nilA)) (pur (0 : Int)))) (asgM (rdv q_law_lot_5) (pName q_law_lot_8)) nextM)
    (seqM (ifS (andM (op2 (fun x y : Int => some (decide (x = y))) (rdv q_law_lot_4) (pur (2 : Int))) (ixO q_law_lot_3 (op1 shortL (nilM (α := (Int × Int)))) (neD (α := (List (Int × Int))) (β := (List (Int × Int)))))) (asgM (op2 gMod (op1 (fun x : Int × Unit => some x.1) (consA (op1 (fun x : (Int × Int) × Unit => some (x.1.1 + x.1.2)) (consA (ixO q_law_lot_3 (op1 (fun x : Int => some (-x)) (pur (1 : Int))) fun x i => atI x i) nilA)) nilA)) (rdv q_law_lot_1)) (pName q_law_lot_8)) nextM)
    (seqM (ifS (op2 (fun x y : Int => some (decide (x = y))) (rdv q_law_lot_4) (pur (3 : Int))) (asgM (op2 gMul (rdv q_law_lot_1) (op2 (fun x y : Int => some (x + y)) (pur (1 : Int)) (op1 (fun x : Bool × Unit => some (if x.1 then (1 : Int) else 0)) (consA (op2 (fun x y : Int => some (decide (x = y))) (srcM q_law_lot_0 F_law_draw (consA (pur (4 : Int)) nilA)) (pur (0 : Int))) nilA)))) (pName q_law_lot_7)) nextM)
    (appM q_law_lot_3 (op1 (fun x => some (x.1, x.2.1)) (consA (rdv q_law_lot_8) (consA (rdv q_law_lot_7) nilA)))))))))
def m_law_lot : MS S_law_lot (List (Int × Int)) :=
    (seqM (par3OM (op1 shortL (nilM (α := (Int × Int)))) (srcM q_law_lot_0 F_law_draw (consA (pur (4 : Int)) nilA)) (srcM q_law_lot_0 F_law_draw (consA (rdv q_law_lot_1) nilA)) (pOwn q_law_lot_3) (pName q_law_lot_4) (pName q_law_lot_5))
    (seqM (forM (op1 (fun x : Int × Unit => gRg1 x.1) (consA (rdv q_law_lot_2) nilA)) (pName q_law_lot_6) b_law_lot_0)
    (retM (giv q_law_lot_3))))
def i_law_lot (zs : List Int) (x : Int × Int × Unit) : S_law_lot := (.at zs, .is x.1, .is x.2.1, .no, .no, .no, .no, .no, .no, ())
def F_law_lot (zs : List Int) (x : Int × Int × Unit) : Option ((List (Int × Int)) × List Int) := runS q_law_lot_0 m_law_lot (i_law_lot zs x)
theorem in_law_lot : IniS (Int × Int × Unit) S_law_lot N_law_lot 3 i_law_lot := fun K P own F H vs x a zs h ho hp hf hh => by
  obtain ⟨v0, w0, rfl, h0, v1, w1, rfl, h1, rfl⟩ := h
  exact ⟨⟨_, _, rfl, ⟨a, rfl, ho, hp, hf, hh⟩, _, _, rfl, ⟨_, rfl, h0⟩, _, _, rfl, ⟨_, rfl, h1⟩, _, _, rfl, trivial, _, _, rfl, trivial, _, _, rfl, trivial, _, _, rfl, trivial, _, _, rfl, trivial, _, _, rfl, trivial, rfl⟩, rfl⟩
theorem ok_law_lot (T : Tx K mg) : FnOk P w K mg base CX0 2 T.a_law_lot T.d_law_lot P_law_lot (spS K F_law_lot) := by
  refine T.p_law_lot.fn.ok sc_law_lot (fun vs H Q E h => len_S in_law_lot h) (fun cdv A outer s H vs Q E hr h => ?_)
  exact ⟨_, (pss_cons (ps_par3 (i := 3) (j := 4) (l := 5) rfl sc_law_lot.nd rfl rfl rfl (by decide) (by decide) (by decide) rfl rfl rfl (pa_cons (pe_lst pa_nil) (pa_cons (pe_call (ok_law_draw T) (hr.mono (by decide)) (by rfl) T.p_law_draw.g T.p_law_draw.fn.kp T.p_law_draw.b .nil pass0 (pa_cons (pv 0) (pa_cons pe_int pa_nil))) (pa_cons (pe_call (ok_law_draw T) (hr.mono (by decide)) (by rfl) T.p_law_draw.g T.p_law_draw.fn.kp T.p_law_draw.b .nil pass0 (pa_cons (pv 0) (pa_cons (pv 1) pa_nil))) pa_nil))) (by rfl))
      (pss_cons (ps_for PassesOwn.never rfl (pi_range1 rfl T.n_range (pa_cons (pv 2) pa_nil)) (pg_name (i := 6) sc_law_lot.nd rfl (.inl rfl)) (pss_cons (ps_set (i := 7) sc_law_lot.nd rfl (.inl rfl) (pe_op op_add pe_int (pe_call (ok_law_draw T) (hr.mono (by decide)) (by rfl) T.p_law_draw.g T.p_law_draw.fn.kp T.p_law_draw.b .nil pass0 (pa_cons (pv 0) (pa_cons (pe_ix ix_list (pe_lst (pa_cons (pe_callB (call_mn2 rfl) (by rfl) T.n_min (by rfl) (pa_cons (pv 1) (pa_cons pe_int pa_nil))) (pa_cons (pv 1) (pa_cons (pv 1) (pa_cons (pe_op op_add (pe_op op_mulW pe_int (pv 1)) pe_int) pa_nil))))) (pe_call (ok_law_draw T) (hr.mono (by decide)) (by rfl) T.p_law_draw.g T.p_law_draw.fn.kp T.p_law_draw.b .nil pass0 (pa_cons (pv 0) (pa_cons pe_int pa_nil))) (fun _ _ => rfl)) pa_nil)))))
      (pss_cons (ps_set (i := 8) sc_law_lot.nd rfl (.inl rfl) (pe_call (ok_law_draw T) (hr.mono (by decide)) (by rfl) T.p_law_draw.g T.p_law_draw.fn.kp T.p_law_draw.b .nil pass0 (pa_cons (pv 0) (pa_cons (pv 1) pa_nil))))
      (pss_cons (ps_if (PW.pt (pw_and (pt_cmpR op_eq (pv 4) pe_int (nomark _)) (pw_and1 (pt_cmpR op_eq (pe_call (ok_law_draw T) (hr.mono (by decide)) (by rfl) T.p_law_draw.g T.p_law_draw.fn.kp T.p_law_draw.b .nil pass0 (pa_cons (pv 0) (pa_cons pe_int pa_nil))) pe_int (nomark _))))) (pss_one (ps_set (i := 8) sc_law_lot.nd rfl (.inl rfl) (pv 5))) pss_nil)
      (pss_cons (ps_if (PW.pt (pw_and (pt_cmpR op_eq (pv 4) pe_int (nomark _)) (pw_and1 (pt_cmpR (op_neD (hu64 hr)) (pv 3) (pe_lst pa_nil) (nomark _))))) (pss_one (ps_set (i := 8) sc_law_lot.nd rfl (.inl rfl) (pe_op op_mod (pe_callTy call_intI (by rfl) T.n_int (by rfl) (pa_cons (pe_callB (call_sumT rfl) (by rfl) T.n_sum (by rfl) (pa_cons (pe_ix ix_list (pv 3) (pe_un un_neg pe_int) (fun _ _ => rfl)) pa_nil)) pa_nil)) (pv 1)))) pss_nil)
      (pss_cons (ps_if (pt_cmpR op_eq (pv 4) pe_int (nomark _)) (pss_one (ps_set (i := 7) sc_law_lot.nd rfl (.inl rfl) (pe_op op_mulW (pv 1) (pe_op op_add pe_int (pe_callTy call_intB (by rfl) T.n_int (by rfl) (pa_cons (pe_cmpR op_eq (pe_call (ok_law_draw T) (hr.mono (by decide)) (by rfl) T.p_law_draw.g T.p_law_draw.fn.kp T.p_law_draw.b .nil pass0 (pa_cons (pv 0) (pa_cons pe_int pa_nil))) pe_int (nomark _)) pa_nil)))))) pss_nil)
      (pss_one (ps_expr (pe_bm PySem.F.plainAttrs_list PySem.F.slot_list_append PySem.F.type_list_append mt_append (pv 3) (pa_cons (pe_tup (pa_cons (pv 8) (pa_cons (pv 7) pa_nil))) pa_nil))))))))))
      (pss_one (ps_ret (pv 3))))),
    read_S q_law_lot_0 (m := m_law_lot) in_law_lot (fun a F0 H0 => (js_seq (js_par3O q_law_lot_3 q_law_lot_4 q_law_lot_5 (jf_lst jl_nil) (j_callS q_law_lot_0 (ja_cons (j_int 4) ja_nil)) (j_callS q_law_lot_0 (ja_cons (j_var q_law_lot_1) ja_nil)))
    (js_seq (js_for (ji_rng1 (ja_cons (j_var q_law_lot_2) ja_nil)) (jg_name q_law_lot_6) (js_seq (js_asg (j_op rj_add (j_int 1) (j_callS q_law_lot_0 (ja_cons (j_op rj_ixL ((jf_lst (jl_cons (j_cb rb_min2 (ja_cons (j_var q_law_lot_1) (ja_cons (j_int 2) ja_nil))) (jl_cons (j_var q_law_lot_1) (jl_cons (j_var q_law_lot_1) (jl_cons (j_op rj_add (j_op rj_mul (j_int 2) (j_var q_law_lot_1)) (j_int 1)) jl_nil)))))).e (j_callS q_law_lot_0 (ja_cons (j_int 4) ja_nil))) ja_nil))) (jg_name q_law_lot_7))
    (js_seq (js_asg (j_callS q_law_lot_0 (ja_cons (j_var q_law_lot_1) ja_nil)) (jg_name q_law_lot_8))
    (js_seq (js_if (jt_and (jt_test (j_op rj_eqI (j_var q_law_lot_4) (j_int 1))) (jt_test (j_op rj_eqI (j_callS q_law_lot_0 (ja_cons (j_int 2) ja_nil)) (j_int 0)))) (js_asg (j_var q_law_lot_5) (jg_name q_law_lot_8)) js_next)
    (js_seq (js_if (jt_and (jt_test (j_op rj_eqI (j_var q_law_lot_4) (j_int 2))) (jt_test (j_neO q_law_lot_3 ((jf_lst jl_nil)).e))) (js_asg (j_op rj_mod (j_cb rb_int (ja_cons (j_cb rb_sumT (ja_cons (j_ixO q_law_lot_3 (j_neg (j_int 1))) ja_nil)) ja_nil)) (j_var q_law_lot_1)) (jg_name q_law_lot_8)) js_next)
    (js_seq (js_if (jt_test (j_op rj_eqI (j_var q_law_lot_4) (j_int 3))) (js_asg (j_op rj_mul (j_var q_law_lot_1) (j_op rj_add (j_int 1) (j_cb rb_intB (ja_cons (j_op rj_eqI (j_callS q_law_lot_0 (ja_cons (j_int 4) ja_nil)) (j_int 0)) ja_nil)))) (jg_name q_law_lot_7)) js_next)
    (js_app q_law_lot_3 (j_tup2 (ja_cons (j_var q_law_lot_8) (ja_cons (j_var q_law_lot_7) ja_nil))))))))))
    (js_ret (j_giv q_law_lot_3))))) h⟩
def G_law_lot (source1 : List Int) (wide1 : Int) (many1 : Int) : Option ((List (Int × Int)) × List Int) :=
  (shortL ([] : List (Int × Int))).bnd fun found1 =>
  (G_law_draw source1 (4 : Int)).bnd fun r1 =>
  (G_law_draw r1.2 wide1).bnd fun r2 =>
  (gRg1 many1).bnd fun t1 =>
  (foldO (fun (z1 : (List Int) × (List (Int × Int))) (x1 : Int) => (gMul (2 : Int) wide1).bnd fun t2 =>
  (shortL [(if (2 : Int) < wide1 then (2 : Int) else wide1), wide1, wide1, (t2 + (1 : Int))]).bnd fun t3 =>
  (G_law_draw z1.1 (4 : Int)).bnd fun r3 =>
  (atI t3 r3.1).bnd fun t4 =>
  (G_law_draw r3.2 t4).bnd fun r4 =>
  letO ((1 : Int) + r4.1) fun size1 =>
  (G_law_draw r4.2 wide1).bnd fun r5 =>
  (if (decide (r1.1 = (1 : Int))) = true then ((G_law_draw r5.2 (2 : Int)).bnd fun r6 =>
  some ((decide (r6.1 = (0 : Int))), r6.2)) else some (false, r5.2)).bnd fun t5 =>
  (if t5.1 = true then (some r2.1) else (some r5.1)).bnd fun z2 =>
  (if (decide (r1.1 = (2 : Int))) = true then ((shortL ([] : List (Int × Int))).bnd fun t6 =>
  ((neD (α := (List (Int × Int))) (β := (List (Int × Int)))) z1.2 t6).bnd fun t7 =>
  some t7) else some false).bnd fun t8 =>
  (if t8 = true then ((atI z1.2 (-(1 : Int))).bnd fun t9 =>
  (gMod (t9.1 + t9.2) wide1).bnd fun at1 =>
  some at1) else (some z2)).bnd fun z3 =>
  (if (decide (r1.1 = (3 : Int))) = true then ((G_law_draw t5.2 (4 : Int)).bnd fun r7 =>
  (gMul wide1 ((1 : Int) + (if (decide (r7.1 = (0 : Int))) then (1 : Int) else 0))).bnd fun size2 =>
  some (r7.2, size2)) else (some (t5.2, size1))).bnd fun z4 =>
  letO (z3, z4.2) fun y1 =>
  (fits z1.2).bnd fun _ =>
  some (z4.1, (z1.2 ++ [y1]))) t1 (r2.2, found1)).bnd fun z5 =>
  some (z5.2, z5.1)
theorem g_law_lot (source1 : List Int) (wide1 : Int) (many1 : Int) : F_law_lot source1 (wide1, many1, ()) = G_law_lot source1 wide1 many1 := by
  unfold F_law_lot m_law_lot i_law_lot G_law_lot
  refine runS_k ?_
  refine s_seq ?_
  refine s_par3O ?_
  refine k_o (by exact o_op1 v_nilM rfl) (fun found1 => ?_)
  (try dsimp only)
  refine k_src (by exact rfl) (by exact v_consA v_pur v_nilA) (by exact g_law_draw source1 (4 : Int)) (fun r1 => ?_)
  (try dsimp only)
  refine k_src (by exact rfl) (by exact v_consA (v_rdv rfl) v_nilA) (by exact g_law_draw r1.2 wide1) (fun r2 => ?_)
  (try dsimp only)
  refine p_own (s' := ((.at r2.2, .is wide1, .is many1, .mine found1, .no, .no, .no, .no, .no, ()) : S_law_lot)) (by exact rfl) ?_
  refine p_name (s' := ((.at r2.2, .is wide1, .is many1, .mine found1, .is r1.1, .no, .no, .no, .no, ()) : S_law_lot)) (by exact rfl) ?_
  refine p_name (s' := ((.at r2.2, .is wide1, .is many1, .mine found1, .is r1.1, .is r2.1, .no, .no, .no, ()) : S_law_lot)) (by exact rfl) ?_
  refine s_seqN ?_
  refine s_seq ?_
  refine s_forK ?_
  refine k_o (by exact o_op1 (v_consA (v_rdv rfl) v_nilA) rfl) (fun t1 => ?_)
  (try dsimp only)
  refine s_forN (R := (fun (s' : S_law_lot) (z : (List Int) × (List (Int × Int))) => ∃ j6, ∃ j7, ∃ j8, s' = ((.at z.1, .is wide1, .is many1, .mine z.2, .is r1.1, .is r2.1, j6, j7, j8, ()) : S_law_lot))) (z := (r2.2, found1)) (fun x1 s' z1 h => by obtain ⟨j6_u1, j7_u2, j8_u3, rfl⟩ := h; refine p_name (s' := ((.at z1.1, .is wide1, .is many1, .mine z1.2, .is r1.1, .is r2.1, .is x1, j7_u2, j8_u3, ()) : S_law_lot)) (by exact rfl) ?_; refine s_in ?_; refine s_seq ?_; refine s_asg ?_; refine k_op2 ?_; refine k_v (by exact v_pur) ?_; refine k_srcA (by exact rfl) ?_; refine k_consA ?_; refine k_op2 ?_; refine k_op1 ?_; refine k_consM ?_; refine k_v (by exact v_op1 (v_consA (v_rdv rfl) (v_consA v_pur v_nilA)) rfl) ?_; refine k_consM ?_; refine k_v (by exact v_rdv rfl) ?_; (try dsimp only); refine k_consM ?_; refine k_v (by exact v_rdv rfl) ?_; refine k_consM ?_; refine k_op2 ?_; refine k_o (by exact o_op2 v_pur (v_rdv rfl) rfl) (fun t2 => ?_); refine k_v (by exact v_pur) ?_; (try dsimp only); refine k_s (by exact rfl) ?_; refine k_v (by exact v_nilM) ?_; refine k_t (by exact rfl) (fun t3 => ?_); (try dsimp only); refine k_src (by exact rfl) (by exact v_consA v_pur v_nilA) (by exact g_law_draw z1.1 (4 : Int)) (fun r3 => ?_); (try dsimp only); refine k_t (by exact rfl) (fun t4 => ?_); refine k_v (by exact v_nilA) ?_; (try dsimp only); refine k_srcB (by exact rfl) (by exact g_law_draw r3.2 t4) (fun r4 => ?_); (try dsimp only); refine k_ts (by exact rfl) (fun size1 => ?_); refine p_name (s' := ((.at r4.2, .is wide1, .is many1, .mine z1.2, .is r1.1, .is r2.1, .is x1, .is size1, j8_u3, ()) : S_law_lot)) (by exact rfl) ?_; refine s_seqN ?_; refine s_seq ?_; refine s_asg ?_; refine k_src (by exact rfl) (by exact v_consA (v_rdv rfl) v_nilA) (by exact g_law_draw r4.2 wide1) (fun r5 => ?_); (try dsimp only); refine p_name (s' := ((.at r5.2, .is wide1, .is many1, .mine z1.2, .is r1.1, .is r2.1, .is x1, .is size1, .is r5.1, ()) : S_law_lot)) (by exact rfl) ?_; refine s_seqN ?_; refine s_seq ?_; refine s_ifK ?_; refine k_andD (R := (fun (s' : S_law_lot) (z : (List Int)) => s' = ((.at z, .is wide1, .is many1, .mine z1.2, .is r1.1, .is r2.1, .is x1, .is size1, .is r5.1, ()) : S_law_lot))) (z0 := r5.2) (by exact rfl) (by exact v_op2 (v_rdv rfl) v_pur rfl) (by refine k_op2 ?_; refine k_src (by exact rfl) (by exact v_consA v_pur v_nilA) (by exact g_law_draw r5.2 (2 : Int)) (fun r6 => ?_); (try dsimp only); refine k_v (by exact v_pur) ?_; refine k_s (by exact rfl) (by exact t_e ⟨rfl, rfl⟩)) (fun s' t5 h => ?_); obtain rfl := h; refine s_join (R := (fun (s' : S_law_lot) (z : Int) => s' = ((.at t5.2, .is wide1, .is many1, .mine z1.2, .is r1.1, .is r2.1, .is x1, .is size1, .is z, ()) : S_law_lot))) (by exact v_pur) (by refine s_asg ?_; refine k_v (by exact v_rdv rfl) ?_; (try dsimp only); refine p_name (s' := ((.at t5.2, .is wide1, .is many1, .mine z1.2, .is r1.1, .is r2.1, .is x1, .is size1, .is r2.1, ()) : S_law_lot)) (by exact rfl) (by exact t_nx rfl)) (by refine s_nx (by exact t_nx rfl)) (fun s' z2 h => ?_); obtain rfl := h; refine s_seqN ?_; refine s_seq ?_; refine s_ifK ?_; refine k_o (by refine o_and (by exact v_op2 (v_rdv rfl) v_pur rfl) ?_; refine qv_o ?_; refine k_ixO (by exact rfl) ?_; refine k_o (by exact o_op1 v_nilM rfl) (fun t6 => ?_); (try dsimp only); refine k_v (by exact v_rdo rfl) ?_; refine k_t (by exact rfl) (fun t7 => ?_); exact qv_some) (fun t8 => ?_); refine s_join (R := (fun (s' : S_law_lot) (z : Int) => s' = ((.at t5.2, .is wide1, .is many1, .mine z1.2, .is r1.1, .is r2.1, .is x1, .is size1, .is z, ()) : S_law_lot))) (by exact v_pur) (by refine s_asg ?_; refine k_op2 ?_; refine k_op1 ?_; refine k_consA ?_; refine k_op1 ?_; refine k_consA ?_; refine k_o (by exact o_ixO rfl (v_op1 v_pur rfl) rfl) (fun t9 => ?_); refine k_v (by exact v_nilA) ?_; (try dsimp only); refine k_s (by exact rfl) ?_; refine k_v (by exact v_nilA) ?_; refine k_s (by exact rfl) ?_; (try dsimp only); refine k_v (by exact v_rdv rfl) ?_; refine k_t (by exact rfl) (fun at1 => ?_); refine p_name (s' := ((.at t5.2, .is wide1, .is many1, .mine z1.2, .is r1.1, .is r2.1, .is x1, .is size1, .is at1, ()) : S_law_lot)) (by exact rfl) (by exact t_nx rfl)) (by refine s_nx (by exact t_nx rfl)) (fun s' z3 h => ?_); obtain rfl := h; refine s_seqN ?_; refine s_seq ?_; refine s_join (R := (fun (s' : S_law_lot) (z : (List Int) × Int) => s' = ((.at z.1, .is wide1, .is many1, .mine z1.2, .is r1.1, .is r2.1, .is x1, .is z.2, .is z3, ()) : S_law_lot))) (by exact v_op2 (v_rdv rfl) v_pur rfl) (by refine s_asg ?_; refine k_op2 ?_; refine k_v (by exact v_rdv rfl) ?_; refine k_op2 ?_; refine k_v (by exact v_pur) ?_; (try dsimp only); refine k_op1 ?_; refine k_consA ?_; refine k_op2 ?_; refine k_src (by exact rfl) (by exact v_consA v_pur v_nilA) (by exact g_law_draw t5.2 (4 : Int)) (fun r7 => ?_); (try dsimp only); refine k_v (by exact v_pur) ?_; refine k_s (by exact rfl) ?_; (try dsimp only); refine k_v (by exact v_nilA) ?_; refine k_s (by exact rfl) ?_; refine k_s (by exact rfl) ?_; (try dsimp only); refine k_t (by exact rfl) (fun size2 => ?_); refine p_name (s' := ((.at r7.2, .is wide1, .is many1, .mine z1.2, .is r1.1, .is r2.1, .is x1, .is size2, .is z3, ()) : S_law_lot)) (by exact rfl) (by exact t_nx rfl)) (by refine s_nx (by exact t_nx rfl)) (fun s' z4 h => ?_); obtain rfl := h; refine s_seqN ?_; refine s_app (o := fun _ => none) (by exact rfl) ?_; refine k_vl (by exact v_op1 (v_consA (v_rdv rfl) (v_consA (v_rdv rfl) v_nilA)) rfl) (fun y1 => ?_); refine k_v (by exact v_rdo rfl) ?_; (try dsimp only); refine k_t (by exact rfl) (fun _ => ?_); refine s_nx' (s' := ((.at z4.1, .is wide1, .is many1, .mine (z1.2 ++ [y1]), .is r1.1, .is r2.1, .is x1, .is z4.2, .is z3, ()) : S_law_lot)) (by exact rfl) (by exact t_nx ⟨_, _, _, rfl⟩)) (by exact ⟨_, _, _, rfl⟩) (fun s' z5 h => ?_)
  obtain ⟨j6_u4, j7_u5, j8_u6, rfl⟩ := h
  refine s_seqN ?_
  refine s_ret ?_
  refine k_giv (s' := ((.at z5.1, .is wide1, .is many1, .gone z5.2, .is r1.1, .is r2.1, j6_u4, j7_u5, j8_u6, ()) : S_law_lot)) (by exact rfl) (by exact rfl) (by exact kfS_rt rfl)
abbrev S_law_is_whole : Type := (Dt Any) × (Dt Int) × (Dt Int) × Unit
abbrev q_law_is_whole_0 : Pos S_law_is_whole (Dt Any) 0 := Pos.here
abbrev q_law_is_whole_1 : Pos S_law_is_whole (Dt Int) 1 := (Pos.there Pos.here)
abbrev q_law_is_whole_2 : Pos S_law_is_whole (Dt Int) 2 := (Pos.there (Pos.there Pos.here))
def m_law_is_whole : MS S_law_is_whole Bool :=
    (retM (andM (op1 (fun x : Any => gIsi "int" x.d) (rdv q_law_is_whole_0)) (andM (op1 (fun b : Bool => some (!b)) (op1 (fun x : Any => gIsi "bool" x.d) (rdv q_law_is_whole_0))) (chainM (fun x y : Int => some (decide (x ≤ y))) (fun x y : Int => some (decide (x ≤ y))) (rdv q_law_is_whole_1) (op1 (fun x : Any => (gDec x : Option Int)) (rdv q_law_is_whole_0)) (rdv q_law_is_whole_2)))))
def i_law_is_whole (x : Any × Int × Int × Unit) : S_law_is_whole := (.is x.1, .is x.2.1, .is x.2.2.1, ())
def F_law_is_whole (x : Any × Int × Int × Unit) : Option Bool := run m_law_is_whole (i_law_is_whole x)
theorem in_law_is_whole : Ini (Any × Int × Int × Unit) S_law_is_whole N_law_is_whole 3 i_law_is_whole := fun K P own F H vs x h => by
  obtain ⟨v0, w0, rfl, h0, v1, w1, rfl, h1, v2, w2, rfl, h2, rfl⟩ := h
  exact ⟨⟨_, _, rfl, ⟨_, rfl, h0⟩, _, _, rfl, ⟨_, rfl, h1⟩, _, _, rfl, ⟨_, rfl, h2⟩, rfl⟩, rfl⟩
theorem ok_law_is_whole (T : Tx K mg) : FnOk P w K mg base CX0 1 T.a_law_is_whole T.d_law_is_whole P_law_is_whole (spP K F_law_is_whole) := by
  refine T.p_law_is_whole.fn.ok sc_law_is_whole (fun vs H Q E h => len_P in_law_is_whole h) (fun cdv A outer s H vs Q E hr h => ?_)
  exact ⟨_, (pss_one (ps_ret (pe_and (pe_callB call_isi (by rfl) T.n_isinstance (by rfl) (pa_cons (pv 0) (pa_cons (pe_bltn (v := .ty "int") (u := .type "int") (by rfl) T.n_int (by rfl) rfl) pa_nil))) (pe_and (pe_not (pe_callB call_isi (by rfl) T.n_isinstance (by rfl) (pa_cons (pv 0) (pa_cons (pe_bltn (v := .ty "bool") (u := .type "bool") (by rfl) T.n_bool (by rfl) rfl) pa_nil)))) (pe_one (pe_chain op_le op_le (pv 1) (pv 0) (pv 2))))))),
    read_P (m := m_law_is_whole) in_law_is_whole (fun F0 H0 => (js_ret (j_and (j_isiA (j_var q_law_is_whole_0)) (j_and (j_not (j_isiA (j_var q_law_is_whole_0))) (j_chain rj_le rj_le (j_var q_law_is_whole_1) (j_dec (α := Int) (j_var q_law_is_whole_0)) (j_var q_law_is_whole_2)))))) h⟩
def G_law_is_whole (thing1 : Any) (low1 : Int) (high1 : Int) : Option (Bool) :=
  (gIsi "int" thing1.d).bnd fun t1 =>
  (if t1 = true then ((gIsi "bool" thing1.d).bnd fun t2 =>
  (if (!t2) = true then (((gDec thing1 : Option Int)).bnd fun t3 =>
  some ((decide (low1 ≤ t3)) && (decide (t3 ≤ high1)))) else some false).bnd fun t4 =>
  some t4) else some false).bnd fun t5 =>
  some t5
theorem g_law_is_whole (thing1 : Any) (low1 : Int) (high1 : Int) : F_law_is_whole (thing1, low1, high1, ()) = G_law_is_whole thing1 low1 high1 := by
  unfold F_law_is_whole m_law_is_whole i_law_is_whole G_law_is_whole
  refine run_k ?_
  refine s_ret ?_
  refine k_and ?_
  refine k_o (by exact o_op1 (v_rdv rfl) rfl) (fun t1 => ?_)
  refine k_o (by refine o_and (by exact v_pur) ?_; refine qv_o ?_; refine k_and ?_; refine k_op1 ?_; refine k_o (by exact o_op1 (v_rdv rfl) rfl) (fun t2 => ?_); refine k_s (by exact rfl) ?_; refine k_o (by refine o_and (by exact v_pur) ?_; refine qv_o ?_; refine k_chain ?_; refine k_v (by exact v_rdv rfl) ?_; refine k_o (by exact o_op1 (v_rdv rfl) rfl) (fun t3 => ?_); refine k_v (by exact v_chain v_pur v_pur (v_rdv rfl) rfl rfl) (by exact qv_some)) (fun t4 => ?_); (try dsimp only); exact qv_some) (fun t5 => ?_)
  (try dsimp only)
  exact kfP_rt
abbrev S_law_due : Type := (Dt Int) × (Dt Any) × (Dt Any) × Unit
abbrev q_law_due_0 : Pos S_law_due (Dt Int) 0 := Pos.here
abbrev q_law_due_1 : Pos S_law_due (Dt Any) 1 := (Pos.there Pos.here)
abbrev q_law_due_2 : Pos S_law_due (Dt Any) 2 := (Pos.there (Pos.there Pos.here))
def b_law_due_0 : MS S_law_due Bool :=
    (seqM (ifS (orM (op1 (fun b : Bool => some (!b)) (op1 (fun x : Any => gIsi "tuple" x.d) (rdv q_law_due_2))) (op2 (fun x y : Int => some (!decide (x = y))) (op1 (fun x : Any × Unit => gLenA x.1.d) (consA (rdv q_law_due_2) nilA)) (pur (2 : Int)))) (retM (pur false)) nextM)
    (ifS (orM (op1 (fun b : Bool => some (!b)) (op1 F_law_is_whole (consA (op1 (fun p => some p.1) (op1 (fun x : Any => (gDec x : Option (Any × Any))) (rdv q_law_due_2))) (consA (pur (0 : Int)) (consA (op2 (fun x y : Int => some (x - y)) (rdv q_law_due_0) (pur (1 : Int))) nilA))))) (op1 (fun b : Bool => some (!b)) (op1 F_law_is_whole (consA (op1 (fun p => some p.2) (op1 (fun x : Any => (gDec x : Option (Any × Any))) (rdv q_law_due_2))) (consA (pur (1 : Int)) (consA (op2 gPow (pur (10 : Int)) (pur (31 : Int))) nilA)))))) (retM (pur false)) nextM))
def m_law_due : MS S_law_due Bool :=
    (seqM (ifS (orM (op1 (fun b : Bool => some (!b)) (op1 (fun x : Any => gIsi "list" x.d) (rdv q_law_due_1))) (op1 (fun b : Bool => some (!b)) (chainM (fun x y : Int => some (decide (x ≤ y))) (fun x y : Int => some (decide (x ≤ y))) (pur (1 : Int)) (op1 (fun x : Any × Unit => gLenA x.1.d) (consA (rdv q_law_due_1) nilA)) (pur (30 : Int))))) (retM (pur false)) nextM)
    (seqM (forM (op1 (fun x : Any => (gDec x : Option (List Any))) (rdv q_law_due_1)) (pName q_law_due_2) b_law_due_0)
    (retM (pur true))))
def i_law_due (x : Int × Any × Unit) : S_law_due := (.is x.1, .is x.2.1, .no, ())
def F_law_due (x : Int × Any × Unit) : Option Bool := run m_law_due (i_law_due x)
theorem in_law_due : Ini (Int × Any × Unit) S_law_due N_law_due 2 i_law_due := fun K P own F H vs x h => by
  obtain ⟨v0, w0, rfl, h0, v1, w1, rfl, h1, rfl⟩ := h
  exact ⟨⟨_, _, rfl, ⟨_, rfl, h0⟩, _, _, rfl, ⟨_, rfl, h1⟩, _, _, rfl, trivial, rfl⟩, rfl⟩
theorem ok_law_due (T : Tx K mg) : FnOk P w K mg base CX0 2 T.a_law_due T.d_law_due P_law_due (spP K F_law_due) := by
  refine T.p_law_due.fn.ok sc_law_due (fun vs H Q E h => len_P in_law_due h) (fun cdv A outer s H vs Q E hr h => ?_)
  exact ⟨_, (pss_cons (ps_if (PW.pt (pw_or (pt_not (pt_val (pe_callB call_isi (by rfl) T.n_isinstance (by rfl) (pa_cons (pv 1) (pa_cons (pe_bltn (v := .ty "list") (u := .type "list") (by rfl) T.n_list (by rfl) rfl) pa_nil))))) (pw_or1 (pt_not (pt_chain op_le op_le pe_int (pe_callB call_len2 (by rfl) T.n_len (by rfl) (pa_cons (pv 1) pa_nil)) pe_int))))) (pss_one (ps_ret pe_bl)) pss_nil)
      (pss_cons (ps_for PassesOwn.never rfl (pi_list (pv 1)) (pg_name (i := 2) sc_law_due.nd rfl (.inl rfl)) (pss_cons (ps_if (PW.pt (pw_or (pt_not (pt_val (pe_callB call_isi (by rfl) T.n_isinstance (by rfl) (pa_cons (pv 2) (pa_cons (pe_bltn (v := .ty "tuple") (u := .type "tuple") (by rfl) T.n_tuple (by rfl) rfl) pa_nil))))) (pw_or1 (pt_cmpR op_ne (pe_callB call_len2 (by rfl) T.n_len (by rfl) (pa_cons (pv 2) pa_nil)) pe_int (nomark _))))) (pss_one (ps_ret pe_bl)) pss_nil)
      (pss_one (ps_if (PW.pt (pw_or (pt_not (pt_val (pe_call (ok_law_is_whole T) (hr.mono (by decide)) (by rfl) T.p_law_is_whole.g T.p_law_is_whole.fn.kp T.p_law_is_whole.b .nil pass0 (pa_cons (pe_ix ix_tup (pv 2) pe_int (fun _ _ => rfl)) (pa_cons pe_int (pa_cons (pe_op op_sub (pv 0) pe_int) pa_nil)))))) (pw_or1 (pt_not (pt_val (pe_call (ok_law_is_whole T) (hr.mono (by decide)) (by rfl) T.p_law_is_whole.g T.p_law_is_whole.fn.kp T.p_law_is_whole.b .nil pass0 (pa_cons (pe_ix ix_tup (pv 2) pe_int (fun _ _ => rfl)) (pa_cons pe_int (pa_cons (pe_op op_powW pe_int pe_int) pa_nil))))))))) (pss_one (ps_ret pe_bl)) pss_nil))))
      (pss_one (ps_ret pe_bl)))),
    read_P (m := m_law_due) in_law_due (fun F0 H0 => (js_seq (js_if (jt_or (jt_not (jt_B (j_isiA (j_var q_law_due_1)))) (jt_not (jt_test (j_chain rj_le rj_le (j_int 1) (j_cb rb_lenA (ja_cons (j_var q_law_due_1) ja_nil)) (j_int 30))))) (js_ret (j_bl false)) js_next)
    (js_seq (js_for (ji_list (j_dec (α := (List Any)) (j_var q_law_due_1))) (jg_name q_law_due_2) (js_seq (js_if (jt_or (jt_not (jt_B (j_isiA (j_var q_law_due_2)))) (jt_test (j_op rj_neI (j_cb rb_lenA (ja_cons (j_var q_law_due_2) ja_nil)) (j_int 2)))) (js_ret (j_bl false)) js_next)
    (js_if (jt_or (jt_not (jt_B (j_call (ja_cons (j_ix0 (j_dec (α := (Any × Any)) (j_var q_law_due_2))) (ja_cons (j_int 0) (ja_cons (j_op rj_sub (j_var q_law_due_0) (j_int 1)) ja_nil)))))) (jt_not (jt_B (j_call (ja_cons (j_ix1 (j_dec (α := (Any × Any)) (j_var q_law_due_2))) (ja_cons (j_int 1) (ja_cons (j_op rj_pow (j_int 10) (j_int 31)) ja_nil))))))) (js_ret (j_bl false)) js_next)))
    (js_ret (j_bl true))))) h⟩
def G_law_due (wide1 : Int) (thing1 : Any) : Option (Bool) :=
  (gIsi "list" thing1.d).bnd fun t1 =>
  (if (!t1) = true then some true else ((gLenA thing1.d).bnd fun t2 =>
  some (!((decide ((1 : Int) ≤ t2)) && (decide (t2 ≤ (30 : Int))))))).bnd fun t3 =>
  if t3 = true then (some false) else (((gDec thing1 : Option (List Any))).bnd fun t4 =>
  (loopO (ρ := Bool) (fun (z1 : Unit) (x1 : Any) => (gIsi "tuple" x1.d).bnd fun t5 =>
  (if (!t5) = true then some true else ((gLenA x1.d).bnd fun t6 =>
  some (!decide (t6 = (2 : Int))))).bnd fun t7 =>
  if t7 = true then (some (.rt false)) else (((gDec x1 : Option (Any × Any))).bnd fun t8 =>
  (G_law_is_whole t8.1 (0 : Int) (wide1 - (1 : Int))).bnd fun t9 =>
  (if (!t9) = true then some true else (((gDec x1 : Option (Any × Any))).bnd fun t10 =>
  (gPow (10 : Int) (31 : Int)).bnd fun t11 =>
  (G_law_is_whole t10.2 (1 : Int) t11).bnd fun t12 =>
  some (!t12))).bnd fun t13 =>
  if t13 = true then (some (.rt false)) else (some (.nx ())))) t4 ()).bnd fun (f : Re (Unit) Bool) => match f with
  | .rt r => some r
  | .nx z2 =>
  some true)
theorem g_law_due (wide1 : Int) (thing1 : Any) : F_law_due (wide1, thing1, ()) = G_law_due wide1 thing1 := by
  unfold F_law_due m_law_due i_law_due G_law_due
  refine run_k ?_
  refine s_seq ?_
  refine s_ifK ?_
  refine k_or ?_
  refine k_op1 ?_
  refine k_o (by exact o_op1 (v_rdv rfl) rfl) (fun t1 => ?_)
  (try dsimp only)
  refine k_s (by exact rfl) ?_
  refine k_o (by refine o_or (by exact v_pur) ?_; refine qv_o ?_; refine k_op1 ?_; refine k_chain ?_; refine k_v (by exact v_pur) ?_; refine k_o (by exact o_op1 (v_consA (v_rdv rfl) v_nilA) rfl) (fun t2 => ?_); (try dsimp only); refine k_v (by exact v_chain v_pur v_pur v_pur rfl rfl) ?_; refine k_s (by exact rfl) (by exact qv_some)) (fun t3 => ?_)
  refine s_if (by exact v_pur) (by refine s_ret ?_; refine k_v (by exact v_pur) ?_; refine s_seqR (by exact kfP_rt)) ?_
  refine s_nx ?_
  refine s_seqN ?_
  refine s_seq ?_
  refine s_forK ?_
  refine k_o (by exact o_op1 (v_rdv rfl) rfl) (fun t4 => ?_)
  (try dsimp only)
  refine s_forR (R := (fun (s' : S_law_due) (z : Unit) => ∃ j2, s' = ((.is wide1, .is thing1, j2, ()) : S_law_due))) (RR := (fun (_ : S_law_due) (r r' : Bool) => r = r')) (z := ()) (fun x1 s' z1 h => by obtain ⟨j2_u1, rfl⟩ := h; refine p_name (s' := ((.is wide1, .is thing1, .is x1, ()) : S_law_due)) (by exact rfl) ?_; refine s_in ?_; refine s_seq ?_; refine s_ifK ?_; refine k_or ?_; refine k_op1 ?_; refine k_o (by exact o_op1 (v_rdv rfl) rfl) (fun t5 => ?_); refine k_s (by exact rfl) ?_; refine k_o (by refine o_or (by exact v_pur) ?_; refine qv_o ?_; refine k_op2 ?_; refine k_o (by exact o_op1 (v_consA (v_rdv rfl) v_nilA) rfl) (fun t6 => ?_); refine k_v (by exact v_pur) ?_; (try dsimp only); refine k_s (by exact rfl) (by exact qv_some)) (fun t7 => ?_); (try dsimp only); refine s_if (by exact v_pur) (by refine s_ret ?_; refine k_v (by exact v_pur) ?_; refine s_seqR (by exact t_rtR rfl)) ?_; refine s_nx ?_; refine s_seqN ?_; refine s_ifK ?_; refine k_or ?_; refine k_op1 ?_; refine k_op1 ?_; refine k_consA ?_; refine k_op1 ?_; refine k_o (by exact o_op1 (v_rdv rfl) rfl) (fun t8 => ?_); refine k_s (by exact rfl) ?_; refine k_v (by exact v_consA v_pur (v_consA (v_op2 (v_rdv rfl) v_pur rfl) v_nilA)) ?_; (try dsimp only); refine k_t (by exact g_law_is_whole t8.1 (0 : Int) (wide1 - (1 : Int))) (fun t9 => ?_); refine k_s (by exact rfl) ?_; refine k_o (by refine o_or (by exact v_pur) ?_; refine qv_o ?_; refine k_op1 ?_; refine k_op1 ?_; refine k_consA ?_; refine k_op1 ?_; refine k_o (by exact o_op1 (v_rdv rfl) rfl) (fun t10 => ?_); refine k_s (by exact rfl) ?_; refine k_consA ?_; refine k_v (by exact v_pur) ?_; (try dsimp only); refine k_consA ?_; refine k_o (by exact o_op2 v_pur v_pur rfl) (fun t11 => ?_); refine k_v (by exact v_nilA) ?_; refine k_t (by exact g_law_is_whole t10.2 (1 : Int) t11) (fun t12 => ?_); (try dsimp only); refine k_s (by exact rfl) (by exact qv_some)) (fun t13 => ?_); (try dsimp only); refine s_if (by exact v_pur) (by refine s_ret ?_; refine k_v (by exact v_pur) (by exact t_rtR rfl)) ?_; refine s_nx (by exact t_nxR ⟨_, rfl⟩)) (by exact ⟨_, rfl⟩) (fun s' z2 h => by obtain ⟨j2_u2, rfl⟩ := h; refine s_seqN ?_; refine s_ret ?_; refine k_v (by exact v_pur) (by exact kfP_rt)) (fun s' r0 r h2 => ?_)
  refine s_seqR ?_
  subst h2
  exact kfP_rt
abbrev S_law_near : Type := (Src true) × (Dt Int) × (Dt (List (Int × Int))) × (Dt Int) × (Dt Int) × (Dt Int) × (Dt (List Any)) × (Dt (List Any)) × (Dt Any) × Unit
abbrev q_law_near_0 : Pos S_law_near (Src true) 0 := Pos.here
abbrev q_law_near_1 : Pos S_law_near (Dt Int) 1 := (Pos.there Pos.here)
abbrev q_law_near_2 : Pos S_law_near (Dt (List (Int × Int))) 2 := (Pos.there (Pos.there Pos.here))
abbrev q_law_near_3 : Pos S_law_near (Dt Int) 3 := (Pos.there (Pos.there (Pos.there Pos.here)))
abbrev q_law_near_4 : Pos S_law_near (Dt Int) 4 := (Pos.there (Pos.there (Pos.there (Pos.there Pos.here))))
abbrev q_law_near_5 : Pos S_law_near (Dt Int) 5 := (Pos.there (Pos.there (Pos.there (Pos.there (Pos.there Pos.here)))))
abbrev q_law_near_6 : Pos S_law_near (Dt (List Any)) 6 := (Pos.there (Pos.there (Pos.there (Pos.there (Pos.there (Pos.there Pos.here))))))
abbrev q_law_near_7 : Pos S_law_near (Dt (List Any)) 7 := (Pos.there (Pos.there (Pos.there (Pos.there (Pos.there (Pos.there (Pos.there Pos.here)))))))
abbrev q_law_near_8 : Pos S_law_near (Dt Any) 8 := (Pos.there (Pos.there (Pos.there (Pos.there (Pos.there (Pos.there (Pos.there (Pos.there Pos.here))))))))
def m_law_near : MS S_law_near (List Any) :=
    (seqM (asgM (srcM q_law_near_0 F_law_draw (consA (op1 (fun x : (List (Int × Int)) × Unit => some (x.1.length : Int)) (consA (rdv q_law_near_2) nilA)) nilA)) (pName q_law_near_3))
    (seqM (asgM (op2 (fun x i => atI x i) (rdv q_law_near_2) (rdv q_law_near_3)) (pTwo (pName q_law_near_4) (pName q_law_near_5)))
    (seqM (asgM (op1 shortL (consM (op1 (fun x : (Int × Int) => some (Any.mk (EncW.w x))) (op1 (fun x => some (x.1, x.2.1)) (consA (rdv q_law_near_1) (consA (rdv q_law_near_5) nilA)))) (consM (op1 (fun x : (Int × Int) => some (Any.mk (EncW.w x))) (op1 (fun x => some (x.1, x.2.1)) (consA (op2 (fun x y : Int => some (x - y)) (rdv q_law_near_1) (pur (1 : Int))) (consA (rdv q_law_near_5) nilA)))) (consM (op1 (fun x : (Int × Int) => some (Any.mk (EncW.w x))) (op1 (fun x => some (x.1, x.2.1)) (consA (op1 (fun x : Int => some (-x)) (pur (1 : Int))) (consA (rdv q_law_near_5) nilA)))) (consM (op1 (fun x : (Int × Int) => some (Any.mk (EncW.w x))) (op1 (fun x => some (x.1, x.2.1)) (consA (rdv q_law_near_4) (consA (pur (0 : Int)) nilA)))) (consM (op1 (fun x : (Int × Int) => some (Any.mk (EncW.w x))) (op1 (fun x => some (x.1, x.2.1)) (consA (rdv q_law_near_4) (consA (op2 gPow (pur (10 : Int)) (pur (31 : Int))) nilA)))) (consM (op1 (fun x : (Int × Int) => some (Any.mk (EncW.w x))) (op1 (fun x => some (x.1, x.2.1)) (consA (rdv q_law_near_4) (consA (op2 (fun x y : Int => some (x + y)) (op2 gPow (pur (10 : Int)) (pur (31 : Int))) (pur (1 : Int))) nilA)))) (consM (op1 (fun x : (Int × Int) => some (Any.mk (EncW.w x))) (op1 (fun x => some (x.1, x.2.1)) (consA (rdv q_law_near_4) (consA (op1 (fun x : Int => some (-x)) (pur (1 : Int))) nilA)))) nilM)))))))) (pName q_law_near_6))
    (seqM (asgM (op2 gCat (rdv q_law_near_6) (op1 shortL (consM (op1 gTupA (consM (op1 (fun x : Int => some (Any.mk (EncW.w x))) (rdv q_law_near_4)) nilM)) (consM (op1 (fun x : Int => some (Any.mk (EncW.w x))) (rdv q_law_near_4)) (consM (op1 (fun x : (Tri Int Int Int) => some (Any.mk (EncW.w x))) (op1 (fun x => some (Tri.mk x.1 x.2.1 x.2.2.1)) (consA (rdv q_law_near_4) (consA (rdv q_law_near_5) (consA (pur (1 : Int)) nilA))))) (consM (op1 (fun x : (List Int) => some (Any.mk (EncW.w x))) (op1 shortL (consM (rdv q_law_near_4) (consM (rdv q_law_near_5) nilM)))) (consM (op1 (fun x : Unit => some (Any.mk (EncW.w x))) (pur ())) (consM (op1 (fun x : (Bool × Int) => some (Any.mk (EncW.w x))) (op1 (fun x => some (x.1, x.2.1)) (consA (pur true) (consA (rdv q_law_near_5) nilA)))) (consM (op1 (fun x : (Int × Bool) => some (Any.mk (EncW.w x))) (op1 (fun x => some (x.1, x.2.1)) (consA (rdv q_law_near_4) (consA (pur true) nilA)))) (consM (op1 (fun x : (Unit × Int) => some (Any.mk (EncW.w x))) (op1 (fun x => some (x.1, x.2.1)) (consA (pur ()) (consA (rdv q_law_near_5) nilA)))) (consM (op1 (fun x : (Int × Unit) => some (Any.mk (EncW.w x))) (op1 (fun x => some (x.1, x.2.1)) (consA (rdv q_law_near_4) (consA (pur ()) nilA)))) nilM))))))))))) (pName q_law_near_6))
    (seqM (asgM (op2 gCat (rdv q_law_near_6) (op1 shortL (consM (op1 (fun x : (Str × Int) => some (Any.mk (EncW.w x))) (op1 (fun x => some (x.1, x.2.1)) (consA (pur (Str.ofString "0")) (consA (pur (1 : Int)) nilA)))) (consM (op1 (fun x : (Int × Str) => some (Any.mk (EncW.w x))) (op1 (fun x => some (x.1, x.2.1)) (consA (rdv q_law_near_4) (consA (pur (Str.ofString "1")) nilA)))) nilM)))) (pName q_law_near_6))
    (seqM (asgM (lcM (rdv q_law_near_6) (Wp.wp (Wp.cons q_law_near_8 Wp.nil fun _ => rfl)) (pName q_law_near_8) (pur true) (op1 (fun x : (List Any) => some (Any.mk (EncW.w x))) (op2 gCat (op2 gCat (op1 (fun x : (List (Int × Int)) => some (toAL x)) (sliceM (rdv q_law_near_2) (pur none) (op1 (fun x => some (some x)) (rdv q_law_near_3)))) (op1 shortL (consM (rdv q_law_near_8) nilM))) (op1 (fun x : (List (Int × Int)) => some (toAL x)) (sliceM (rdv q_law_near_2) (op1 (fun x => some (some x)) (op2 (fun x y : Int => some (x + y)) (rdv q_law_near_3) (pur (1 : Int)))) (pur none)))))) (pName q_law_near_7))
    (seqM (asgM (op2 gCat (rdv q_law_near_7) (op1 shortL (consM (op1 (fun x : (List (Int × Int)) × Unit => some (Any.mk (.tuple (x.1.map EncW.w)))) (consA (rdv q_law_near_2) nilA)) (consM (op1 (fun x : (List (Int × Int)) => some (Any.mk (EncW.w x))) (sliceM (rdv q_law_near_2) (pur none) (op1 (fun x => some (some x)) (pur (0 : Int))))) (consM (op1 (fun x : (List (Int × Int)) => some (Any.mk (EncW.w x))) (op2 gCat (rdv q_law_near_2) (sliceM (rdv q_law_near_2) (pur none) (op1 (fun x => some (some x)) (pur (1 : Int)))))) (consM (op1 (fun x : (List (List (Int × Int))) => some (Any.mk (EncW.w x))) (op1 shortL (consM (rdv q_law_near_2) nilM))) (consM (op1 (fun x : (List (Int × Int)) => some (Any.mk (EncW.w x))) (sliceM (op2 gRepR (rdv q_law_near_2) (pur (30 : Int))) (pur none) (op1 (fun x => some (some x)) (pur (30 : Int))))) (consM (op1 (fun x : (List (Int × Int)) => some (Any.mk (EncW.w x))) (sliceM (op2 gRepR (rdv q_law_near_2) (pur (31 : Int))) (pur none) (op1 (fun x => some (some x)) (pur (31 : Int))))) nilM)))))))) (pName q_law_near_7))
    (retM (op2 gCat (rdv q_law_near_7) (op1 shortL (consM (op1 (fun x : Unit => some (Any.mk (EncW.w x))) (pur ())) (consM (op1 (fun x : Int => some (Any.mk (EncW.w x))) (pur (0 : Int))) (consM (op1 (fun x : Str => some (Any.mk (EncW.w x))) (pur (Str.ofString ""))) (consM (pur (Any.mk (.dict []))) (consM (op1 (fun x : Bool => some (Any.mk (EncW.w x))) (pur true)) (consM (op1 (fun x : Str => some (Any.mk (EncW.w x))) (pur (Str.ofString "0+1"))) (consM (op1 (fun x : (Int × Int) => some (Any.mk (EncW.w x))) (op2 (fun x i => atI x i) (rdv q_law_near_2) (rdv q_law_near_3))) (consM (op1 (fun x : (List Unit) => some (Any.mk (EncW.w x))) (op1 shortL (consM (pur ()) nilM))) nilM))))))))))))))))))
def i_law_near (zs : List Int) (x : Int × (List (Int × Int)) × Unit) : S_law_near := (.at zs, .is x.1, .is x.2.1, .no, .no, .no, .no, .no, .no, ())
def F_law_near (zs : List Int) (x : Int × (List (Int × Int)) × Unit) : Option ((List Any) × List Int) := runS q_law_near_0 m_law_near (i_law_near zs x)
theorem in_law_near : IniS (Int × (List (Int × Int)) × Unit) S_law_near N_law_near 3 i_law_near := fun K P own F H vs x a zs h ho hp hf hh => by
  obtain ⟨v0, w0, rfl, h0, v1, w1, rfl, h1, rfl⟩ := h
  exact ⟨⟨_, _, rfl, ⟨a, rfl, ho, hp, hf, hh⟩, _, _, rfl, ⟨_, rfl, h0⟩, _, _, rfl, ⟨_, rfl, h1⟩, _, _, rfl, trivial, _, _, rfl, trivial, _, _, rfl, trivial, _, _, rfl, trivial, _, _, rfl, trivial, _, _, rfl, trivial, rfl⟩, rfl⟩
theorem ok_law_near (T : Tx K mg) : FnOk P w K mg base CX0 2 T.a_law_near T.d_law_near P_law_near (spS K F_law_near) := by
  refine T.p_law_near.fn.ok sc_law_near (fun vs H Q E h => len_S in_law_near h) (fun cdv A outer s H vs Q E hr h => ?_)
  exact ⟨_, (pss_cons (ps_set (i := 3) sc_law_near.nd rfl (.inr rfl) (pe_call (ok_law_draw T) (hr.mono (by decide)) (by rfl) T.p_law_draw.g T.p_law_draw.fn.kp T.p_law_draw.b .nil pass0 (pa_cons (pv 0) (pa_cons (pe_callB call_len2 (by rfl) T.n_len (by rfl) (pa_cons (pv 2) pa_nil)) pa_nil))))
      (pss_cons (ps_asg (pe_ix ix_list (pv 2) (pv 3) (fun _ _ => rfl)) (pg_tup (n := 2) rfl (pgs_cons (pg_name (i := 4) sc_law_near.nd rfl (.inl rfl)) (pgs_cons (pg_name (i := 5) sc_law_near.nd rfl (.inl rfl)) pgs_nil))))
      (pss_cons (ps_set (i := 6) sc_law_near.nd rfl (.inl rfl) (pe_lst (pa_cons (pe_tup (pa_cons (pv 1) (pa_cons (pv 5) pa_nil))) (pa_cons (pe_tup (pa_cons (pe_op op_sub (pv 1) pe_int) (pa_cons (pv 5) pa_nil))) (pa_cons (pe_tup (pa_cons (pe_un un_neg pe_int) (pa_cons (pv 5) pa_nil))) (pa_cons (pe_tup (pa_cons (pv 4) (pa_cons pe_int pa_nil))) (pa_cons (pe_tup (pa_cons (pv 4) (pa_cons (pe_op op_powW pe_int pe_int) pa_nil))) (pa_cons (pe_tup (pa_cons (pv 4) (pa_cons (pe_op op_add (pe_op op_powW pe_int pe_int) pe_int) pa_nil))) (pa_cons (pe_tup (pa_cons (pv 4) (pa_cons (pe_un un_neg pe_int) pa_nil))) pa_nil)))))))))
      (pss_cons (ps_set (i := 6) sc_law_near.nd rfl (.inl rfl) (pe_op op_catR (pv 6) (pe_lst (pa_cons (pe_tup (pa_cons (pv 4) pa_nil)) (pa_cons (pv 4) (pa_cons (pe_tup (pa_cons (pv 4) (pa_cons (pv 5) (pa_cons pe_int pa_nil)))) (pa_cons (pe_lst (pa_cons (pv 4) (pa_cons (pv 5) pa_nil))) (pa_cons pe_non (pa_cons (pe_tup (pa_cons pe_bl (pa_cons (pv 5) pa_nil))) (pa_cons (pe_tup (pa_cons (pv 4) (pa_cons pe_bl pa_nil))) (pa_cons (pe_tup (pa_cons pe_non (pa_cons (pv 5) pa_nil))) (pa_cons (pe_tup (pa_cons (pv 4) (pa_cons pe_non pa_nil))) pa_nil))))))))))))
      (pss_cons (ps_set (i := 6) sc_law_near.nd rfl (.inl rfl) (pe_op op_catR (pv 6) (pe_lst (pa_cons (pe_tup (pa_cons pe_str (pa_cons pe_int pa_nil))) (pa_cons (pe_tup (pa_cons (pv 4) (pa_cons pe_str pa_nil))) pa_nil)))))
      (pss_cons (ps_setLc (i := 7) (own := [("part", 8)]) (tt := tYes) rfl sc_law_near.nd rfl rfl (sw_true rfl rfl rfl (by decide +kernel)) (pi_list (pv 6)) (blkOk_by (N := N_law_near) (sc := defScope s_law_near) (by decide +kernel)) (fun _ _ _ _ _ => by exact (pg_name (i := 8) sc_law_near.nd rfl (.inl rfl))) (fun _ _ _ _ _ => pts_nil) (fun _ _ _ _ _ => by exact (pe_op op_catR (pe_op op_catR (pe_slice sl_list (pv 2) po_none (po_some (pv 3))) (pe_lst (pa_cons (pv 8) pa_nil))) (pe_slice sl_list (pv 2) (po_some (pe_op op_add (pv 3) pe_int)) po_none))))
      (pss_cons (ps_set (i := 7) sc_law_near.nd rfl (.inl rfl) (pe_op op_catR (pv 7) (pe_lst (pa_cons (pe_callTy call_tuple_of (by rfl) T.n_tuple (by rfl) (pa_cons (pv 2) pa_nil)) (pa_cons (pe_slice sl_list (pv 2) po_none (po_some pe_int)) (pa_cons (pe_op op_catR (pv 2) (pe_slice sl_list (pv 2) po_none (po_some pe_int))) (pa_cons (pe_lst (pa_cons (pv 2) pa_nil)) (pa_cons (pe_slice sl_list (pe_op op_repR (pv 2) pe_int) po_none (po_some pe_int)) (pa_cons (pe_slice sl_list (pe_op op_repR (pv 2) pe_int) po_none (po_some pe_int)) pa_nil)))))))))
      (pss_one (ps_ret (pe_op op_catR (pv 7) (pe_lst (pa_cons pe_non (pa_cons pe_int (pa_cons pe_str (pa_cons pe_dnewK (pa_cons pe_bl (pa_cons pe_str (pa_cons (pe_ix ix_list (pv 2) (pv 3) (fun _ _ => rfl)) (pa_cons (pe_lst (pa_cons pe_non pa_nil)) pa_nil))))))))))))))))))),
    read_S q_law_near_0 (m := m_law_near) in_law_near (fun a F0 H0 => (js_seq (js_asg (j_callS q_law_near_0 (ja_cons (j_cb rb_len (ja_cons (j_var q_law_near_2) ja_nil)) ja_nil)) (jg_name q_law_near_3))
    (js_seq (js_asg (j_op rj_ixL (j_var q_law_near_2) (j_var q_law_near_3)) (jg_two (jg_name q_law_near_4) (jg_name q_law_near_5)))
    (js_seq (js_asg ((jf_lst (jl_cons (j_toA (j_tup2 (ja_cons (j_var q_law_near_1) (ja_cons (j_var q_law_near_5) ja_nil)))) (jl_cons (j_toA (j_tup2 (ja_cons (j_op rj_sub (j_var q_law_near_1) (j_int 1)) (ja_cons (j_var q_law_near_5) ja_nil)))) (jl_cons (j_toA (j_tup2 (ja_cons (j_neg (j_int 1)) (ja_cons (j_var q_law_near_5) ja_nil)))) (jl_cons (j_toA (j_tup2 (ja_cons (j_var q_law_near_4) (ja_cons (j_int 0) ja_nil)))) (jl_cons (j_toA (j_tup2 (ja_cons (j_var q_law_near_4) (ja_cons (j_op rj_pow (j_int 10) (j_int 31)) ja_nil)))) (jl_cons (j_toA (j_tup2 (ja_cons (j_var q_law_near_4) (ja_cons (j_op rj_add (j_op rj_pow (j_int 10) (j_int 31)) (j_int 1)) ja_nil)))) (jl_cons (j_toA (j_tup2 (ja_cons (j_var q_law_near_4) (ja_cons (j_neg (j_int 1)) ja_nil)))) jl_nil))))))))).e (jg_name q_law_near_6))
    (js_seq (js_asg ((jf_op rj_cat (j_var q_law_near_6) ((jf_lst (jl_cons (j_tupA (jl_cons (j_toA (j_var q_law_near_4)) jl_nil)) (jl_cons (j_toA (j_var q_law_near_4)) (jl_cons (j_toA (j_tup3 (ja_cons (j_var q_law_near_4) (ja_cons (j_var q_law_near_5) (ja_cons (j_int 1) ja_nil))))) (jl_cons (j_toA ((jf_lst (jl_cons (j_var q_law_near_4) (jl_cons (j_var q_law_near_5) jl_nil)))).e) (jl_cons (j_toA j_non) (jl_cons (j_toA (j_tup2 (ja_cons (j_bl true) (ja_cons (j_var q_law_near_5) ja_nil)))) (jl_cons (j_toA (j_tup2 (ja_cons (j_var q_law_near_4) (ja_cons (j_bl true) ja_nil)))) (jl_cons (j_toA (j_tup2 (ja_cons j_non (ja_cons (j_var q_law_near_5) ja_nil)))) (jl_cons (j_toA (j_tup2 (ja_cons (j_var q_law_near_4) (ja_cons j_non ja_nil)))) jl_nil))))))))))).e)).e (jg_name q_law_near_6))
    (js_seq (js_asg ((jf_op rj_cat (j_var q_law_near_6) ((jf_lst (jl_cons (j_toA (j_tup2 (ja_cons (j_str _) (ja_cons (j_int 1) ja_nil)))) (jl_cons (j_toA (j_tup2 (ja_cons (j_var q_law_near_4) (ja_cons (j_str _) ja_nil)))) jl_nil)))).e)).e (jg_name q_law_near_6))
    (js_seq (js_asg ((jf_lc (Wp.cons q_law_near_8 Wp.nil fun _ => rfl) (ji_list (j_var q_law_near_6)) (jg_name q_law_near_8) (by decide) jt_yes (j_toA ((jf_op rj_cat ((jf_op rj_cat ((jf_toAL (jf_slice (j_var q_law_near_2) jo_no (jo_is (j_var q_law_near_3))))).e ((jf_lst (jl_cons (j_var q_law_near_8) jl_nil))).e)).e ((jf_toAL (jf_slice (j_var q_law_near_2) (jo_is (j_op rj_add (j_var q_law_near_3) (j_int 1))) jo_no))).e)).e))).e (jg_name q_law_near_7))
    (js_seq (js_asg ((jf_op rj_cat (j_var q_law_near_7) ((jf_lst (jl_cons (j_cb rb_tupOf (ja_cons (j_var q_law_near_2) ja_nil)) (jl_cons (j_toA ((jf_slice (j_var q_law_near_2) jo_no (jo_is (j_int 0)))).e) (jl_cons (j_toA ((jf_op rj_cat (j_var q_law_near_2) ((jf_slice (j_var q_law_near_2) jo_no (jo_is (j_int 1)))).e)).e) (jl_cons (j_toA ((jf_lst (jl_cons (j_var q_law_near_2) jl_nil))).e) (jl_cons (j_toA ((jf_slice ((jf_op rf_repR (j_var q_law_near_2) (j_int 30))).e jo_no (jo_is (j_int 30)))).e) (jl_cons (j_toA ((jf_slice ((jf_op rf_repR (j_var q_law_near_2) (j_int 31))).e jo_no (jo_is (j_int 31)))).e) jl_nil)))))))).e)).e (jg_name q_law_near_7))
    (js_ret ((jf_op rj_cat (j_var q_law_near_7) ((jf_lst (jl_cons (j_toA j_non) (jl_cons (j_toA (j_int 0)) (jl_cons (j_toA (j_str _)) (jl_cons j_empA (jl_cons (j_toA (j_bl true)) (jl_cons (j_toA (j_str _)) (jl_cons (j_toA (j_op rj_ixL (j_var q_law_near_2) (j_var q_law_near_3))) (jl_cons (j_toA ((jf_lst (jl_cons j_non jl_nil))).e) jl_nil)))))))))).e)).e))))))))) h⟩
def G_law_near (source1 : List Int) (wide1 : Int) (lot1 : (List (Int × Int))) : Option ((List Any) × List Int) :=
  (G_law_draw source1 (lot1.length : Int)).bnd fun r1 =>
  (atI lot1 r1.1).bnd fun p1 =>
  (gPow (10 : Int) (31 : Int)).bnd fun t1 =>
  (gPow (10 : Int) (31 : Int)).bnd fun t2 =>
  (shortL [(Any.mk (EncW.w (wide1, p1.2))), (Any.mk (EncW.w ((wide1 - (1 : Int)), p1.2))), (Any.mk (EncW.w ((-(1 : Int)), p1.2))), (Any.mk (EncW.w (p1.1, (0 : Int)))), (Any.mk (EncW.w (p1.1, t1))), (Any.mk (EncW.w (p1.1, (t2 + (1 : Int))))), (Any.mk (EncW.w (p1.1, (-(1 : Int)))))]).bnd fun odd1 =>
  (gTupA [(Any.mk (EncW.w p1.1))]).bnd fun t3 =>
  (shortL [p1.1, p1.2]).bnd fun t4 =>
  (shortL [t3, (Any.mk (EncW.w p1.1)), (Any.mk (EncW.w (Tri.mk p1.1 p1.2 (1 : Int)))), (Any.mk (EncW.w t4)), (Any.mk (EncW.w ())), (Any.mk (EncW.w (true, p1.2))), (Any.mk (EncW.w (p1.1, true))), (Any.mk (EncW.w ((), p1.2))), (Any.mk (EncW.w (p1.1, ())))]).bnd fun t5 =>
  (gCat odd1 t5).bnd fun odd2 =>
  (shortL [(Any.mk (EncW.w ((Str.ofString "0"), (1 : Int)))), (Any.mk (EncW.w (p1.1, (Str.ofString "1"))))]).bnd fun t6 =>
  (gCat odd2 t6).bnd fun odd3 =>
  (short odd3).bnd fun _ => (mapO (fun (x1 : Any) => ((shortL [x1]).bnd fun t7 =>
  (gCat (toAL (cutL lot1 none (some r1.1))) t7).bnd fun t8 =>
  (gCat t8 (toAL (cutL lot1 (some (r1.1 + (1 : Int))) none))).bnd fun t9 =>
  some (Any.mk (EncW.w t9)))) odd3).bnd fun found1 =>
  (gCat lot1 (cutL lot1 none (some (1 : Int)))).bnd fun t10 =>
  (shortL [lot1]).bnd fun t11 =>
  (gRepR lot1 (30 : Int)).bnd fun t12 =>
  (gRepR lot1 (31 : Int)).bnd fun t13 =>
  (shortL [(Any.mk (.tuple (lot1.map EncW.w))), (Any.mk (EncW.w (cutL lot1 none (some (0 : Int))))), (Any.mk (EncW.w t10)), (Any.mk (EncW.w t11)), (Any.mk (EncW.w (cutL t12 none (some (30 : Int))))), (Any.mk (EncW.w (cutL t13 none (some (31 : Int)))))]).bnd fun t14 =>
  (gCat found1 t14).bnd fun found2 =>
  (atI lot1 r1.1).bnd fun t15 =>
  (shortL [()]).bnd fun t16 =>
  (shortL [(Any.mk (EncW.w ())), (Any.mk (EncW.w (0 : Int))), (Any.mk (EncW.w (Str.ofString ""))), (Any.mk (.dict [])), (Any.mk (EncW.w true)), (Any.mk (EncW.w (Str.ofString "0+1"))), (Any.mk (EncW.w t15)), (Any.mk (EncW.w t16))]).bnd fun t17 =>
  (gCat found2 t17).bnd fun t18 =>
  some (t18, r1.2)
theorem g_law_near (source1 : List Int) (wide1 : Int) (lot1 : (List (Int × Int))) : F_law_near source1 (wide1, lot1, ()) = G_law_near source1 wide1 lot1 := by
  unfold F_law_near m_law_near i_law_near G_law_near
  refine runS_k ?_
  refine s_seq ?_
  refine s_asg ?_
  refine k_src (by exact rfl) (by exact v_consA (v_op1 (v_consA (v_rdv rfl) v_nilA) rfl) v_nilA) (by exact g_law_draw source1 (lot1.length : Int)) (fun r1 => ?_)
  (try dsimp only)
  refine p_name (s' := ((.at r1.2, .is wide1, .is lot1, .is r1.1, .no, .no, .no, .no, .no, ()) : S_law_near)) (by exact rfl) ?_
  refine s_seqN ?_
  refine s_seq ?_
  refine s_asg ?_
  refine k_o (by exact o_op2 (v_rdv rfl) (v_rdv rfl) rfl) (fun p1 => ?_)
  refine p_two ?_
  refine p_name (s' := ((.at r1.2, .is wide1, .is lot1, .is r1.1, .is p1.1, .no, .no, .no, .no, ()) : S_law_near)) (by exact rfl) ?_
  refine p_name (s' := ((.at r1.2, .is wide1, .is lot1, .is r1.1, .is p1.1, .is p1.2, .no, .no, .no, ()) : S_law_near)) (by exact rfl) ?_
  refine s_seqN ?_
  refine s_seq ?_
  refine s_asg ?_
  refine k_op1 ?_
  refine k_consM ?_
  refine k_v (by exact v_op1 (v_op1 (v_consA (v_rdv rfl) (v_consA (v_rdv rfl) v_nilA)) rfl) rfl) ?_
  (try dsimp only)
  refine k_consM ?_
  refine k_v (by exact v_op1 (v_op1 (v_consA (v_op2 (v_rdv rfl) v_pur rfl) (v_consA (v_rdv rfl) v_nilA)) rfl) rfl) ?_
  refine k_consM ?_
  refine k_v (by exact v_op1 (v_op1 (v_consA (v_op1 v_pur rfl) (v_consA (v_rdv rfl) v_nilA)) rfl) rfl) ?_
  refine k_consM ?_
  refine k_v (by exact v_op1 (v_op1 (v_consA (v_rdv rfl) (v_consA v_pur v_nilA)) rfl) rfl) ?_
  (try dsimp only)
  refine k_consM ?_
  refine k_op1 ?_
  refine k_op1 ?_
  refine k_consA ?_
  refine k_v (by exact v_rdv rfl) ?_
  refine k_consA ?_
  refine k_o (by exact o_op2 v_pur v_pur rfl) (fun t1 => ?_)
  refine k_v (by exact v_nilA) ?_
  (try dsimp only)
  refine k_s (by exact rfl) ?_
  refine k_s (by exact rfl) ?_
  refine k_consM ?_
  refine k_op1 ?_
  refine k_op1 ?_
  refine k_consA ?_
  refine k_v (by exact v_rdv rfl) ?_
  (try dsimp only)
  refine k_consA ?_
  refine k_op2 ?_
  refine k_o (by exact o_op2 v_pur v_pur rfl) (fun t2 => ?_)
  refine k_v (by exact v_pur) ?_
  refine k_s (by exact rfl) ?_
  (try dsimp only)
  refine k_v (by exact v_nilA) ?_
  refine k_s (by exact rfl) ?_
  refine k_s (by exact rfl) ?_
  (try dsimp only)
  refine k_v (by exact v_consM (v_op1 (v_op1 (v_consA (v_rdv rfl) (v_consA (v_op1 v_pur rfl) v_nilA)) rfl) rfl) v_nilM) ?_
  refine k_t (by exact rfl) (fun odd1 => ?_)
  refine p_name (s' := ((.at r1.2, .is wide1, .is lot1, .is r1.1, .is p1.1, .is p1.2, .is odd1, .no, .no, ()) : S_law_near)) (by exact rfl) ?_
  refine s_seqN ?_
  refine s_seq ?_
  refine s_asg ?_
  refine k_op2 ?_
  refine k_v (by exact v_rdv rfl) ?_
  (try dsimp only)
  refine k_op1 ?_
  refine k_consM ?_
  refine k_o (by exact o_op1 (v_consM (v_op1 (v_rdv rfl) rfl) v_nilM) rfl) (fun t3 => ?_)
  refine k_consM ?_
  refine k_v (by exact v_op1 (v_rdv rfl) rfl) ?_
  refine k_consM ?_
  refine k_v (by exact v_op1 (v_op1 (v_consA (v_rdv rfl) (v_consA (v_rdv rfl) (v_consA v_pur v_nilA))) rfl) rfl) ?_
  (try dsimp only)
  refine k_consM ?_
  refine k_op1 ?_
  refine k_o (by exact o_op1 (v_consM (v_rdv rfl) (v_consM (v_rdv rfl) v_nilM)) rfl) (fun t4 => ?_)
  refine k_s (by exact rfl) ?_
  refine k_v (by exact v_consM (v_op1 v_pur rfl) (v_consM (v_op1 (v_op1 (v_consA v_pur (v_consA (v_rdv rfl) v_nilA)) rfl) rfl) (v_consM (v_op1 (v_op1 (v_consA (v_rdv rfl) (v_consA v_pur v_nilA)) rfl) rfl) (v_consM (v_op1 (v_op1 (v_consA v_pur (v_consA (v_rdv rfl) v_nilA)) rfl) rfl) (v_consM (v_op1 (v_op1 (v_consA (v_rdv rfl) (v_consA v_pur v_nilA)) rfl) rfl) v_nilM))))) ?_
  (try dsimp only)
  refine k_t (by exact rfl) (fun t5 => ?_)
  refine k_t (by exact rfl) (fun odd2 => ?_)
  refine p_name (s' := ((.at r1.2, .is wide1, .is lot1, .is r1.1, .is p1.1, .is p1.2, .is odd2, .no, .no, ()) : S_law_near)) (by exact rfl) ?_
  refine s_seqN ?_
  refine s_seq ?_
  refine s_asg ?_
  refine k_op2 ?_
  refine k_v (by exact v_rdv rfl) ?_
  (try dsimp only)
  refine k_o (by exact o_op1 (v_consM (v_op1 (v_op1 (v_consA v_pur (v_consA v_pur v_nilA)) rfl) rfl) (v_consM (v_op1 (v_op1 (v_consA (v_rdv rfl) (v_consA v_pur v_nilA)) rfl) rfl) v_nilM)) rfl) (fun t6 => ?_)
  refine k_t (by exact rfl) (fun odd3 => ?_)
  refine p_name (s' := ((.at r1.2, .is wide1, .is lot1, .is r1.1, .is p1.1, .is p1.2, .is odd3, .no, .no, ()) : S_law_near)) (by exact rfl) ?_
  refine s_seqN ?_
  refine s_seq ?_
  refine s_asg ?_
  refine k_lcM ?_
  refine k_v (by exact v_rdv rfl) ?_
  (try dsimp only)
  refine k_t (by rfl) (fun _ => ?_)
  refine k_lca (s0 := ((.at r1.2, .is wide1, .is lot1, .is r1.1, .is p1.1, .is p1.2, .is odd3, .no, .no, ()) : S_law_near)) (s1 := fun x1 => ((.at r1.2, .is wide1, .is lot1, .is r1.1, .is p1.1, .is p1.2, .is odd3, .no, .is x1, ()) : S_law_near)) (by exact rfl) (fun _ => by exact rfl) (fun x1 => by refine qv_o ?_; refine k_op1 ?_; refine k_op2 ?_; refine k_op2 ?_; refine k_v (by exact v_op1 (v_slice (v_rdv rfl) v_pur (v_op1 (v_rdv rfl) rfl)) rfl) ?_; refine k_o (by exact o_op1 (v_consM (v_rdv rfl) v_nilM) rfl) (fun t7 => ?_); refine k_t (by exact rfl) (fun t8 => ?_); (try dsimp only); refine k_v (by exact v_op1 (v_slice (v_rdv rfl) (v_op1 (v_op2 (v_rdv rfl) v_pur rfl) rfl) v_pur) rfl) ?_; refine k_t (by exact rfl) (fun t9 => ?_); refine k_s (by exact rfl) (by exact qv_some)) (fun _ => by exact rfl) (fun found1 => ?_)
  refine p_name (s' := ((.at r1.2, .is wide1, .is lot1, .is r1.1, .is p1.1, .is p1.2, .is odd3, .is found1, .no, ()) : S_law_near)) (by exact rfl) ?_
  refine s_seqN ?_
  refine s_seq ?_
  refine s_asg ?_
  refine k_op2 ?_
  refine k_v (by exact v_rdv rfl) ?_
  refine k_op1 ?_
  refine k_consM ?_
  refine k_v (by exact v_op1 (v_consA (v_rdv rfl) v_nilA) rfl) ?_
  (try dsimp only)
  refine k_consM ?_
  refine k_v (by exact v_op1 (v_slice (v_rdv rfl) v_pur (v_op1 v_pur rfl)) rfl) ?_
  refine k_consM ?_
  refine k_op1 ?_
  refine k_o (by exact o_op2 (v_rdv rfl) (v_slice (v_rdv rfl) v_pur (v_op1 v_pur rfl)) rfl) (fun t10 => ?_)
  refine k_s (by exact rfl) ?_
  (try dsimp only)
  refine k_consM ?_
  refine k_op1 ?_
  refine k_o (by exact o_op1 (v_consM (v_rdv rfl) v_nilM) rfl) (fun t11 => ?_)
  refine k_s (by exact rfl) ?_
  refine k_consM ?_
  refine k_op1 ?_
  refine k_slice ?_
  refine k_o (by exact o_op2 (v_rdv rfl) v_pur rfl) (fun t12 => ?_)
  (try dsimp only)
  refine k_v (by exact v_pur) ?_
  refine k_v (by exact v_op1 v_pur rfl) ?_
  refine k_s (by exact rfl) ?_
  (try dsimp only)
  refine k_consM ?_
  refine k_op1 ?_
  refine k_slice ?_
  refine k_o (by exact o_op2 (v_rdv rfl) v_pur rfl) (fun t13 => ?_)
  refine k_v (by exact v_pur) ?_
  refine k_v (by exact v_op1 v_pur rfl) ?_
  (try dsimp only)
  refine k_s (by exact rfl) ?_
  refine k_v (by exact v_nilM) ?_
  refine k_t (by exact rfl) (fun t14 => ?_)
  (try dsimp only)
  refine k_t (by exact rfl) (fun found2 => ?_)
  refine p_name (s' := ((.at r1.2, .is wide1, .is lot1, .is r1.1, .is p1.1, .is p1.2, .is odd3, .is found2, .no, ()) : S_law_near)) (by exact rfl) ?_
  refine s_seqN ?_
  refine s_ret ?_
  refine k_op2 ?_
  refine k_v (by exact v_rdv rfl) ?_
  refine k_op1 ?_
  refine k_consM ?_
  refine k_v (by exact v_op1 v_pur rfl) ?_
  (try dsimp only)
  refine k_consM ?_
  refine k_v (by exact v_op1 v_pur rfl) ?_
  refine k_consM ?_
  refine k_v (by exact v_op1 v_pur rfl) ?_
  refine k_consM ?_
  refine k_v (by exact v_pur) ?_
  (try dsimp only)
  refine k_consM ?_
  refine k_v (by exact v_op1 v_pur rfl) ?_
  refine k_consM ?_
  refine k_v (by exact v_op1 v_pur rfl) ?_
  refine k_consM ?_
  refine k_op1 ?_
  refine k_o (by exact o_op2 (v_rdv rfl) (v_rdv rfl) rfl) (fun t15 => ?_)
  (try dsimp only)
  refine k_s (by exact rfl) ?_
  refine k_consM ?_
  refine k_op1 ?_
  refine k_o (by exact o_op1 (v_consM v_pur v_nilM) rfl) (fun t16 => ?_)
  refine k_s (by exact rfl) ?_
  (try dsimp only)
  refine k_v (by exact v_nilM) ?_
  refine k_t (by exact rfl) (fun t17 => ?_)
  refine k_t (by exact rfl) (fun t18 => ?_)
  (try dsimp only)
  exact kfS_rt rfl
abbrev S_law : Type := (Dt (List Int)) × (Dt Int) × (Dt Int) × (Src false) × (Dt Int) × (Dt (List (Int × Int))) × (Dt Any) × (Dt Str) × (Dt Bool) × (Dt (List Bool)) × Unit
abbrev q_law_0 : Pos S_law (Dt (List Int)) 0 := Pos.here
abbrev q_law_1 : Pos S_law (Dt Int) 1 := (Pos.there Pos.here)
abbrev q_law_2 : Pos S_law (Dt Int) 2 := (Pos.there (Pos.there Pos.here))
abbrev q_law_3 : Pos S_law (Src false) 3 := (Pos.there (Pos.there (Pos.there Pos.here)))
abbrev q_law_4 : Pos S_law (Dt Int) 4 := (Pos.there (Pos.there (Pos.there (Pos.there Pos.here))))
abbrev q_law_5 : Pos S_law (Dt (List (Int × Int))) 5 := (Pos.there (Pos.there (Pos.there (Pos.there (Pos.there Pos.here)))))
abbrev q_law_6 : Pos S_law (Dt Any) 6 := (Pos.there (Pos.there (Pos.there (Pos.there (Pos.there (Pos.there Pos.here))))))
abbrev q_law_7 : Pos S_law (Dt Str) 7 := (Pos.there (Pos.there (Pos.there (Pos.there (Pos.there (Pos.there (Pos.there Pos.here)))))))
abbrev q_law_8 : Pos S_law (Dt Bool) 8 := (Pos.there (Pos.there (Pos.there (Pos.there (Pos.there (Pos.there (Pos.there (Pos.there Pos.here))))))))
abbrev q_law_9 : Pos S_law (Dt (List Bool)) 9 := (Pos.there (Pos.there (Pos.there (Pos.there (Pos.there (Pos.there (Pos.there (Pos.there (Pos.there Pos.here)))))))))
def b_law_0 : MS S_law Bool :=
    (seqM (parM (consA (op1 (fun x : Any × Unit => gReprW x.1) (consA (rdv q_law_6) nilA)) (consA (op1 F_law_due (consA (rdv q_law_4) (consA (rdv q_law_6) nilA))) nilA)) (pName q_law_7) (pName q_law_8))
    (seqM (asgM (op1 shortL (consM (op1 F_is_records (consA (rdv q_law_4) (consA (rdv q_law_6) nilA))) (consM (op1 (fun x => F_is_records ((fun x => (x.2.1, x.1, ())) x)) (consA (rdv q_law_6) (consA (rdv q_law_4) nilA))) nilM))) (pName q_law_9))
    (ifS (orM (op2 (fun x y : Str => some (!decide (x = y))) (op1 (fun x : (List Bool) × Unit => gRepr x.1) (consA (rdv q_law_9) nilA)) (op1 (fun x : (List Bool) × Unit => gRepr x.1) (consA (op1 shortL (consM (rdv q_law_8) (consM (rdv q_law_8) nilM))) nilA))) (op2 (fun x y : Str => some (!decide (x = y))) (op1 (fun x : Any × Unit => gReprW x.1) (consA (rdv q_law_6) nilA)) (rdv q_law_7))) (retM (pur false)) nextM)))
def b_law_1 : MS S_law Bool :=
    (seqM (asgM (op1 F_law_source (consA (rdv q_law_2) (consA (rdv q_law_1) nilA))) fun zs s => some (Pos.put q_law_3 s (.at zs)))
    (seqM (asgM (op2 (fun x i => atI x i) (op1 shortL (consM (pur (1 : Int)) (consM (op2 (fun x y : Int => some (x + y)) (pur (1 : Int)) (srcM q_law_3 F_law_draw (consA (pur (9 : Int)) nilA))) (consM (op2 (fun x y : Int => some (x + y)) (pur (1 : Int)) (srcM q_law_3 F_law_draw (consA (op2 gPow (pur (10 : Int)) (pur (30 : Int))) nilA))) (consM (op2 gPow (pur (10 : Int)) (pur (30 : Int))) nilM))))) (srcM q_law_3 F_law_draw (consA (pur (4 : Int)) nilA))) (pName q_law_4))
    (seqM (asgM (srcM q_law_3 F_law_lot (consA (rdv q_law_4) (consA (op2 (fun x y : Int => some (x + y)) (pur (1 : Int)) (srcM q_law_3 F_law_draw (consA (op2 (fun x i => atI x i) (op1 shortL (consM (pur (4 : Int)) (consM (pur (30 : Int)) nilM))) (op1 (fun x : Bool × Unit => some (if x.1 then (1 : Int) else 0)) (consA (op2 (neD (α := (List Int)) (β := (List Int))) (rdv q_law_0) (op1 shortL (nilM (α := Int)))) nilA))) nilA))) nilA))) (pName q_law_5))
    (forM (op2 gCat (op1 (fun x : (List (List (Int × Int))) => some (toAL x)) (op1 shortL (consM (rdv q_law_5) nilM))) (srcM q_law_3 F_law_near (consA (rdv q_law_4) (consA (rdv q_law_5) nilA)))) (pName q_law_6) b_law_0))))
def m_law : MS S_law Bool :=
    (seqM (forM (op1 (fun x : (List Int) × Unit => some (enumL x.1)) (consA (sliceM (op2 gCat (rdv q_law_0) (op1 shortL (consM (pur (0 : Int)) nilM))) (pur none) (op1 (fun x => some (some x)) (op1 (fun x : Int × Int × Unit => some (if x.2.1 > x.1 then x.2.1 else x.1)) (consA (pur (1 : Int)) (consA (op1 (fun x : Int × Int × Unit => some (if x.2.1 < x.1 then x.2.1 else x.1)) (consA (op1 (fun x : (List Int) × Unit => some (x.1.length : Int)) (consA (rdv q_law_0) nilA)) (consA (pur (6 : Int)) nilA))) nilA))))) nilA)) (pTwo (pName q_law_1) (pName q_law_2)) b_law_1)
    (retM (op1 F_is_records (consA (pur (1 : Int)) (consA (op1 (fun x : (List (Int × Int)) => some (Any.mk (EncW.w x))) (op1 shortL (consM (op1 (fun x => some (x.1, x.2.1)) (consA (pur (0 : Int)) (consA (op2 gPow (pur (10 : Int)) (pur (31 : Int))) nilA))) nilM))) nilA)))))
def i_law (x : (List Int) × Unit) : S_law := (.is x.1, .no, .no, .no, .no, .no, .no, .no, .no, .no, ())
def F_law (x : (List Int) × Unit) : Option Bool := run m_law (i_law x)
theorem in_law : Ini ((List Int) × Unit) S_law N_law 1 i_law := fun K P own F H vs x h => by
  obtain ⟨v0, w0, rfl, h0, rfl⟩ := h
  exact ⟨⟨_, _, rfl, ⟨_, rfl, h0⟩, _, _, rfl, trivial, _, _, rfl, trivial, _, _, rfl, trivial, _, _, rfl, trivial, _, _, rfl, trivial, _, _, rfl, trivial, _, _, rfl, trivial, _, _, rfl, trivial, _, _, rfl, trivial, rfl⟩, rfl⟩
theorem ok_law (T : Tx K mg) : FnG P w K mg base CX0 6 T.a_law T.d_law P_law (spP K F_law) := by
  refine fnG_of T.p_law.fn sc_law (fun vs H Q E h => len_P in_law h) (fun cdv A outer s H vs Q E hg hr h => ?_)
  exact ⟨_, (pss_cons (ps_for PassesOwn.never rfl (pi_enum (by rfl) T.n_enumerate (pa_cons (pe_slice sl_list (pe_op op_catR (pv 0) (pe_lst (pa_cons pe_int pa_nil))) po_none (po_some (pe_callB (call_mx2 rfl) (by rfl) T.n_max (by rfl) (pa_cons pe_int (pa_cons (pe_callB (call_mn2 rfl) (by rfl) T.n_min (by rfl) (pa_cons (pe_callB call_len2 (by rfl) T.n_len (by rfl) (pa_cons (pv 0) pa_nil)) (pa_cons pe_int pa_nil))) pa_nil))))) pa_nil)) (pg_tup (n := 2) rfl (pgs_cons (pg_name (i := 1) sc_law.nd rfl (.inl rfl)) (pgs_cons (pg_name (i := 2) sc_law.nd rfl (.inl rfl)) pgs_nil))) (pss_cons (ps_set (i := 3) sc_law.nd rfl (.inl rfl) (pe_call (ok_law_source T) (hr.mono (by decide)) (by rfl) T.p_law_source.g T.p_law_source.fn.kp T.p_law_source.b .nil pass0 (pa_cons (pv 2) (pa_cons (pv 1) pa_nil))))
      (pss_cons (ps_set (i := 4) sc_law.nd rfl (.inl rfl) (pe_ix ix_list (pe_lst (pa_cons pe_int (pa_cons (pe_op op_add pe_int (pe_call (ok_law_draw T) (hr.mono (by decide)) (by rfl) T.p_law_draw.g T.p_law_draw.fn.kp T.p_law_draw.b .nil pass0 (pa_cons (pv 3) (pa_cons pe_int pa_nil)))) (pa_cons (pe_op op_add pe_int (pe_call (ok_law_draw T) (hr.mono (by decide)) (by rfl) T.p_law_draw.g T.p_law_draw.fn.kp T.p_law_draw.b .nil pass0 (pa_cons (pv 3) (pa_cons (pe_op op_powW pe_int pe_int) pa_nil)))) (pa_cons (pe_op op_powW pe_int pe_int) pa_nil))))) (pe_call (ok_law_draw T) (hr.mono (by decide)) (by rfl) T.p_law_draw.g T.p_law_draw.fn.kp T.p_law_draw.b .nil pass0 (pa_cons (pv 3) (pa_cons pe_int pa_nil))) (fun _ _ => rfl)))
      (pss_cons (ps_set (i := 5) sc_law.nd rfl (.inl rfl) (pe_call (ok_law_lot T) (hr.mono (by decide)) (by rfl) T.p_law_lot.g T.p_law_lot.fn.kp T.p_law_lot.b .nil pass0 (pa_cons (pv 3) (pa_cons (pv 4) (pa_cons (pe_op op_add pe_int (pe_call (ok_law_draw T) (hr.mono (by decide)) (by rfl) T.p_law_draw.g T.p_law_draw.fn.kp T.p_law_draw.b .nil pass0 (pa_cons (pv 3) (pa_cons (pe_ix ix_list (pe_lst (pa_cons pe_int (pa_cons pe_int pa_nil))) (pe_callTy call_intB (by rfl) T.n_int (by rfl) (pa_cons (pe_cmpR (op_neD (hu64 hr)) (pv 0) (pe_lst pa_nil) (nomark _)) pa_nil)) (fun _ _ => rfl)) pa_nil)))) pa_nil)))))
      (pss_one (ps_for PassesOwn.never rfl (pi_list (pe_op op_catR (pe_lst (pa_cons (pv 5) pa_nil)) (pe_call (ok_law_near T) (hr.mono (by decide)) (by rfl) T.p_law_near.g T.p_law_near.fn.kp T.p_law_near.b .nil pass0 (pa_cons (pv 3) (pa_cons (pv 4) (pa_cons (pv 5) pa_nil)))))) (pg_name (i := 6) sc_law.nd rfl (.inl rfl)) (pss_cons (ps_par (i := 7) (j := 8) rfl sc_law.nd rfl rfl (by decide) rfl rfl (pa_cons (pe_callB (call_reprA hg (hu64 hr)) (by rfl) T.n_repr (by rfl) (pa_cons (pv 6) pa_nil)) (pa_cons (pe_call (ok_law_due T) (hr.mono (by decide)) (by rfl) T.p_law_due.g T.p_law_due.fn.kp T.p_law_due.b .nil pass0 (pa_cons (pv 4) (pa_cons (pv 6) pa_nil))) pa_nil)) (by rfl))
      (pss_cons (ps_set (i := 9) sc_law.nd rfl (.inl rfl) (pe_lst (pa_cons (pe_call (ok_is_records T) (hr.mono (by decide)) (by rfl) T.p_is_records.g T.p_is_records.fn.kp T.p_is_records.b .nil pass0 (pa_cons (pv 4) (pa_cons (pv 6) pa_nil))) (pa_cons (pe_kw (ok_is_records T) (hr.mono (by decide)) (by rfl) T.p_is_records.g T.p_is_records.fn.kp T.kb0_is_records pass0 (pk_cons (pv 6) (pk_cons (pv 4) pk_nil))) pa_nil))))
      (pss_one (ps_if (PW.pt (pw_or (pt_cmpR op_ne (pe_callB (call_reprA hg (hu64 hr)) (by rfl) T.n_repr (by rfl) (pa_cons (pv 9) pa_nil)) (pe_callB (call_reprA hg (hu64 hr)) (by rfl) T.n_repr (by rfl) (pa_cons (pe_lst (pa_cons (pv 8) (pa_cons (pv 8) pa_nil))) pa_nil)) (nomark _)) (pw_or1 (pt_cmpR op_ne (pe_callB (call_reprA hg (hu64 hr)) (by rfl) T.n_repr (by rfl) (pa_cons (pv 6) pa_nil)) (pv 7) (nomark _))))) (pss_one (ps_ret pe_bl)) pss_nil))))))))))
      (pss_one (ps_ret (pe_call (ok_is_records T) (hr.mono (by decide)) (by rfl) T.p_is_records.g T.p_is_records.fn.kp T.p_is_records.b .nil pass0 (pa_cons pe_int (pa_cons (pe_lst (pa_cons (pe_tup (pa_cons pe_int (pa_cons (pe_op op_powW pe_int pe_int) pa_nil))) pa_nil)) pa_nil)))))),
    read_P (m := m_law) in_law (fun F0 H0 => (js_seq (js_for (ji_enum (ja_cons ((jf_slice ((jf_op rj_cat (j_var q_law_0) ((jf_lst (jl_cons (j_int 0) jl_nil))).e)).e jo_no (jo_is (j_cb rb_max2 (ja_cons (j_int 1) (ja_cons (j_cb rb_min2 (ja_cons (j_cb rb_len (ja_cons (j_var q_law_0) ja_nil)) (ja_cons (j_int 6) ja_nil))) ja_nil)))))).e ja_nil)) (jg_two (jg_name q_law_1) (jg_name q_law_2)) (js_seq (js_srcN q_law_3 (jf_call (ja_cons (j_var q_law_2) (ja_cons (j_var q_law_1) ja_nil))))
    (js_seq (js_asg (j_op rj_ixL ((jf_lst (jl_cons (j_int 1) (jl_cons (j_op rj_add (j_int 1) (j_callS q_law_3 (ja_cons (j_int 9) ja_nil))) (jl_cons (j_op rj_add (j_int 1) (j_callS q_law_3 (ja_cons (j_op rj_pow (j_int 10) (j_int 30)) ja_nil))) (jl_cons (j_op rj_pow (j_int 10) (j_int 30)) jl_nil)))))).e (j_callS q_law_3 (ja_cons (j_int 4) ja_nil))) (jg_name q_law_4))
    (js_seq (js_asg (j_callS q_law_3 (ja_cons (j_var q_law_4) (ja_cons (j_op rj_add (j_int 1) (j_callS q_law_3 (ja_cons (j_op rj_ixL ((jf_lst (jl_cons (j_int 4) (jl_cons (j_int 30) jl_nil)))).e (j_cb rb_intB (ja_cons (j_op rj_neD (j_var q_law_0) ((jf_lst jl_nil)).e) ja_nil))) ja_nil))) ja_nil))) (jg_name q_law_5))
    (js_for (ji_list ((jf_op rj_cat ((jf_toAL (jf_lst (jl_cons (j_var q_law_5) jl_nil)))).e (j_callS q_law_3 (ja_cons (j_var q_law_4) (ja_cons (j_var q_law_5) ja_nil))))).e) (jg_name q_law_6) (js_seq (js_par q_law_7 q_law_8 (ja_cons (j_cb rb_reprW (ja_cons (j_var q_law_6) ja_nil)) (ja_cons (j_call (ja_cons (j_var q_law_4) (ja_cons (j_var q_law_6) ja_nil))) ja_nil)))
    (js_seq (js_asg ((jf_lst (jl_cons (j_call (ja_cons (j_var q_law_4) (ja_cons (j_var q_law_6) ja_nil))) (jl_cons (j_callK (gA := (fun (x : Any × Int × Unit) => (x.2.1, x.1, ()))) (fun F vs x h => by obtain ⟨v0, w0, rfl, h0, v1, w1, rfl, h1, rfl⟩ := h; exact ⟨_, _, rfl, h1, _, _, rfl, h0, rfl⟩) (ja_cons (j_var q_law_6) (ja_cons (j_var q_law_4) ja_nil))) jl_nil)))).e (jg_name q_law_9))
    (js_if (jt_or (jt_test (j_op rj_neS (j_cb rb_reprA (ja_cons (j_var q_law_9) ja_nil)) (j_cb rb_reprA (ja_cons ((jf_lst (jl_cons (j_var q_law_8) (jl_cons (j_var q_law_8) jl_nil)))).e ja_nil)))) (jt_test (j_op rj_neS (j_cb rb_reprW (ja_cons (j_var q_law_6) ja_nil)) (j_var q_law_7)))) (js_ret (j_bl false)) js_next))))))))
    (js_ret (j_call (ja_cons (j_int 1) (ja_cons (j_toA ((jf_lst (jl_cons (j_tup2 (ja_cons (j_int 0) (ja_cons (j_op rj_pow (j_int 10) (j_int 31)) ja_nil))) jl_nil))).e) ja_nil)))))) h⟩
def G_law (script1 : (List Int)) : Option (Bool) :=
  (shortL [(0 : Int)]).bnd fun t1 =>
  (gCat script1 t1).bnd fun t2 =>
  (loopO (ρ := Bool) (fun (z1 : Unit) (x1 : (Int × Int)) => (G_law_source x1.2 x1.1).bnd fun source1 =>
  (G_law_draw source1 (9 : Int)).bnd fun r1 =>
  (gPow (10 : Int) (30 : Int)).bnd fun t3 =>
  (G_law_draw r1.2 t3).bnd fun r2 =>
  (gPow (10 : Int) (30 : Int)).bnd fun t4 =>
  (shortL [(1 : Int), ((1 : Int) + r1.1), ((1 : Int) + r2.1), t4]).bnd fun t5 =>
  (G_law_draw r2.2 (4 : Int)).bnd fun r3 =>
  (atI t5 r3.1).bnd fun wide1 =>
  (shortL [(4 : Int), (30 : Int)]).bnd fun t6 =>
  (shortL ([] : List Int)).bnd fun t7 =>
  ((neD (α := (List Int)) (β := (List Int))) script1 t7).bnd fun t8 =>
  (atI t6 (if t8 then (1 : Int) else 0)).bnd fun t9 =>
  (G_law_draw r3.2 t9).bnd fun r4 =>
  (G_law_lot r4.2 wide1 ((1 : Int) + r4.1)).bnd fun r5 =>
  (shortL [r5.1]).bnd fun t10 =>
  (G_law_near r5.2 wide1 r5.1).bnd fun r6 =>
  (gCat (toAL t10) r6.1).bnd fun t11 =>
  (loopO (ρ := Bool) (fun (z2 : Unit) (x2 : Any) => (gReprW x2).bnd fun t12 =>
  (G_law_due wide1 x2).bnd fun t13 =>
  (G_is_records wide1 x2).bnd fun t14 =>
  (G_is_records wide1 x2).bnd fun t15 =>
  (shortL [t14, t15]).bnd fun told1 =>
  (gRepr told1).bnd fun t16 =>
  (shortL [t13, t13]).bnd fun t17 =>
  (gRepr t17).bnd fun t18 =>
  (if (!decide (t16 = t18)) = true then some true else ((gReprW x2).bnd fun t19 =>
  some (!decide (t19 = t12)))).bnd fun t20 =>
  if t20 = true then (some (.rt false)) else (some (.nx ()))) t11 ()).bnd fun (f : Re (Unit) Bool) => match f with
  | .rt r => some (.rt r)
  | .nx z3 =>
  some (.nx ())) (enumL (cutL t2 none (some (if (if (6 : Int) < (script1.length : Int) then (6 : Int) else (script1.length : Int)) > (1 : Int) then (if (6 : Int) < (script1.length : Int) then (6 : Int) else (script1.length : Int)) else (1 : Int))))) ()).bnd fun (f : Re (Unit) Bool) => match f with
  | .rt r => some r
  | .nx z4 =>
  (gPow (10 : Int) (31 : Int)).bnd fun t21 =>
  (shortL [((0 : Int), t21)]).bnd fun t22 =>
  (G_is_records (1 : Int) (Any.mk (EncW.w t22))).bnd fun t23 =>
  some t23
theorem g_law (script1 : (List Int)) : F_law (script1, ()) = G_law script1 := by
  unfold F_law m_law i_law G_law
  refine run_k ?_
  refine s_seq ?_
  refine s_forK ?_
  refine k_op1 ?_
  refine k_consA ?_
  refine k_slice ?_
  refine k_op2 ?_
  refine k_v (by exact v_rdv rfl) ?_
  refine k_o (by exact o_op1 (v_consM v_pur v_nilM) rfl) (fun t1 => ?_)
  (try dsimp only)
  refine k_t (by exact rfl) (fun t2 => ?_)
  refine k_v (by exact v_pur) ?_
  refine k_v (by exact v_op1 (v_op1 (v_consA v_pur (v_consA (v_op1 (v_consA (v_op1 (v_consA (v_rdv rfl) v_nilA) rfl) (v_consA v_pur v_nilA)) rfl) v_nilA)) rfl) rfl) ?_
  (try dsimp only)
  refine k_v (by exact v_nilA) ?_
  refine k_s (by exact rfl) ?_
  refine s_forR (R := (fun (s' : S_law) (z : Unit) => ∃ j1, ∃ j2, ∃ j3, ∃ j4, ∃ j5, ∃ j6, ∃ j7, ∃ j8, ∃ j9, s' = ((.is script1, j1, j2, j3, j4, j5, j6, j7, j8, j9, ()) : S_law))) (RR := (fun (_ : S_law) (r r' : Bool) => r = r')) (z := ()) (fun x1 s' z1 h => by obtain ⟨j1_u1, j2_u2, j3_u3, j4_u4, j5_u5, j6_u6, j7_u7, j8_u8, j9_u9, rfl⟩ := h; refine p_two ?_; refine p_name (s' := ((.is script1, .is x1.1, j2_u2, j3_u3, j4_u4, j5_u5, j6_u6, j7_u7, j8_u8, j9_u9, ()) : S_law)) (by exact rfl) ?_; refine p_name (s' := ((.is script1, .is x1.1, .is x1.2, j3_u3, j4_u4, j5_u5, j6_u6, j7_u7, j8_u8, j9_u9, ()) : S_law)) (by exact rfl) ?_; refine s_in ?_; refine s_seq ?_; refine s_asg ?_; refine k_o (by exact o_op1 (v_consA (v_rdv rfl) (v_consA (v_rdv rfl) v_nilA)) (g_law_source x1.2 x1.1)) (fun source1 => ?_); refine p_src (s' := ((.is script1, .is x1.1, .is x1.2, .at source1, j4_u4, j5_u5, j6_u6, j7_u7, j8_u8, j9_u9, ()) : S_law)) (by exact rfl) ?_; refine s_seqN ?_; refine s_seq ?_; refine s_asg ?_; refine k_op2 ?_; refine k_op1 ?_; refine k_consM ?_; refine k_v (by exact v_pur) ?_; refine k_consM ?_; refine k_op2 ?_; refine k_v (by exact v_pur) ?_; (try dsimp only); refine k_src (by exact rfl) (by exact v_consA v_pur v_nilA) (by exact g_law_draw source1 (9 : Int)) (fun r1 => ?_); (try dsimp only); refine k_s (by exact rfl) ?_; refine k_consM ?_; refine k_op2 ?_; refine k_v (by exact v_pur) ?_; (try dsimp only); refine k_srcA (by exact rfl) ?_; refine k_consA ?_; refine k_o (by exact o_op2 v_pur v_pur rfl) (fun t3 => ?_); refine k_v (by exact v_nilA) ?_; refine k_srcB (by exact rfl) (by exact g_law_draw r1.2 t3) (fun r2 => ?_); (try dsimp only); refine k_s (by exact rfl) ?_; refine k_consM ?_; refine k_o (by exact o_op2 v_pur v_pur rfl) (fun t4 => ?_); refine k_v (by exact v_nilM) ?_; (try dsimp only); refine k_t (by exact rfl) (fun t5 => ?_); refine k_src (by exact rfl) (by exact v_consA v_pur v_nilA) (by exact g_law_draw r2.2 (4 : Int)) (fun r3 => ?_); (try dsimp only); refine k_t (by exact rfl) (fun wide1 => ?_); (try dsimp only); refine p_name (s' := ((.is script1, .is x1.1, .is x1.2, .at r3.2, .is wide1, j5_u5, j6_u6, j7_u7, j8_u8, j9_u9, ()) : S_law)) (by exact rfl) ?_; refine s_seqN ?_; refine s_seq ?_; refine s_asg ?_; refine k_srcA (by exact rfl) ?_; refine k_consA ?_; refine k_v (by exact v_rdv rfl) ?_; refine k_consA ?_; refine k_op2 ?_; refine k_v (by exact v_pur) ?_; refine k_srcA (by exact rfl) ?_; refine k_consA ?_; refine k_op2 ?_; refine k_o (by exact o_op1 (v_consM v_pur (v_consM v_pur v_nilM)) rfl) (fun t6 => ?_); (try dsimp only); refine k_op1 ?_; refine k_consA ?_; refine k_op2 ?_; refine k_v (by exact v_rdv rfl) ?_; refine k_o (by exact o_op1 v_nilM rfl) (fun t7 => ?_); refine k_t (by exact rfl) (fun t8 => ?_); (try dsimp only); refine k_v (by exact v_nilA) ?_; refine k_s (by exact rfl) ?_; refine k_t (by exact rfl) (fun t9 => ?_); (try dsimp only); refine k_v (by exact v_nilA) ?_; refine k_srcB (by exact rfl) (by exact g_law_draw r3.2 t9) (fun r4 => ?_); (try dsimp only); refine k_s (by exact rfl) ?_; (try dsimp only); refine k_v (by exact v_nilA) ?_; refine k_srcB (by exact rfl) (by exact g_law_lot r4.2 wide1 ((1 : Int) + r4.1)) (fun r5 => ?_); (try dsimp only); refine p_name (s' := ((.is script1, .is x1.1, .is x1.2, .at r5.2, .is wide1, .is r5.1, j6_u6, j7_u7, j8_u8, j9_u9, ()) : S_law)) (by exact rfl) ?_; refine s_seqN ?_; refine s_forK ?_; refine k_op2 ?_; refine k_op1 ?_; refine k_o (by exact o_op1 (v_consM (v_rdv rfl) v_nilM) rfl) (fun t10 => ?_); (try dsimp only); refine k_s (by exact rfl) ?_; refine k_src (by exact rfl) (by exact v_consA (v_rdv rfl) (v_consA (v_rdv rfl) v_nilA)) (by exact g_law_near r5.2 wide1 r5.1) (fun r6 => ?_); (try dsimp only); refine k_t (by exact rfl) (fun t11 => ?_); (try dsimp only); refine s_forR (R := (fun (s' : S_law) (z : Unit) => ∃ j6, ∃ j7, ∃ j8, ∃ j9, s' = ((.is script1, .is x1.1, .is x1.2, .at r6.2, .is wide1, .is r5.1, j6, j7, j8, j9, ()) : S_law))) (RR := (fun (_ : S_law) (r r' : Bool) => r = r')) (z := ()) (fun x2 s' z2 h => by obtain ⟨j6_u10, j7_u11, j8_u12, j9_u13, rfl⟩ := h; refine p_name (s' := ((.is script1, .is x1.1, .is x1.2, .at r6.2, .is wide1, .is r5.1, .is x2, j7_u11, j8_u12, j9_u13, ()) : S_law)) (by exact rfl) ?_; refine s_in ?_; refine s_seq ?_; refine s_par ?_; refine k_consA ?_; refine k_o (by exact o_op1 (v_consA (v_rdv rfl) v_nilA) rfl) (fun t12 => ?_); refine k_consA ?_; refine k_o (by exact o_op1 (v_consA (v_rdv rfl) (v_consA (v_rdv rfl) v_nilA)) (g_law_due wide1 x2)) (fun t13 => ?_); refine k_v (by exact v_nilA) ?_; (try dsimp only); refine p_name (s' := ((.is script1, .is x1.1, .is x1.2, .at r6.2, .is wide1, .is r5.1, .is x2, .is t12, j8_u12, j9_u13, ()) : S_law)) (by exact rfl) ?_; refine p_name (s' := ((.is script1, .is x1.1, .is x1.2, .at r6.2, .is wide1, .is r5.1, .is x2, .is t12, .is t13, j9_u13, ()) : S_law)) (by exact rfl) ?_; refine s_seqN ?_; refine s_seq ?_; refine s_asg ?_; refine k_op1 ?_; refine k_consM ?_; refine k_o (by exact o_op1 (v_consA (v_rdv rfl) (v_consA (v_rdv rfl) v_nilA)) (g_is_records wide1 x2)) (fun t14 => ?_); refine k_consM ?_; refine k_o (by exact o_op1 (v_consA (v_rdv rfl) (v_consA (v_rdv rfl) v_nilA)) (g_is_records wide1 x2)) (fun t15 => ?_); refine k_v (by exact v_nilM) ?_; (try dsimp only); refine k_t (by exact rfl) (fun told1 => ?_); refine p_name (s' := ((.is script1, .is x1.1, .is x1.2, .at r6.2, .is wide1, .is r5.1, .is x2, .is t12, .is t13, .is told1, ()) : S_law)) (by exact rfl) ?_; refine s_seqN ?_; refine s_ifK ?_; refine k_or ?_; refine k_op2 ?_; refine k_o (by exact o_op1 (v_consA (v_rdv rfl) v_nilA) rfl) (fun t16 => ?_); refine k_op1 ?_; refine k_consA ?_; refine k_o (by exact o_op1 (v_consM (v_rdv rfl) (v_consM (v_rdv rfl) v_nilM)) rfl) (fun t17 => ?_); (try dsimp only); refine k_v (by exact v_nilA) ?_; refine k_t (by exact rfl) (fun t18 => ?_); refine k_s (by exact rfl) ?_; (try dsimp only); refine k_o (by refine o_or (by exact v_pur) ?_; refine qv_o ?_; refine k_op2 ?_; refine k_o (by exact o_op1 (v_consA (v_rdv rfl) v_nilA) rfl) (fun t19 => ?_); refine k_v (by exact v_rdv rfl) ?_; (try dsimp only); refine k_s (by exact rfl) (by exact qv_some)) (fun t20 => ?_); refine s_if (by exact v_pur) (by refine s_ret ?_; refine k_v (by exact v_pur) (by exact t_rtR rfl)) ?_; refine s_nx (by exact t_nxR ⟨_, _, _, _, rfl⟩)) (by exact ⟨_, _, _, _, rfl⟩) (fun s' z3 h => by obtain ⟨j6_u14, j7_u15, j8_u16, j9_u17, rfl⟩ := h; exact t_nxR ⟨_, _, _, _, _, _, _, _, _, rfl⟩) (fun s' r0 r h2 => ?_); exact t_rtR h2) (by exact ⟨_, _, _, _, _, _, _, _, _, rfl⟩) (fun s' z4 h => by obtain ⟨j1_u18, j2_u19, j3_u20, j4_u21, j5_u22, j6_u23, j7_u24, j8_u25, j9_u26, rfl⟩ := h; refine s_seqN ?_; refine s_ret ?_; refine k_op1 ?_; refine k_consA ?_; refine k_v (by exact v_pur) ?_; (try dsimp only); refine k_consA ?_; refine k_op1 ?_; refine k_op1 ?_; refine k_consM ?_; refine k_op1 ?_; refine k_consA ?_; refine k_v (by exact v_pur) ?_; refine k_consA ?_; refine k_o (by exact o_op2 v_pur v_pur rfl) (fun t21 => ?_); refine k_v (by exact v_nilA) ?_; (try dsimp only); refine k_s (by exact rfl) ?_; refine k_v (by exact v_nilM) ?_; refine k_t (by exact rfl) (fun t22 => ?_); (try dsimp only); refine k_s (by exact rfl) ?_; refine k_v (by exact v_nilA) ?_; refine k_t (by exact g_is_records (1 : Int) (Any.mk (EncW.w t22))) (fun t23 => ?_); (try dsimp only); exact kfP_rt) (fun s' r0 r h2 => ?_)
  refine s_seqR ?_
  subst h2
  exact kfP_rt
end
end N01
namespace N01
open PySem PySem.Spec PyProof.Rows L2 Rg Rm
open Rm.Enc (rel)
open Rm.Slots (srels)
section
local macro_rules | `(tactic| walk_at "bd") => `(tactic| first | exact nb (by omega) (by omega) (by decide) | decide +kernel)
local macro_rules | `(tactic| walk_at "stp") => `(tactic| first
  | refine ok_s ?_
  | refine ok_mod (by omega) ?_
  | refine ok_shortL (by first | (simp only [List.length_nil, List.length_cons, List.length_map, List.length_append]; done) | (simp only [List.length_nil, List.length_cons, List.length_map, List.length_append]; omega) | omega) ?_
  | refine ok_div (by omega) (by walk_at "bd") ?_
  | refine ok_mul (by walk_at "bd") (by walk_at "bd") ?_
  | refine ok_fits (by first | omega | (simp only [List.length_nil, List.length_cons, List.length_map, List.length_append]; done) | (simp only [List.length_nil, List.length_cons, List.length_map, List.length_append]; omega)) ?_
  | refine ok_short (by first | omega | (simp only [List.length_nil, List.length_cons, List.length_map, List.length_append]; done) | (simp only [List.length_nil, List.length_cons, List.length_map, List.length_append]; omega)) ?_)
local macro_rules | `(tactic| walk_at "stps") => `(tactic| repeat (first | walk_at "stp" | refine ok_e p10_30 ?_ | refine ok_e p10_31 ?_ | refine ok_e p10_29 ?_ | refine ok_e p10_40 ?_ | refine ok_e p10_5 ?_ | refine ok_e p10_15 ?_ | refine ok_e p10_20 ?_ | refine ok_e p10_28 ?_))
theorem k_is_integer (v : Int) : G_is_integer v = some true := by unfold G_is_integer; simp [isiI, Option.bnd_some]
theorem k_is_between (v a b : Int) : G_is_between v a b = some (decide (a ≤ v) && decide (v ≤ b)) := by unfold G_is_between; rw [k_is_integer]; simp [Option.bnd_some]
def SrcOk (zs : List Int) (N : Nat) : Prop := ∃ x y z : Int, zs = [x, y, z] ∧ 0 ≤ y ∧ y < 2 ^ 300 ∧ 0 ≤ z ∧ z ≤ N
theorem SrcOk.le {zs : List Int} {N N' : Nat} (h : SrcOk zs N) (k : N ≤ N') : SrcOk zs N' := by
  obtain ⟨x, y, z, e, h1, h2, h3, h4⟩ := h
  exact ⟨x, y, z, e, h1, h2, h3, by omega⟩
theorem natAbs_lt {a : Int} {n : Nat} (h0 : 0 ≤ a) (h : a < 2 ^ n) : a.natAbs < 2 ^ n := by
  have : ((a.natAbs : Nat) : Int) < ((2 ^ n : Nat) : Int) := by
    rw [Int.natAbs_of_nonneg h0]
    simpa using h
  omega
theorem up {a n m : Nat} (h : a < 2 ^ n) (k : n ≤ m) : a < 2 ^ m := Nat.lt_of_lt_of_le h (Nat.pow_le_pow_right (by decide) k)
theorem k_draw {zs : List Int} {c : Int} {N : Nat} (hs : SrcOk zs N) (hN : N < 2 ^ 200) (hc : 0 < c) (h2 : c < 2 ^ 300) : ∃ k zs', G_law_draw zs c = some (k, zs') ∧ 0 ≤ k ∧ k < c ∧ SrcOk zs' (N + 1) := by
  obtain ⟨x, y, z, rfl, y0, y1, z0, z1⟩ := hs
  have c8 : c.natAbs < 2 ^ 8000 := up (natAbs_lt (by omega) h2) (by decide)
  have md : ∀ x, gMod x c = some (x % c) := fun x => gMod_of hc
  have dv : ∀ x, gDiv x c = some (x / c) := fun x => gDiv_of hc c8
  have z2 : (z + 1) < 2 ^ 201 := by
    have : (N : Int) < 2 ^ 200 := by exact_mod_cast hN
    omega
  have m1 : gMul 900007 (z + 1) = some (900007 * (z + 1)) := gMul_of (by decide +kernel) (up (natAbs_lt (by omega) z2) (by decide))
  have b1 : (y + 900007 * (z + 1)).natAbs < 2 ^ 301 := natAbs_lt (by omega) (by omega)
  have p1 : gPow (y + 900007 * (z + 1)) 3 = some ((y + 900007 * (z + 1)) ^ (3 : Int).toNat) := gPow_of (by decide) (by decide) (up b1 (by decide))
  have o39 : ∀ x, gMod x (10 ^ 39 + 3) = some (x % (10 ^ 39 + 3)) := fun x => gMod_of (by decide)
  have o40 : ∀ x, gMod x (10 ^ 40 + 121) = some (x % (10 ^ 40 + 121)) := fun x => gMod_of (by decide)
  have q0 : ∀ w : Int, 0 ≤ w % (10 ^ 39 + 3) ∧ w % (10 ^ 39 + 3) < 10 ^ 39 + 3 := fun w => ⟨Int.emod_nonneg _ (by decide), Int.emod_lt_of_pos _ (by decide)⟩
  have m2 : ∀ w, gMul (w % (10 ^ 39 + 3)) (z + 1) = some (w % (10 ^ 39 + 3) * (z + 1)) := fun w => gMul_of (up (natAbs_lt (n := 200) (q0 w).1 (by have := (q0 w).2; omega)) (by decide)) (up (natAbs_lt (by omega) z2) (by decide))
  have p2 : ∀ w, gPow (w % (10 ^ 39 + 3) * (z + 1) + 60013) 3 = some ((w % (10 ^ 39 + 3) * (z + 1) + 60013) ^ (3 : Int).toNat) := fun w => gPow_of (by decide) (by decide) (up (n := 403) (by
    have a := natAbs_lt (n := 200) (q0 w).1 (by have := (q0 w).2; omega)
    have b := natAbs_lt (n := 201) (by omega) z2
    have e : (w % (10 ^ 39 + 3) * (z + 1)).natAbs < 2 ^ 401 := by
      rw [Int.natAbs_mul]
      exact Nat.lt_of_lt_of_le (Nat.mul_lt_mul'' a b) (by rw [← Nat.pow_add]; exact Nat.pow_le_pow_right (by decide) (by decide))
    omega) (by decide))
  have dd : ∀ x, gDiv x 104729 = some (x / 104729) := fun x => gDiv_of (by decide) (by decide +kernel)
  have j0 : ixN [x, y, z].length 0 = some 0 := ix3_0
  have j2 : ixN [x, y, z].length 2 = some 2 := ix3_2
  have st2 : [x, y, z].set 2 (z + 1) = [x, y, z + 1] := rfl
  unfold G_law_draw
  simp only [at3_0, Option.bnd_some, decide_eq_true_eq]
  by_cases hx : 0 < x
  · simp only [hx, if_true, md, dv, j0, Option.bnd_some, letO_eq]
    exact ⟨_, _, rfl, Int.emod_nonneg _ (by omega), Int.emod_lt_of_pos _ hc, _, _, _, rfl, y0, y1, z0, by omega⟩
  · simp only [hx, if_false, at3_1, at3_2, j2, st2, m1, p1, p10_39, o39, m2, p2, p10_40, o40, dd, md, Option.bnd_some, letO_eq]
    exact ⟨_, _, rfl, Int.emod_nonneg _ (by omega), Int.emod_lt_of_pos _ hc, _, _, _, rfl, y0, y1, by omega, by omega⟩
theorem ok_draw {β : Type} {zs : List Int} {c : Int} {N : Nat} {f : Int × List Int → Option β} {Q : β → Prop} (hs : SrcOk zs N) (hN : N < 2 ^ 200) (hc : 0 < c) (h2 : c < 2 ^ 300) (K : ∀ k zs', 0 ≤ k → k < c → SrcOk zs' (N + 1) → Ok (f (k, zs')) Q) : Ok ((G_law_draw zs c).bnd f) Q := by
  obtain ⟨k, zs', e, h0, h1, s⟩ := k_draw hs hN hc h2
  exact ok_e e (K k zs' h0 h1 s)
theorem k_law_source (cell : Int) (k : Nat) (hk : (k : Int) ≤ 100) : ∃ zs, G_law_source cell (k : Int) = some zs ∧ SrcOk zs 0 := by
  have md : ∀ x, gMod x (10 ^ 44 + 31) = some (x % (10 ^ 44 + 31)) := fun x => gMod_of (by decide)
  have q0 : ∀ w : Int, 0 ≤ w % (10 ^ 44 + 31) ∧ w % (10 ^ 44 + 31) < 10 ^ 44 + 31 := fun w => ⟨Int.emod_nonneg _ (by decide), Int.emod_lt_of_pos _ (by decide)⟩
  have m1 : ∀ w, gMul (w % (10 ^ 44 + 31)) 97 = some (w % (10 ^ 44 + 31) * 97) := fun w => gMul_of (up (natAbs_lt (n := 200) (q0 w).1 (by have := (q0 w).2; omega)) (by decide)) (by decide +kernel)
  have m2 : gMul 2 (k : Int) = some (2 * (k : Int)) := gMul_of (by decide +kernel) (up (natAbs_lt (n := 10) (by omega) (by omega)) (by decide))
  have s3 : ∀ a b c : Int, shortL [a, b, c] = some [a, b, c] := fun _ _ _ => shortL_of (Nat.le_of_ble_eq_true rfl)
  unfold G_law_source
  simp only [p10_18, p10_44, md, m1, m2, s3, Option.bnd_some, letO_eq]
  refine ⟨_, rfl, _, _, _, rfl, ?_, ?_, by omega, by omega⟩
  · have := (q0 (if cell < 0 then -cell else cell)).1
    split <;> omega
  · have := (q0 (if cell < 0 then -cell else cell)).2
    split <;> omega
theorem ok_source {β : Type} {cell : Int} {k : Int} {f : List Int → Option β} {Q : β → Prop} (h0 : 0 ≤ k) (hk : k ≤ 100) (K : ∀ zs, SrcOk zs 0 → Ok (f zs) Q) : Ok ((G_law_source cell k).bnd f) Q := by
  obtain ⟨n, rfl⟩ : ∃ n : Nat, k = n := ⟨k.toNat, by omega⟩
  obtain ⟨zs, e, s⟩ := k_law_source cell n hk
  exact ok_e e (K zs s)
/-- the first of a script, with their places -/
theorem cut_head {script : List Int} (hs : script.length ≤ 63) {k : Int} (k1 : 1 ≤ k) : ∀ x ∈ enumL (cutL (script ++ [0]) none (some k)), 0 ≤ x.1 ∧ x.1 ≤ 100 := by
  intro x hx
  obtain ⟨n, e, h⟩ := enumL_mem hx
  have := (List.getElem?_eq_some_iff.mp h).1
  have l : (cutL (script ++ [0]) none (some k)).length ≤ 64 := by
    unfold cutL
    rw [List.length_take, List.length_drop]
    show min _ ((script ++ [0]).length - _) ≤ 64
    rw [List.length_append]
    simp
    omega
  omega
end
end N01
namespace N01
open PySem PySem.Spec PyProof.Rows L2 Rg Rm
open Rm.Enc (rel)
open Rm.Slots (srels)
section
local macro_rules | `(tactic| walk_at "bd") => `(tactic| first | exact nb (by omega) (by omega) (by decide) | decide +kernel)
local macro_rules | `(tactic| walk_at "stp") => `(tactic| first
  | refine ok_s ?_
  | refine ok_mod (by omega) ?_
  | refine ok_shortL (by first | (simp only [List.length_nil, List.length_cons, List.length_map, List.length_append]; done) | (simp only [List.length_nil, List.length_cons, List.length_map, List.length_append]; omega) | omega) ?_
  | refine ok_div (by omega) (by walk_at "bd") ?_
  | refine ok_mul (by walk_at "bd") (by walk_at "bd") ?_
  | refine ok_fits (by first | omega | (simp only [List.length_nil, List.length_cons, List.length_map, List.length_append]; done) | (simp only [List.length_nil, List.length_cons, List.length_map, List.length_append]; omega)) ?_
  | refine ok_short (by first | omega | (simp only [List.length_nil, List.length_cons, List.length_map, List.length_append]; done) | (simp only [List.length_nil, List.length_cons, List.length_map, List.length_append]; omega)) ?_)
local macro_rules | `(tactic| walk_at "stps") => `(tactic| repeat (first | walk_at "stp" | refine ok_e p10_30 ?_ | refine ok_e p10_31 ?_ | refine ok_e p10_29 ?_ | refine ok_e p10_40 ?_ | refine ok_e p10_5 ?_ | refine ok_e p10_15 ?_ | refine ok_e p10_20 ?_ | refine ok_e p10_28 ?_))
/-! ### rings -/
def RecF (w : Int) (p : Int × Int) : Prop := 0 ≤ p.1 ∧ p.1 < w ∧ 1 ≤ p.2 ∧ p.2 ≤ 10 ^ 31
structure RingF (w : Int) (lot : List (Int × Int)) : Prop where
  w1 : 1 ≤ w
  w2 : w ≤ 10 ^ 30
  n1 : 1 ≤ lot.length
  n2 : lot.length ≤ 30
  rc : ∀ p ∈ lot, RecF w p
theorem RingF.bg {w : Int} {lot : List (Int × Int)} (R : RingF w lot) : ∀ p ∈ lot, 0 ≤ p.1 ∧ p.1 < w := fun p hp => ⟨(R.rc p hp).1, (R.rc p hp).2.1⟩
def endF (w : Int) (p : Int × Int) : Int := (p.1 + p.2) % w
def lens (lot : List (Int × Int)) : List Int := lot.map Prod.snd
end
end N01
namespace N01
open PySem PySem.Spec PyProof.Rows L2 Rg Rm
open Rm.Enc (rel)
open Rm.Slots (srels)
local macro_rules | `(tactic| walk_at "mir") => `(tactic| first | done | simp (config := { failIfUnchanged := false }) only [e_run, e_runU, e_runS, e_pur, e_bnd, e_lft, e_op1, e_op2, e_rdv, e_rdo, e_giv, e_takM, e_rdS, e_ixSM, e_ixO, e_srcM, e_andM, e_orM, e_ifM, e_chainM, e_nilM, e_consM, e_nilA, e_consA, e_slice, e_lcM, e_nextM, e_seqM, e_retM, e_dropM, e_ifS, e_asgM, e_parM, e_par3M, e_parOM, e_par3OM, e_augM, e_forM, e_rdd, e_dgetM, e_dputM, e_popM, e_appM, e_setM, e_setSM, e_pName, e_pTwo, e_pTri, e_pOwn, e_wnil, e_wcons, e_hget, e_hput, e_tget, e_tput, at3_0, at3_1, at3_2, ix3_0, ix3_2, o_bs, o_bn, o_ms, o_mn, List.length_cons, List.length_nil, List.set_cons_zero, List.set_cons_succ, decide_eq_true_eq, if_true, if_false, ite_true, ite_false, Bool.false_eq_true, Bool.true_eq_false, decide_true, decide_false, Bool.not_true, Bool.not_false, Nat.reduceAdd, Nat.zero_add])
local macro_rules | `(tactic| walk_at "mih") => `(tactic| first | done | simp (config := { failIfUnchanged := false }) only [e_run, e_runU, e_runS, e_pur, e_bnd, e_lft, e_op1, e_op2, e_rdv, e_rdo, e_giv, e_takM, e_rdS, e_ixSM, e_ixO, e_srcM, e_andM, e_orM, e_ifM, e_chainM, e_nilM, e_consM, e_nilA, e_consA, e_slice, e_lcM, e_nextM, e_seqM, e_retM, e_dropM, e_ifS, e_asgM, e_parM, e_par3M, e_parOM, e_par3OM, e_augM, e_forM, e_rdd, e_dgetM, e_dputM, e_popM, e_appM, e_setM, e_setSM, e_pName, e_pTwo, e_pTri, e_pOwn, e_wnil, e_wcons, e_hget, e_hput, e_tget, e_tput, at3_0, at3_1, at3_2, ix3_0, ix3_2, o_bs, o_bn, o_ms, o_mn, List.length_cons, List.length_nil, List.set_cons_zero, List.set_cons_succ, decide_eq_true_eq, if_true, if_false, ite_true, ite_false, Bool.false_eq_true, Bool.true_eq_false, decide_true, decide_false, Bool.not_true, Bool.not_false, Nat.reduceAdd, Nat.zero_add, *])
/-! ### orders: the mathematics -/
structure OrdOk (n : Nat) (ns : List Int) : Prop where
  len : ns.length = n
  rng : ∀ x ∈ ns, 0 ≤ x ∧ x < n
  nd : ns.Nodup
def nthP (lot : List (Int × Int)) (k : Int) : Int × Int := lot.getD k.toNat (0, 0)
def waitP (w : Int) (p q : Int × Int) : Int := (q.1 - (p.1 + p.2) % w) % w
def waitsF (w : Int) (lot : List (Int × Int)) (ns : List Int) : List Int := (ns.zip (ns.drop 1 ++ ns.take 1)).map fun x => waitP w (nthP lot x.1) (nthP lot x.2)
def stepB (w : Int) (lot : List (Int × Int)) (m : Int) (s : List Int × Int) (k : Int) : List Int × Int :=
  (s.1 ++ [s.2 + ((nthP lot k).1 - m - s.2) % w], s.2 + ((nthP lot k).1 - m - s.2) % w + (nthP lot k).2)
def beginsF (w : Int) (lot : List (Int × Int)) (m : Int) (ns : List Int) : List Int × Int := ns.foldl (stepB w lot m) ([], 0)
def movedF (w by_ : Int) (lot : List (Int × Int)) : List (Int × Int) := lot.map fun p => ((p.1 + by_) % w, p.2)
theorem take_one_more {α : Type} {l : List α} {i : Nat} {x : α} (h : l[i]? = some x) : l.take (i + 1) = l.take i ++ [x] := by
  rw [List.take_add_one, h]
  rfl
theorem beginsF_more {w m : Int} {lot : List (Int × Int)} {ns : List Int} {i : Nat} {k : Int} (h : ns[i]? = some k) : beginsF w lot m (ns.take (i + 1)) = stepB w lot m (beginsF w lot m (ns.take i)) k := by
  unfold beginsF
  rw [take_one_more h, List.foldl_append]
  rfl
theorem beginsF_len (w m : Int) (lot : List (Int × Int)) (ns : List Int) : (beginsF w lot m ns).1.length = ns.length := by
  have go : ∀ (l : List Int) (s : List Int × Int), (l.foldl (stepB w lot m) s).1.length = s.1.length + l.length := by
    intro l
    induction l with
    | nil => intro s; rfl
    | cons k l ih =>
      intro s
      rw [List.foldl_cons, ih]
      show (s.1 ++ [_]).length + l.length = s.1.length + (l.length + 1)
      rw [List.length_append, List.length_singleton]
      omega
  have h := go ns ([], 0)
  rw [show (([], 0) : List Int × Int).1.length = 0 from rfl] at h
  unfold beginsF
  omega
theorem waits_len (w : Int) (lot : List (Int × Int)) (ns : List Int) : (waitsF w lot ns).length = ns.length := by
  unfold waitsF
  rw [List.length_map, List.length_zip, List.length_append, List.length_drop, List.length_take]
  omega
theorem after_get {ns : List Int} {i : Nat} (hi : i < ns.length) : ∃ a, (ns.drop 1 ++ ns.take 1)[i]? = some a ∧ a ∈ ns := by
  have hl : (ns.drop 1 ++ ns.take 1).length = ns.length := by
    rw [List.length_append, List.length_drop, List.length_take]
    omega
  have h2 : i < (ns.drop 1 ++ ns.take 1).length := by omega
  refine ⟨_, List.getElem?_eq_getElem h2, ?_⟩
  have hm := List.getElem_mem h2
  rcases List.mem_append.mp hm with h | h
  · exact List.mem_of_mem_drop h
  · exact List.mem_of_mem_take h
def lensO (lot : List (Int × Int)) (ns : List Int) : List Int := ns.map fun k => (nthP lot k).2
theorem after_mod {ns : List Int} {i : Nat} (hi : i < ns.length) : (ns.drop 1 ++ ns.take 1)[i]? = ns[(i + 1) % ns.length]? := by
  by_cases h : i + 1 < ns.length
  · rw [Nat.mod_eq_of_lt h, List.getElem?_append_left (by rw [List.length_drop]; omega), List.getElem?_drop, Nat.add_comm]
  · have e : i + 1 = ns.length := by omega
    rw [e, Nat.mod_self, List.getElem?_append_right (by rw [List.length_drop]; omega), List.length_drop]
    have e2 : i - (ns.length - 1) = 0 := by omega
    rw [e2, List.getElem?_take_of_lt (by decide)]
theorem begins_last (w m : Int) (lot : List (Int × Int)) {ns : List Int} {k : Int} (h : ns.getLast? = some k) : ∃ b, (beginsF w lot m ns).1.getLast? = some b ∧ b + (nthP lot k).2 = (beginsF w lot m ns).2 := by
  have hl : ns ≠ [] := fun e => by
    subst e
    cases h
  obtain ⟨r, rfl⟩ := List.getLast?_eq_some_iff.mp h
  unfold beginsF
  rw [List.foldl_append]
  refine ⟨_, ?_, rfl⟩
  show (_ ++ [_]).getLast? = _
  rw [List.getLast?_concat]
theorem perm_erase : ∀ {ns : List Int} {j : Nat} {x : Int}, ns[j]? = some x → (x :: ns.eraseIdx j).Perm ns
  | [], j, x, h => by simp at h
  | a :: r, 0, x, h => by
    have e : a = x := Option.some.inj h
    subst e
    exact List.Perm.refl _
  | a :: r, j + 1, x, h => by
    have ih := perm_erase (ns := r) (j := j) (x := x) h
    exact (List.Perm.swap a x (r.eraseIdx j)).trans (List.Perm.cons a ih)
theorem OrdOk.perm {n : Nat} {ns ms : List Int} (h : OrdOk n ns) (p : ms.Perm ns) : OrdOk n ms :=
  ⟨p.length_eq.trans h.len, fun x hx => h.rng x (p.mem_iff.mp hx), p.nodup_iff.mpr h.nd⟩
def upI (n : Nat) : List Int := (List.range n).map Int.ofNat
theorem ordok_up (n : Nat) : OrdOk n (upI n) := by
  refine ⟨by unfold upI; rw [List.length_map, List.length_range], fun x hx => ?_, ?_⟩
  · unfold upI at hx
    obtain ⟨i, hi, rfl⟩ := List.mem_map.mp hx
    rw [List.mem_range] at hi
    show 0 ≤ (i : Int) ∧ (i : Int) < n
    omega
  · unfold upI
    refine (List.pairwise_map.mpr ?_)
    exact (List.nodup_range (n := n)).imp fun h e => h (Int.ofNat_inj.mp e)
theorem sum_perm {xs ys : List Int} (h : xs.Perm ys) : xs.sum = ys.sum := by
  induction h with
  | nil => rfl
  | cons x _ ih => rw [List.sum_cons, List.sum_cons, ih]
  | swap x y l =>
    rw [List.sum_cons, List.sum_cons, List.sum_cons, List.sum_cons]
    omega
  | trans _ _ h1 h2 => rw [h1, h2]
theorem up_lens (lot : List (Int × Int)) : lensO lot (upI lot.length) = lens lot := by
  unfold lensO lens upI
  rw [List.map_map]
  refine List.ext_getElem? fun i => ?_
  rw [List.getElem?_map, List.getElem?_map]
  by_cases h : i < lot.length
  · rw [List.getElem?_eq_getElem h, List.getElem?_range h]
    show some (nthP lot (i : Int)).2 = some lot[i].2
    unfold nthP
    rw [Int.toNat_natCast, List.getD_eq_getElem?_getD, List.getElem?_eq_getElem h]
    rfl
  · rw [List.getElem?_eq_none (by rw [List.length_range]; omega), List.getElem?_eq_none (by omega)]
    rfl
theorem lensO_sum {lot : List (Int × Int)} {ns : List Int} (h : ns.Perm (upI lot.length)) : (lensO lot ns).sum = (lens lot).sum := by
  rw [← up_lens]
  exact sum_perm (h.map _)
/-- the waits along a list, to the begin of a last record -/
def wchain (w : Int) (lot : List (Int × Int)) (k : Int) : List Int → Int → List Int
  | [], z => [waitP w (nthP lot k) (nthP lot z)]
  | a :: r, z => waitP w (nthP lot k) (nthP lot a) :: wchain w lot a r z
theorem waits_chain (w : Int) (lot : List (Int × Int)) (k : Int) (r : List Int) : waitsF w lot (k :: r) = wchain w lot k r k := by
  have go : ∀ (r : List Int) (a z : Int), ((a :: r).zip (r ++ [z])).map (fun x => waitP w (nthP lot x.1) (nthP lot x.2)) = wchain w lot a r z := by
    intro r
    induction r with
    | nil => intro a z; rfl
    | cons b r ih =>
      intro a z
      rw [List.cons_append, List.zip_cons_cons, List.map_cons, ih]
      rfl
  exact go r k k
/-- lengths and waits along a chain: from the begin of the first one to that of the last one, whole rounds more -/
theorem chain_mod {w : Int} (lot : List (Int × Int)) : ∀ (r : List Int) (k z : Int), ∃ q : Int, (wchain w lot k r z).sum + (lensO lot (k :: r)).sum = (nthP lot z).1 - (nthP lot k).1 + w * q
  | [], k, z => by
    have h1 := Int.emod_add_mul_ediv ((nthP lot z).1 - ((nthP lot k).1 + (nthP lot k).2) % w) w
    have h2 := Int.emod_add_mul_ediv ((nthP lot k).1 + (nthP lot k).2) w
    refine ⟨((nthP lot k).1 + (nthP lot k).2) / w - ((nthP lot z).1 - ((nthP lot k).1 + (nthP lot k).2) % w) / w, ?_⟩
    rw [Int.mul_sub]
    show [waitP w (nthP lot k) (nthP lot z)].sum + [(nthP lot k).2].sum = _
    rw [List.sum_cons, List.sum_nil, List.sum_cons, List.sum_nil]
    unfold waitP
    omega
  | a :: r, k, z => by
    obtain ⟨q, e⟩ := chain_mod (w := w) lot r a z
    have h1 := Int.emod_add_mul_ediv ((nthP lot a).1 - ((nthP lot k).1 + (nthP lot k).2) % w) w
    have h2 := Int.emod_add_mul_ediv ((nthP lot k).1 + (nthP lot k).2) w
    refine ⟨q + (((nthP lot k).1 + (nthP lot k).2) / w - ((nthP lot a).1 - ((nthP lot k).1 + (nthP lot k).2) % w) / w), ?_⟩
    rw [Int.mul_add, Int.mul_sub]
    show (waitP w (nthP lot k) (nthP lot a) :: wchain w lot a r z).sum + ((nthP lot k).2 :: lensO lot (a :: r)).sum = _
    rw [List.sum_cons, List.sum_cons]
    unfold waitP
    omega
theorem lap_rounds_all {w : Int} (hw : 1 ≤ w) {lot : List (Int × Int)} {ns : List Int} (h : ns.Perm (upI lot.length)) (hn : 1 ≤ lot.length) : ((waitsF w lot ns).sum + (lens lot).sum) / w * w = (waitsF w lot ns).sum + (lens lot).sum := by
  cases ns with
  | nil =>
    have e := h.length_eq
    rw [(ordok_up lot.length).len] at e
    simp at e
    omega
  | cons k r =>
    obtain ⟨q, e⟩ := chain_mod (w := w) lot r k k
    rw [waits_chain, ← lensO_sum h, e]
    have e2 : (nthP lot k).1 - (nthP lot k).1 + w * q = w * q := by omega
    rw [e2, Int.mul_ediv_cancel_left q (by omega), Int.mul_comm]
/-- a trip from the begin of its first record: the end is the waits but the last one, and the lengths -/
theorem trip_chain {w : Int} (hw : 1 ≤ w) (lot : List (Int × Int)) (m : Int) : ∀ (r : List Int) (k z t : Int) (bs : List Int), (∃ q, t = (nthP lot k).1 + (nthP lot k).2 - m + w * q) →
    ∃ l, (wchain w lot k r z).getLast? = some l ∧ (r.foldl (stepB w lot m) (bs, t)).2 + l = t + (wchain w lot k r z).sum + (lensO lot r).sum
  | [], k, z, t, bs, _ => ⟨_, rfl, by
    show t + waitP w (nthP lot k) (nthP lot z) = t + [waitP w (nthP lot k) (nthP lot z)].sum + ([] : List Int).sum
    rw [List.sum_cons, List.sum_nil]
    omega⟩
  | a :: r, k, z, t, bs, ⟨q, e⟩ => by
    have ew : ((nthP lot a).1 - m - t) % w = waitP w (nthP lot k) (nthP lot a) := by
      unfold waitP
      have h2 := Int.emod_add_mul_ediv ((nthP lot k).1 + (nthP lot k).2) w
      have e2 : (nthP lot a).1 - m - t = (nthP lot a).1 - ((nthP lot k).1 + (nthP lot k).2) % w + w * (-(((nthP lot k).1 + (nthP lot k).2) / w) - q) := by
        rw [Int.mul_sub, Int.mul_neg]
        omega
      rw [e2, Int.add_mul_emod_self_left]
    obtain ⟨l, e1, e2⟩ := trip_chain hw lot m r a z (t + waitP w (nthP lot k) (nthP lot a) + (nthP lot a).2) (bs ++ [t + waitP w (nthP lot k) (nthP lot a)]) (by
      have h1 := Int.emod_add_mul_ediv ((nthP lot a).1 - m - t) w
      refine ⟨-(((nthP lot a).1 - m - t) / w), ?_⟩
      rw [Int.mul_neg, ← ew]
      omega)
    refine ⟨l, ?_, ?_⟩
    · show (_ :: wchain w lot a r z).getLast? = _
      rw [List.getLast?_cons, e1]
      rfl
    · rw [List.foldl_cons]
      have es : stepB w lot m (bs, t) a = (bs ++ [t + waitP w (nthP lot k) (nthP lot a)], t + waitP w (nthP lot k) (nthP lot a) + (nthP lot a).2) := by
        unfold stepB
        rw [ew]
      rw [es, e2]
      show _ = t + (waitP w (nthP lot k) (nthP lot a) :: wchain w lot a r z).sum + ((nthP lot a).2 :: lensO lot r).sum
      rw [List.sum_cons, List.sum_cons]
      omega
theorem trip_lap {w : Int} (hw : 1 ≤ w) (lot : List (Int × Int)) (k : Int) (r : List Int) : ∃ l, (waitsF w lot (k :: r)).getLast? = some l ∧ (beginsF w lot (nthP lot k).1 (k :: r)).2 + l = (waitsF w lot (k :: r)).sum + (lensO lot (k :: r)).sum := by
  rw [waits_chain]
  obtain ⟨l, e1, e2⟩ := trip_chain hw lot (nthP lot k).1 r k k (0 + ((nthP lot k).1 - (nthP lot k).1 - 0) % w + (nthP lot k).2) ([] ++ [0 + ((nthP lot k).1 - (nthP lot k).1 - 0) % w]) ⟨0, by
    have e : (nthP lot k).1 - (nthP lot k).1 - 0 = 0 := by omega
    rw [e, Int.zero_emod]
    omega⟩
  refine ⟨l, e1, ?_⟩
  unfold beginsF
  rw [List.foldl_cons]
  show (r.foldl (stepB w lot (nthP lot k).1) ([] ++ [0 + ((nthP lot k).1 - (nthP lot k).1 - 0) % w], 0 + ((nthP lot k).1 - (nthP lot k).1 - 0) % w + (nthP lot k).2)).2 + l = _
  rw [e2]
  have e : (nthP lot k).1 - (nthP lot k).1 - 0 = 0 := by omega
  rw [e, Int.zero_emod]
  show _ = _ + ((nthP lot k).2 :: lensO lot r).sum
  rw [List.sum_cons]
  omega
/-! a lap turned -/
theorem waits_rot (w : Int) (lot : List (Int × Int)) (xs ys : List Int) : waitsF w lot (ys ++ xs) = (waitsF w lot (xs ++ ys)).drop xs.length ++ (waitsF w lot (xs ++ ys)).take xs.length := by
  cases xs with
  | nil => simp
  | cons x xs =>
    cases ys with
    | nil =>
      rw [List.append_nil, List.nil_append]
      have hl : (waitsF w lot (x :: xs)).length = (x :: xs).length := by
        unfold waitsF
        rw [List.length_map, List.length_zip, List.length_append, List.length_drop, List.length_take]
        simp
      rw [List.drop_of_length_le (by omega), List.take_of_length_le (by omega)]
      rfl
    | cons y ys =>
      have ch : ∀ (a : List Int) (k b z : Int) (c : List Int), wchain w lot k (a ++ b :: c) z = wchain w lot k a b ++ wchain w lot b c z := by
        intro a
        induction a with
        | nil => intro k b z c; rfl
        | cons d a ih =>
          intro k b z c
          rw [List.cons_append]
          show _ :: wchain w lot d (a ++ b :: c) z = _
          rw [ih]
          rfl
      have cl : ∀ (a : List Int) (k z : Int), (wchain w lot k a z).length = a.length + 1 := by
        intro a
        induction a with
        | nil => intro k z; rfl
        | cons d a ih =>
          intro k z
          show (_ :: wchain w lot d a z).length = _
          rw [List.length_cons, ih, List.length_cons]
      rw [List.cons_append, List.cons_append, waits_chain, waits_chain, ch, ch]
      have e : (wchain w lot x xs y).length = (x :: xs).length := by rw [cl, List.length_cons]
      rw [← e, List.drop_left, List.take_left]
/-! moved around -/
theorem nthP_moved {w b : Int} {lot : List (Int × Int)} {k : Int} (h0 : 0 ≤ k) (h1 : k < lot.length) : nthP (movedF w b lot) k = (((nthP lot k).1 + b) % w, (nthP lot k).2) := by
  have hk : k.toNat < lot.length := by omega
  unfold nthP movedF
  rw [List.getD_eq_getElem?_getD, List.getD_eq_getElem?_getD, List.getElem?_map, List.getElem?_eq_getElem hk]
  rfl
theorem waitP_moved (w b : Int) (p q : Int × Int) : waitP w ((p.1 + b) % w, p.2) ((q.1 + b) % w, q.2) = waitP w p q := by
  unfold waitP
  show ((q.1 + b) % w - ((p.1 + b) % w + p.2) % w) % w = _
  rw [Int.sub_emod, Int.emod_emod, Int.emod_emod, Int.emod_add_emod, ← Int.sub_emod, Int.sub_emod q.1, Int.emod_emod, ← Int.sub_emod]
  congr 1
  omega
theorem waits_moved {w b : Int} {lot : List (Int × Int)} {ns : List Int} (h : OrdOk lot.length ns) : waitsF w (movedF w b lot) ns = waitsF w lot ns := by
  unfold waitsF
  refine List.map_congr_left fun x hx => ?_
  obtain ⟨m1, m2⟩ := List.of_mem_zip (a := x.1) (b := x.2) hx
  have m2' : x.2 ∈ ns := by
    rcases List.mem_append.mp m2 with q | q
    · exact List.mem_of_mem_drop q
    · exact List.mem_of_mem_take q
  have r1 := h.rng _ m1
  have r2 := h.rng _ m2'
  rw [nthP_moved r1.1 (by omega), nthP_moved r2.1 (by omega), waitP_moved]
theorem begins_moved {w b m : Int} {lot : List (Int × Int)} {ns : List Int} (h : ∀ x ∈ ns, 0 ≤ x ∧ x < lot.length) : beginsF w (movedF w b lot) ((m + b) % w) ns = beginsF w lot m ns := by
  have go : ∀ (ns : List Int) (s : List Int × Int), (∀ x ∈ ns, 0 ≤ x ∧ x < lot.length) → ns.foldl (stepB w (movedF w b lot) ((m + b) % w)) s = ns.foldl (stepB w lot m) s := by
    intro ns
    induction ns with
    | nil => intro s _; rfl
    | cons k r ih =>
      intro s h
      have hk := h k (List.mem_cons_self ..)
      rw [List.foldl_cons, List.foldl_cons, ih _ fun x hx => h x (List.mem_cons_of_mem _ hx)]
      congr 1
      unfold stepB
      rw [nthP_moved hk.1 hk.2]
      have e : (((nthP lot k).1 + b) % w - (m + b) % w - s.2) % w = ((nthP lot k).1 - m - s.2) % w := by
        rw [Int.sub_emod, ← Int.sub_emod ((nthP lot k).1 + b), ← Int.sub_emod]
        congr 1
        omega
      show (s.1 ++ [s.2 + (((nthP lot k).1 + b) % w - (m + b) % w - s.2) % w], s.2 + (((nthP lot k).1 + b) % w - (m + b) % w - s.2) % w + (nthP lot k).2) = _
      rw [e]
  exact go ns _ h
theorem movedF_len (w b : Int) (lot : List (Int × Int)) : (movedF w b lot).length = lot.length := by
  unfold movedF
  exact List.length_map _
theorem sum_bound {B : Int} : ∀ {l : List Int}, (∀ x ∈ l, 0 ≤ x ∧ x ≤ B) → 0 ≤ l.sum ∧ l.sum ≤ l.length * B
  | [], _ => by simp
  | a :: r, h => by
    have h1 := h a (List.mem_cons_self ..)
    have h2 := sum_bound (B := B) (l := r) fun x hx => h x (List.mem_cons_of_mem _ hx)
    rw [List.sum_cons, List.length_cons]
    have e : (((r.length + 1 : Nat)) : Int) * B = r.length * B + B := by
      rw [Int.natCast_add, Int.add_mul, Int.natCast_one, Int.one_mul]
    rw [e]
    omega
theorem waits_mem {w : Int} (hw : 1 ≤ w) {lot : List (Int × Int)} {ns : List Int} : ∀ x ∈ waitsF w lot ns, 0 ≤ x ∧ x < w := by
  intro x hx
  unfold waitsF at hx
  obtain ⟨p, _, rfl⟩ := List.mem_map.mp hx
  unfold waitP
  exact ⟨Int.emod_nonneg _ (by omega), Int.emod_lt_of_pos _ (by omega)⟩
theorem rounds_bound {w : Int} {lot : List (Int × Int)} {ns : List Int} (R : RingF w lot) (h : OrdOk lot.length ns) : 0 ≤ ((waitsF w lot ns).sum + (lens lot).sum) / w ∧ ((waitsF w lot ns).sum + (lens lot).sum) / w < 2 ^ 150 := by
  have w1 := R.w1
  have w2 := R.w2
  have n2 := R.n2
  have a := sum_bound (B := 10 ^ 30) (l := waitsF w lot ns) fun x hx => by
    have := waits_mem w1 x hx
    omega
  have b := sum_bound (B := 10 ^ 31) (l := lens lot) fun x hx => by
    unfold lens at hx
    obtain ⟨p, hp, rfl⟩ := List.mem_map.mp hx
    have := R.rc p hp
    exact ⟨by have := this.2.2.1; omega, this.2.2.2⟩
  have la : (waitsF w lot ns).length ≤ 30 := by rw [waits_len, h.len]; exact n2
  have lb : (lens lot).length ≤ 30 := by unfold lens; rw [List.length_map]; exact n2
  have la2 : ((waitsF w lot ns).length : Int) * 10 ^ 30 ≤ 30 * 10 ^ 30 := Int.mul_le_mul_of_nonneg_right (by omega) (by decide)
  have lb2 : ((lens lot).length : Int) * 10 ^ 31 ≤ 30 * 10 ^ 31 := Int.mul_le_mul_of_nonneg_right (by omega) (by decide)
  have c0 : 0 ≤ (waitsF w lot ns).sum + (lens lot).sum := by omega
  have c1 := Int.ediv_le_self w c0
  exact ⟨Int.ediv_nonneg c0 (by omega), by omega⟩
theorem ring_moved {w b : Int} {lot : List (Int × Int)} (R : RingF w lot) : RingF w (movedF w b lot) := by
  have w1 := R.w1
  refine ⟨R.w1, R.w2, by rw [movedF_len]; exact R.n1, by rw [movedF_len]; exact R.n2, fun p hp => ?_⟩
  unfold movedF at hp
  obtain ⟨q, hq, rfl⟩ := List.mem_map.mp hp
  have := R.rc q hq
  exact ⟨Int.emod_nonneg _ (by omega), Int.emod_lt_of_pos _ (by omega), this.2.2.1, this.2.2.2⟩
end N01
namespace N01
open PySem PySem.Spec PyProof.Rows L2 Rg Rm
open Rm.Enc (rel)
open Rm.Slots (srels)
section
local macro_rules | `(tactic| walk_at "bd") => `(tactic| first | exact nb (by omega) (by omega) (by decide) | decide +kernel)
local macro_rules | `(tactic| walk_at "stp") => `(tactic| first
  | refine ok_s ?_
  | refine ok_mod (by omega) ?_
  | refine ok_shortL (by first | (simp only [List.length_nil, List.length_cons, List.length_map, List.length_append]; done) | (simp only [List.length_nil, List.length_cons, List.length_map, List.length_append]; omega) | omega) ?_
  | refine ok_div (by omega) (by walk_at "bd") ?_
  | refine ok_mul (by walk_at "bd") (by walk_at "bd") ?_
  | refine ok_fits (by first | omega | (simp only [List.length_nil, List.length_cons, List.length_map, List.length_append]; done) | (simp only [List.length_nil, List.length_cons, List.length_map, List.length_append]; omega)) ?_
  | refine ok_short (by first | omega | (simp only [List.length_nil, List.length_cons, List.length_map, List.length_append]; done) | (simp only [List.length_nil, List.length_cons, List.length_map, List.length_append]; omega)) ?_)
local macro_rules | `(tactic| walk_at "stps") => `(tactic| repeat (first | walk_at "stp" | refine ok_e p10_30 ?_ | refine ok_e p10_31 ?_ | refine ok_e p10_29 ?_ | refine ok_e p10_40 ?_ | refine ok_e p10_5 ?_ | refine ok_e p10_15 ?_ | refine ok_e p10_20 ?_ | refine ok_e p10_28 ?_))
/-! ### the checks, and what they let through -/
theorem k_check_marks {m : Int} (h1 : 1 ≤ m) (h2 : m ≤ 10 ^ 30) : G_check_marks m = some () := by
  unfold G_check_marks
  rw [k_is_between, decide_eq_true h1, decide_eq_true h2]
  simp only [Option.bnd_some, Bool.and_self, Bool.not_true, Bool.false_eq_true, if_false, if_true, Bool.or_false, decide_true, Bool.or_self]
  try rfl
theorem k_is_list {xs : List (Int × Int)} {a b : Int} (h1 : a ≤ xs.length) (h2 : (xs.length : Int) ≤ b) : G_is_list xs a b = some true := by
  unfold G_is_list
  rw [decide_eq_true h1, decide_eq_true h2]
  rfl
theorem lot_atI {lot : List (Int × Int)} {k : Int} (h0 : 0 ≤ k) (h1 : k < lot.length) : atI lot k = some (nthP lot k) := by
  obtain ⟨n, rfl⟩ : ∃ n : Nat, k = n := ⟨k.toNat, by omega⟩
  have hn : n < lot.length := by omega
  rw [atI_nat', List.getElem?_eq_getElem hn]
  unfold nthP
  simp [hn]
theorem nthP_mem {lot : List (Int × Int)} {k : Int} (h0 : 0 ≤ k) (h1 : k < lot.length) : nthP lot k ∈ lot := by
  unfold nthP
  rw [List.getD_eq_getElem?_getD, List.getElem?_eq_getElem (by omega)]
  exact List.getElem_mem _
theorem atI_neg1 {α : Type} {xs : List α} {x : α} (h : xs.getLast? = some x) : atI xs (-1) = some x := by
  have hn : xs ≠ [] := fun e => by rw [e] at h; cases h
  have hl : 0 < xs.length := List.length_pos_iff.mpr hn
  unfold atI ixN
  rw [if_neg (by decide), if_pos (by omega)]
  show xs[((-1 : Int) + (xs.length : Int)).toNat]? = _
  have e : ((-1 : Int) + (xs.length : Int)).toNat = xs.length - 1 := by omega
  rw [e, ← List.getLast?_eq_getElem?, h]
/-! ### laps and trips -/
theorem cut_tail {α : Type} {ns : List α} (h : 1 ≤ ns.length) : cutL ns (some 1) none = ns.drop 1 := by
  unfold cutL
  have e1 : HT.sIx ns.length 0 (some 1) = 1 := by
    unfold HT.sIx
    simp
    omega
  have e2 : HT.sIx ns.length ns.length none = ns.length := rfl
  rw [e1, e2, List.take_of_length_le (by rw [List.length_drop]; omega)]
theorem cut_one {α : Type} {ns : List α} (h : 1 ≤ ns.length) : cutL ns none (some 1) = ns.take 1 := by
  unfold cutL
  have e1 : HT.sIx ns.length ns.length (some 1) = 1 := by
    unfold HT.sIx
    simp
    omega
  have e2 : HT.sIx ns.length 0 none = 0 := rfl
  rw [e1, e2]
  rfl
end
end N01
namespace N01
open PySem PySem.Spec PyProof.Rows L2 Rg Rm
open Rm.Enc (rel)
open Rm.Slots (srels)
local macro_rules | `(tactic| walk_at "mir") => `(tactic| first | done | simp (config := { failIfUnchanged := false }) only [e_run, e_runU, e_runS, e_pur, e_bnd, e_lft, e_op1, e_op2, e_rdv, e_rdo, e_giv, e_takM, e_rdS, e_ixSM, e_ixO, e_srcM, e_andM, e_orM, e_ifM, e_chainM, e_nilM, e_consM, e_nilA, e_consA, e_slice, e_lcM, e_nextM, e_seqM, e_retM, e_dropM, e_ifS, e_asgM, e_parM, e_par3M, e_parOM, e_par3OM, e_augM, e_forM, e_rdd, e_dgetM, e_dputM, e_popM, e_appM, e_setM, e_setSM, e_pName, e_pTwo, e_pTri, e_pOwn, e_wnil, e_wcons, e_hget, e_hput, e_tget, e_tput, at3_0, at3_1, at3_2, ix3_0, ix3_2, o_bs, o_bn, o_ms, o_mn, List.length_cons, List.length_nil, List.set_cons_zero, List.set_cons_succ, decide_eq_true_eq, if_true, if_false, ite_true, ite_false, Bool.false_eq_true, Bool.true_eq_false, decide_true, decide_false, Bool.not_true, Bool.not_false, Nat.reduceAdd, Nat.zero_add])
local macro_rules | `(tactic| walk_at "mih") => `(tactic| first | done | simp (config := { failIfUnchanged := false }) only [e_run, e_runU, e_runS, e_pur, e_bnd, e_lft, e_op1, e_op2, e_rdv, e_rdo, e_giv, e_takM, e_rdS, e_ixSM, e_ixO, e_srcM, e_andM, e_orM, e_ifM, e_chainM, e_nilM, e_consM, e_nilA, e_consA, e_slice, e_lcM, e_nextM, e_seqM, e_retM, e_dropM, e_ifS, e_asgM, e_parM, e_par3M, e_parOM, e_par3OM, e_augM, e_forM, e_rdd, e_dgetM, e_dputM, e_popM, e_appM, e_setM, e_setSM, e_pName, e_pTwo, e_pTri, e_pOwn, e_wnil, e_wcons, e_hget, e_hput, e_tget, e_tput, at3_0, at3_1, at3_2, ix3_0, ix3_2, o_bs, o_bn, o_ms, o_mn, List.length_cons, List.length_nil, List.set_cons_zero, List.set_cons_succ, decide_eq_true_eq, if_true, if_false, ite_true, ite_false, Bool.false_eq_true, Bool.true_eq_false, decide_true, decide_false, Bool.not_true, Bool.not_false, Nat.reduceAdd, Nat.zero_add, *])
/-! ### data that repr shows -/
theorem gRepr_of {α : Type} [Enc α] [EncD α] {x : α} {p w : Nat} (h : Nice (EncD.d x) p w) (hp : p ≤ 20) (hw : w ≤ 100000) : gRepr x = some (EncD.d x).shown := by
  unfold gRepr
  have r := h.repr hp hw
  exact if_pos r
theorem neD_same {α : Type} [Enc α] [EncD α] {x : α} {p w : Nat} (h : Nice (EncD.d x) p w) (hp : p ≤ 64) : neD x x = some false := by
  unfold neD
  rw [if_pos ⟨h.shaped hp, h.shaped hp⟩, PySem.SeqAt.eqv_refl _ h.cl]
  rfl
theorem eqD_same {α : Type} [Enc α] [EncD α] {x : α} {p w : Nat} (h : Nice (EncD.d x) p w) (hp : p ≤ 64) : eqD x x = some true := by
  unfold eqD
  rw [if_pos ⟨h.shaped hp, h.shaped hp⟩, PySem.SeqAt.eqv_refl _ h.cl]
theorem shaped_script (xs : List Int) : SeqAt.shaped (EncD.d xs) = true := by
  have key : ∀ ys : List Int, PyData.canLayAll0 (ys.map EncD.d) = true ∧ PyData.depthAll (ys.map EncD.d) = 0 := by
    intro ys
    induction ys with
    | nil => exact ⟨by simp only [List.map_nil, PyData.canLayAll0], by simp only [List.map_nil, PyData.depthAll]⟩
    | cons y ys ih =>
      have e1 : (EncD.d y : PyData).canLay0 = true := by show (PyData.int y).canLay0 = true; simp only [PyData.canLay0]
      have e2 : (EncD.d y : PyData).depth = 0 := by show (PyData.int y).depth = 0; simp only [PyData.depth]
      exact ⟨by simp only [List.map_cons, PyData.canLayAll0, e1, ih.1, Bool.and_self], by simp only [List.map_cons, PyData.depthAll, e2, ih.2]; rfl⟩
  have k := key xs
  have e1 : (EncD.d xs : PyData).canLay0 = true := by
    show (PyData.list (xs.map EncD.d)).canLay0 = true
    simp only [PyData.canLay0, k.1]
  have e2 : (EncD.d xs : PyData).depth ≤ 64 := by
    show (PyData.list (xs.map EncD.d)).depth ≤ 64
    simp only [PyData.depth, k.2]
    decide
  unfold SeqAt.shaped
  rw [e1, decide_eq_true e2]
  rfl
theorem neD_script (xs : List Int) : neD (α := List Int) (β := List Int) xs [] = some (decide (xs ≠ [])) := by
  unfold neD
  rw [if_pos ⟨shaped_script xs, by decide +kernel⟩]
  cases xs with
  | nil => rfl
  | cons x xs => rfl
theorem nice_opts {xs : List (Option Int)} {n : Nat} (h : ∀ x ∈ xs, ∀ t, x = some t → t.natAbs < 2 ^ n) (hn : n ≤ 148) : Nice (EncD.d xs) 1 (xs.length * (n + 1)) := by
  have z := nice_list (ds := xs.map EncD.d) (p := 0) (w := n) fun d hd => by
    obtain ⟨q, hq, rfl⟩ := List.mem_map.mp hd
    cases q with
    | none => exact nice_none.mono (Nat.le_refl _) (Nat.zero_le _)
    | some t => exact nice_int (h _ hq t rfl) hn
  rw [List.length_map] at z
  exact z
theorem nice_intsE {xs : List Int} {n : Nat} (h : ∀ x ∈ xs, x.natAbs < 2 ^ n) (hn : n ≤ 148) : Nice (EncD.d xs) 1 (xs.length * (n + 1)) := nice_ints h hn
theorem nice_three {n : Nat} {x : Tri Int Int Int} (h1 : x.a.natAbs < 2 ^ n) (h2 : x.b.natAbs < 2 ^ n) (h3 : x.c.natAbs < 2 ^ n) (hn : n ≤ 148) : Nice (EncD.d x) 1 (3 * (n + 1)) := nice_tup (ds := [.int x.a, .int x.b, .int x.c]) fun d hd => by
  rcases List.mem_cons.mp hd with rfl | hd
  · exact nice_int h1 hn
  · rcases List.mem_cons.mp hd with rfl | hd
    · exact nice_int h2 hn
    · rw [List.mem_singleton.mp hd]
      exact nice_int h3 hn
theorem nice_lst {α : Type} [Enc α] [EncD α] {xs : List α} {p w : Nat} (h : ∀ x ∈ xs, Nice (EncD.d x) p w) : Nice (EncD.d xs) (p + 1) (xs.length * (w + 1)) := by
  have z := nice_list (ds := xs.map EncD.d) (p := p) (w := w) fun d hd => by
    obtain ⟨q, hq, rfl⟩ := List.mem_map.mp hd
    exact h q hq
  rw [List.length_map] at z
  exact z
/-! ### the script's head -/
theorem f_head {script : List Int} (hs : script.length ≤ 63) {top : Int} (t1 : 1 ≤ top) : ∃ xs, gCat script [0] = some (script ++ [0]) ∧ cutL (script ++ [0]) none (some (if (if top < (script.length : Int) then top else (script.length : Int)) > 1 then (if top < (script.length : Int) then top else (script.length : Int)) else 1)) = xs ∧ (xs.length : Int) ≤ top := by
  have a : gCat script [0] = some (script ++ [0]) := by
    unfold gCat
    exact if_pos (by show script.length + 1 ≤ 100000; omega)
  refine ⟨_, a, rfl, ?_⟩
  generalize hk : (if (if top < (script.length : Int) then top else (script.length : Int)) > 1 then (if top < (script.length : Int) then top else (script.length : Int)) else 1) = k
  have hk1 : 1 ≤ k ∧ k ≤ top := by
    subst hk
    split
    · split <;> omega
    · omega
  obtain ⟨n, rfl⟩ : ∃ n : Nat, k = n := ⟨k.toNat, by omega⟩
  unfold cutL
  rw [List.length_take]
  have e : HT.sIx (script ++ [0]).length (script ++ [0]).length (some (n : Int)) = min n (script ++ [0]).length := HT.sIx_nat _ _ _
  rw [e]
  omega
end N01
namespace N01
open PySem PySem.Spec PyProof.Rows L2 Rg Rm
open Rm.Enc (rel)
open Rm.Slots (srels)
section
local macro_rules | `(tactic| walk_at "bd") => `(tactic| first | exact nb (by omega) (by omega) (by decide) | decide +kernel)
local macro_rules | `(tactic| walk_at "stp") => `(tactic| first
  | refine ok_s ?_
  | refine ok_mod (by omega) ?_
  | refine ok_shortL (by first | (simp only [List.length_nil, List.length_cons, List.length_map, List.length_append]; done) | (simp only [List.length_nil, List.length_cons, List.length_map, List.length_append]; omega) | omega) ?_
  | refine ok_div (by omega) (by walk_at "bd") ?_
  | refine ok_mul (by walk_at "bd") (by walk_at "bd") ?_
  | refine ok_fits (by first | omega | (simp only [List.length_nil, List.length_cons, List.length_map, List.length_append]; done) | (simp only [List.length_nil, List.length_cons, List.length_map, List.length_append]; omega)) ?_
  | refine ok_short (by first | omega | (simp only [List.length_nil, List.length_cons, List.length_map, List.length_append]; done) | (simp only [List.length_nil, List.length_cons, List.length_map, List.length_append]; omega)) ?_)
local macro_rules | `(tactic| walk_at "stps") => `(tactic| repeat (first | walk_at "stp" | refine ok_e p10_30 ?_ | refine ok_e p10_31 ?_ | refine ok_e p10_29 ?_ | refine ok_e p10_40 ?_ | refine ok_e p10_5 ?_ | refine ok_e p10_15 ?_ | refine ok_e p10_20 ?_ | refine ok_e p10_28 ?_))
theorem eqv_ints : ∀ ns ms : List Int, PyData.eqv (.list (ns.map PyData.int)) (.list (ms.map PyData.int)) = decide (ns = ms) := by
  have go : ∀ ns ms : List Int, PyData.eqvAll (ns.map PyData.int) (ms.map PyData.int) = decide (ns = ms) := by
    intro ns
    induction ns with
    | nil =>
      intro ms
      cases ms with
      | nil => simp [PyData.eqvAll]
      | cons b r => simp [PyData.eqvAll]
    | cons a r ih =>
      intro ms
      cases ms with
      | nil => simp [PyData.eqvAll]
      | cons b q =>
        rw [List.map_cons, List.map_cons]
        show (PyData.eqv (.int a) (.int b) && PyData.eqvAll (r.map PyData.int) (q.map PyData.int)) = _
        rw [ih]
        have e : PyData.eqv (.int a) (.int b) = (a == b) := by simp [PyData.eqv]
        rw [e]
        by_cases h : a = b
        · subst h
          simp
        · simp [h]
  intro ns ms
  show PyData.eqv (.list _) (.list _) = _
  rw [← go]
  simp [PyData.eqv]
theorem neD_ints (xs : List Int) : neD (α := List Int) (β := List Int) xs xs = some false := by
  unfold neD
  rw [if_pos ⟨shaped_script xs, shaped_script xs⟩]
  show some (!PyData.eqv (.list (xs.map PyData.int)) (.list (xs.map PyData.int))) = _
  rw [eqv_ints]
  simp
theorem eqD_ints (xs : List Int) : eqD (α := List Int) (β := List Int) xs xs = some true := by
  unfold eqD
  rw [if_pos ⟨shaped_script xs, shaped_script xs⟩]
  show some (PyData.eqv (.list (xs.map PyData.int)) (.list (xs.map PyData.int))) = _
  rw [eqv_ints]
  simp
end
end N01
namespace N01
open PySem PySem.Spec PyProof.Rows L2 Rg Rm
open Rm.Enc (rel)
open Rm.Slots (srels)
section
local macro_rules | `(tactic| walk_at "bd") => `(tactic| first | exact nb (by omega) (by omega) (by decide) | decide +kernel)
local macro_rules | `(tactic| walk_at "stp") => `(tactic| first
  | refine ok_s ?_
  | refine ok_mod (by omega) ?_
  | refine ok_shortL (by first | (simp only [List.length_nil, List.length_cons, List.length_map, List.length_append]; done) | (simp only [List.length_nil, List.length_cons, List.length_map, List.length_append]; omega) | omega) ?_
  | refine ok_div (by omega) (by walk_at "bd") ?_
  | refine ok_mul (by walk_at "bd") (by walk_at "bd") ?_
  | refine ok_fits (by first | omega | (simp only [List.length_nil, List.length_cons, List.length_map, List.length_append]; done) | (simp only [List.length_nil, List.length_cons, List.length_map, List.length_append]; omega)) ?_
  | refine ok_short (by first | omega | (simp only [List.length_nil, List.length_cons, List.length_map, List.length_append]; done) | (simp only [List.length_nil, List.length_cons, List.length_map, List.length_append]; omega)) ?_)
local macro_rules | `(tactic| walk_at "stps") => `(tactic| repeat (first | walk_at "stp" | refine ok_e p10_30 ?_ | refine ok_e p10_31 ?_ | refine ok_e p10_29 ?_ | refine ok_e p10_40 ?_ | refine ok_e p10_5 ?_ | refine ok_e p10_15 ?_ | refine ok_e p10_20 ?_ | refine ok_e p10_28 ?_))
/-! ### lots and lines -/
theorem neD_nil {α : Type} [Enc α] [EncD α] {xs : List α} (h : SeqAt.shaped (EncD.d xs) = true) : neD xs ([] : List α) = some (!xs.isEmpty) := by
  unfold neD
  have e : SeqAt.shaped (EncD.d ([] : List α)) = true := by
    show SeqAt.shaped (PyData.list []) = true
    decide +kernel
  rw [if_pos ⟨h, e⟩]
  cases xs with
  | nil => rfl
  | cons x xs => rfl
theorem nice_pair {p : Int × Int} (h1 : p.1.natAbs < 10 ^ 140) (h2 : p.2.natAbs < 10 ^ 140) : Nice (EncD.d p) 1 (2 * 471) := nice_tup (ds := [.int p.1, .int p.2]) fun d hd => by
  rcases List.mem_cons.mp hd with rfl | hd
  · exact nice_big h1
  · rw [List.mem_singleton.mp hd]
    exact nice_big h2
theorem nice_lot {w : Int} {lot : List (Int × Int)} (w2 : w ≤ 10 ^ 30) (h : ∀ p ∈ lot, RecF w p) : Nice (EncD.d lot) 2 (lot.length * (2 * 471 + 1)) := nice_lst fun p hp => by
  have := h p hp
  unfold RecF at this
  exact nice_pair (n140 (by omega) (by omega)) (n140 (by omega) (by omega))
theorem up_cons (n : Nat) (h : 1 ≤ n) : upI n = 0 :: (upI n).drop 1 := by
  cases n with
  | zero => omega
  | succ n =>
    unfold upI
    rw [List.range_succ_eq_map]
    rfl
theorem upI_len (n : Nat) : (upI n).length = n := by unfold upI; simp
theorem gLR_up {n : Nat} (h : 1 ≤ n) (h2 : n ≤ 1000) : gLR 1 (n : Int) = some ((upI n).drop 1) := by
  unfold gLR
  rw [if_pos ⟨by omega, by omega, by omega, by omega, by omega⟩]
  congr 1
  unfold rgL upI
  refine List.ext_getElem (by simp) fun i h1 h2 => ?_
  simp
  omega
end
end N01
namespace N01
open PySem PySem.Spec PyProof.Rows L2 Rg Rm
open Rm.Enc (rel)
open Rm.Slots (srels)
section
local macro_rules | `(tactic| walk_at "bd") => `(tactic| first | exact nb (by omega) (by omega) (by decide) | decide +kernel)
local macro_rules | `(tactic| walk_at "stp") => `(tactic| first
  | refine ok_s ?_
  | refine ok_mod (by omega) ?_
  | refine ok_shortL (by first | (simp only [List.length_nil, List.length_cons, List.length_map, List.length_append]; done) | (simp only [List.length_nil, List.length_cons, List.length_map, List.length_append]; omega) | omega) ?_
  | refine ok_div (by omega) (by walk_at "bd") ?_
  | refine ok_mul (by walk_at "bd") (by walk_at "bd") ?_
  | refine ok_fits (by first | omega | (simp only [List.length_nil, List.length_cons, List.length_map, List.length_append]; done) | (simp only [List.length_nil, List.length_cons, List.length_map, List.length_append]; omega)) ?_
  | refine ok_short (by first | omega | (simp only [List.length_nil, List.length_cons, List.length_map, List.length_append]; done) | (simp only [List.length_nil, List.length_cons, List.length_map, List.length_append]; omega)) ?_)
local macro_rules | `(tactic| walk_at "stps") => `(tactic| repeat (first | walk_at "stp" | refine ok_e p10_30 ?_ | refine ok_e p10_31 ?_ | refine ok_e p10_29 ?_ | refine ok_e p10_40 ?_ | refine ok_e p10_5 ?_ | refine ok_e p10_15 ?_ | refine ok_e p10_20 ?_ | refine ok_e p10_28 ?_))
/-! ### small lots -/
/-- records of at most two rounds and a mark -/
def SmallF (w : Int) (lot : List (Int × Int)) : Prop := ∀ p ∈ lot, 0 ≤ p.1 ∧ p.1 < w ∧ 1 ≤ p.2 ∧ p.2 ≤ 2 * w + 1
theorem SmallF.rec {w : Int} {lot : List (Int × Int)} (w1 : 1 ≤ w) (w2 : w ≤ 10 ^ 30) (h : SmallF w lot) : ∀ p ∈ lot, RecF w p := fun p hp => by
  have := h p hp
  unfold RecF
  omega
theorem k_law_lot {zs : List Int} {N n : Nat} {w : Int} (hs : SrcOk zs N) (hN : N + 7 * n + 2 < 2 ^ 190) (w1 : 1 ≤ w) (w2 : w ≤ 10 ^ 30) (hn : n ≤ 100) :
    Ok (G_law_lot zs w (n : Int)) fun r => r.1.length = n ∧ SmallF w r.1 ∧ SrcOk r.2 (N + 7 * n + 2) := by
  unfold G_law_lot
  (walk_at "stps")
  refine ok_draw hs (by omega) (by decide) (by decide) fun way z1 way0 way1 s1 => ?_
  refine ok_draw s1 (by omega) (by omega) (by omega) fun spot z2 sp0 sp1 s2 => ?_
  refine ok_e (gRg1_nat (by omega)) (ok_fold (fun i s => s.2.length = i ∧ SmallF w s.2 ∧ SrcOk s.1 (N + 7 * i + 2)) ⟨rfl, (fun p hp => by cases hp), s2.le (by omega)⟩ (fun i x s hx ⟨hl, hr, so⟩ => ?_) fun s ⟨hl, hr, so⟩ => ok_some ?_)
  · have hi : i < n := (rgL_get hx).1
    (walk_at "stps")
    refine ok_draw so (by omega) (by decide) (by decide) fun k1 z3 k10 k11 s3 => ?_
    refine ok_at (P := fun y : Int => 1 ≤ y ∧ y ≤ 2 * w + 1) k10 (by simpa using k11) (by
      intro y hy
      simp only [List.mem_cons, List.not_mem_nil, or_false] at hy
      rcases hy with rfl | rfl | rfl | rfl <;> first | omega | (split <;> omega)) fun sz hsz => ?_
    refine ok_draw s3 (by omega) (by omega) (by omega) fun k2 z4 k20 k21 s4 => ?_
    (walk_at "stps")
    refine ok_draw s4 (by omega) (by omega) (by omega) fun k3 z5 k30 k31 s5 => ?_
    refine ok_b (P := fun b : Bool × List Int => SrcOk b.2 (N + 7 * i + 6)) (ok_if (fun c => ?_) fun c => ok_some (s5.le (by omega))) fun b hb => ?_
    · refine ok_draw s5 (by omega) (by decide) (by decide) fun k4 z6 k40 k41 s6 => ok_some (s6.le (by omega))
    refine ok_b (P := fun y : Int => 0 ≤ y ∧ y < w) (ok_if (fun _ => ok_some ⟨sp0, sp1⟩) fun _ => ok_some ⟨k30, k31⟩) fun a1 ha1 => ?_
    refine ok_b (P := fun b : Bool => b = true → s.2 ≠ []) (ok_if (fun c => ?_) fun c => ok_some (fun h => by cases h)) fun b2 hb2 => ?_
    · (walk_at "stps")
      refine ok_e (neD_nil ((nice_lot (by omega) (SmallF.rec w1 (by omega) hr)).shaped (by decide))) (ok_some fun h e => ?_)
      rw [e] at h
      cases h
    refine ok_b (P := fun y : Int => 0 ≤ y ∧ y < w) (ok_if (fun c => ?_) fun _ => ok_some ha1) fun a2 ha2 => ?_
    · have gl := List.getLast?_eq_some_getLast (hb2 c)
      refine ok_e (atI_neg1 gl) (ok_mod (by omega) (ok_some ⟨Int.emod_nonneg _ (by omega), Int.emod_lt_of_pos _ (by omega)⟩))
    refine ok_b (P := fun q : List Int × Int => SrcOk q.1 (N + 7 * i + 7) ∧ 1 ≤ q.2 ∧ q.2 ≤ 2 * w + 1) (ok_if (fun c => ?_) fun _ => ok_some ⟨hb.le (by omega), by dsimp only; omega, by dsimp only; omega⟩) fun q hq => ?_
    · refine ok_draw hb (by omega) (by decide) (by decide) fun k5 z7 k50 k51 s7 => ?_
      refine ok_mul (by (walk_at "bd")) (by split <;> (walk_at "bd")) (ok_some ⟨s7.le (by omega), ?_, ?_⟩)
      · dsimp only
        split <;> omega
      · dsimp only
        split <;> omega
    (walk_at "stps")
    refine ok_some ⟨by rw [List.length_append, hl]; rfl, fun p hp => ?_, hq.1.le (by omega)⟩
    rcases List.mem_append.mp hp with z | z
    · exact hr p z
    · rw [List.mem_singleton.mp z]
      exact ⟨ha2.1, ha2.2, hq.2.1, hq.2.2⟩
  · rw [rgL_len] at hl so
    exact ⟨hl, hr, so⟩
end
end N01
namespace N01
open PySem PySem.Spec PyProof.Rows L2 Rg Rm
open Rm.Enc (rel)
open Rm.Slots (srels)
section
local macro_rules | `(tactic| walk_at "bd") => `(tactic| first | exact nb (by omega) (by omega) (by decide) | decide +kernel)
local macro_rules | `(tactic| walk_at "stp") => `(tactic| first
  | refine ok_s ?_
  | refine ok_mod (by omega) ?_
  | refine ok_shortL (by first | (simp only [List.length_nil, List.length_cons, List.length_map, List.length_append]; done) | (simp only [List.length_nil, List.length_cons, List.length_map, List.length_append]; omega) | omega) ?_
  | refine ok_div (by omega) (by walk_at "bd") ?_
  | refine ok_mul (by walk_at "bd") (by walk_at "bd") ?_
  | refine ok_fits (by first | omega | (simp only [List.length_nil, List.length_cons, List.length_map, List.length_append]; done) | (simp only [List.length_nil, List.length_cons, List.length_map, List.length_append]; omega)) ?_
  | refine ok_short (by first | omega | (simp only [List.length_nil, List.length_cons, List.length_map, List.length_append]; done) | (simp only [List.length_nil, List.length_cons, List.length_map, List.length_append]; omega)) ?_)
local macro_rules | `(tactic| walk_at "stps") => `(tactic| repeat (first | walk_at "stp" | refine ok_e p10_30 ?_ | refine ok_e p10_31 ?_ | refine ok_e p10_29 ?_ | refine ok_e p10_40 ?_ | refine ok_e p10_5 ?_ | refine ok_e p10_15 ?_ | refine ok_e p10_20 ?_ | refine ok_e p10_28 ?_))
/-! ### any values -/
theorem cut_toA {α : Type} {xs : List α} {c : Nat} (h : c ≤ xs.length) : cutL xs none (some (c : Int)) = xs.take c := by
  unfold cutL
  have e1 : HT.sIx xs.length xs.length (some (c : Int)) = c := by
    unfold HT.sIx
    simp
    rw [if_neg (by omega)]
    omega
  have e2 : HT.sIx xs.length 0 none = 0 := rfl
  rw [e1, e2]
  rfl
theorem gDec_eq {α : Type} [Enc α] [DecW α] (x : Any) : (gDec x : Option α) = DecW.dec x.d := by unfold gDec; rfl
theorem dec_int (n : Int) : (gDec (Any.mk (.int n)) : Option Int) = some n := by rw [gDec_eq]; rfl
theorem decL_any : ∀ ds : List PyData, (decL ds : Option (List Any)) = some (ds.map Any.mk)
  | [] => rfl
  | d :: ds => by
    unfold decL
    have e : (DecW.dec d : Option Any) = some ⟨d⟩ := rfl
    rw [e, decL_any ds]
    rfl
theorem dec_anys (ds : List PyData) : (gDec (Any.mk (.list ds)) : Option (List Any)) = some (ds.map Any.mk) := by
  rw [gDec_eq]
  exact decL_any ds
theorem decL_ints : ∀ ns : List Int, (decL (ns.map PyData.int) : Option (List Int)) = some ns
  | [] => rfl
  | n :: ns => by
    rw [List.map_cons]
    unfold decL
    have e : (DecW.dec (PyData.int n) : Option Int) = some n := rfl
    rw [e, decL_ints ns]
    rfl
theorem dec_ints (ns : List Int) : (gDec (Any.mk (.list (ns.map PyData.int))) : Option (List Int)) = some ns := by
  rw [gDec_eq]
  exact decL_ints ns
theorem any_d (x : Any) : Any.mk x.d = x := rfl
theorem k_is_integer_d (x : Any) : G_is_integer_d x = some (isInt x.d) := by
  unfold G_is_integer_d
  cases x with
  | mk d => cases d <;> simp [gIsi, isNum, isBoo, Rg.isInt, Option.bnd_some]
def btwD (d : PyData) (a b : Int) : Bool := match d with | .int n => decide (a ≤ n) && decide (n ≤ b) | _ => false
theorem btwD_ex {d : PyData} {a b : Int} (h : btwD d a b = true) : ∃ n, d = .int n ∧ a ≤ n ∧ n ≤ b := by
  cases d with
  | int n => simp only [btwD, Bool.and_eq_true, decide_eq_true_eq] at h; exact ⟨n, rfl, h.1, h.2⟩
  | _ => cases h
theorem btwD_of {n a b : Int} (h : a ≤ n) (h2 : n ≤ b) : btwD (.int n) a b = true := by simp [btwD, h, h2]
theorem k_is_between_d (x : Any) (a b : Int) : G_is_between_dii x a b = some (btwD x.d a b) := by
  refine Ok.eq ?_
  unfold G_is_between_dii
  refine ok_e (k_is_integer_d _) ?_
  cases x with
  | mk d =>
    cases d with
    | int n => exact ok_b (P := (· = btwD (.int n) a b)) (ok_T rfl (ok_e (dec_int n) (ok_some rfl))) fun v hv => ok_some hv
    | _ => exact ok_b (P := (· = false)) (ok_F rfl (ok_some rfl)) fun v hv => ok_some hv
theorem k_is_list_d (x : Any) (a b : Int) : G_is_list_dii x a b = some (match x.d with | .list ds => decide (a ≤ (ds.length : Int)) && decide ((ds.length : Int) ≤ b) | _ => false) := by
  refine Ok.eq ?_
  unfold G_is_list_dii
  cases x with
  | mk d =>
    cases d with
    | list ds => exact ok_b (P := (· = (decide (a ≤ (ds.length : Int)) && decide ((ds.length : Int) ≤ b)))) (ok_T rfl (ok_e (v := (ds.length : Int)) rfl (ok_some rfl))) fun v hv => ok_some hv
    | _ => exact ok_b (P := (· = false)) (ok_F rfl (ok_some rfl)) fun v hv => ok_some hv
theorem hasDict_take : ∀ (i : Nat) {ds : List PyData}, PyData.hasDictAll ds = false → PyData.hasDictAll (ds.take i) = false
  | 0, _, _ => rfl
  | _ + 1, [], h => h
  | i + 1, d :: ds, h => by
    simp only [PyData.hasDictAll, Bool.or_eq_false_iff] at h
    rw [List.take_succ_cons]
    simp only [PyData.hasDictAll, Bool.or_eq_false_iff]
    exact ⟨h.1, hasDict_take i h.2⟩
theorem canLay_take : ∀ (i : Nat) {ds : List PyData}, PyData.canLayAll0 ds = true → PyData.canLayAll0 (ds.take i) = true
  | 0, _, _ => rfl
  | _ + 1, [], h => h
  | i + 1, d :: ds, h => by
    simp only [PyData.canLayAll0, Bool.and_eq_true] at h
    rw [List.take_succ_cons]
    simp only [PyData.canLayAll0, Bool.and_eq_true]
    exact ⟨h.1, canLay_take i h.2⟩
/-- a value that can be told and asked -/
def ThingF (x : Any) : Prop := (isEmp x.d = true ∨ ∃ p w, p ≤ 20 ∧ w ≤ 100000 ∧ Nice x.d p w) ∧ ∀ ds, x.d = .list ds → ds.length ≤ 1000
theorem niceShow {d : PyData} {p w : Nat} (h : Nice d p w) (hp : p ≤ 20) (hw : w ≤ 100000) : showB d = true := by
  simp only [Rm.showB, Bool.and_eq_true, Bool.not_eq_true', decide_eq_true_eq]
  exact ⟨h.sh, h.nd, h.lv, Nat.le_trans h.dp hp, Nat.le_trans h.wt hw⟩
theorem ThingF.repr {x : Any} (h : ThingF x) : gReprW x = some x.d.shown := by
  unfold gReprW
  rw [if_pos]
  · rfl
  · rcases h.1 with e | ⟨p, w, hp, hw, n⟩
    · exact .inr e
    · exact .inl (niceShow n hp hw)
theorem ThingF.items {ds : List PyData} (h : ThingF ⟨.list ds⟩) : PyData.hasDictAll ds = false ∧ PyData.canLayAll0 ds = true := by
  rcases h.1 with e | ⟨p, w, hp, hw, n⟩
  · cases e
  · have a := n.nd
    have b := n.cl
    simp only [PyData.hasDict] at a
    simp only [PyData.canLay0] at b
    exact ⟨a, b⟩
theorem thing_nice {x : Any} {p w : Nat} (n : Nice x.d p w) (hp : p ≤ 20) (hw : w ≤ 100000) (hl : ∀ ds, x.d = .list ds → ds.length ≤ 1000) : ThingF x := ⟨.inr ⟨p, w, hp, hw, n⟩, hl⟩
theorem thing_emp : ThingF ⟨.dict []⟩ := ⟨.inl rfl, fun _ e => by cases e⟩
theorem nice_str1 {x : Str} (h : (PyData.str x).showable = true ∧ (PyData.str x).leavesShort 150 = true ∧ (PyData.str x).canLay0 = true ∧ (PyData.str x).weight ≤ 1000) : Nice (.str x) 0 1000 :=
  ⟨h.1, by simp only [PyData.hasDict], h.2.1, h.2.2.1, by simp only [PyData.depth]; omega, h.2.2.2⟩
theorem eqW_int (n k : Int) : eqW (α := Any) (β := Int) ⟨.int n⟩ k = some (decide (n = k)) := by
  unfold eqW
  have e : PyData.eqv (.int n) (.int k) = decide (n = k) := by simp [PyData.eqv, Bool.beq_eq_decide_eq]
  rw [if_pos]
  · show some (PyData.eqv (.int n) (.int k)) = _
    rw [e]
  · refine ⟨⟨by show PyData.hasDict (.int n) = false; simp only [PyData.hasDict], by show PyData.hasDict (.int k) = false; simp only [PyData.hasDict]⟩, ?_, ?_⟩
    · show SeqAt.shaped (.int n) = true
      simp [SeqAt.shaped, PyData.canLay0, PyData.depth]
    · show SeqAt.shaped (.int k) = true
      simp [SeqAt.shaped, PyData.canLay0, PyData.depth]
theorem map_any_d (ds : List PyData) : (ds.map Any.mk).map Any.d = ds := by
  rw [List.map_map]
  exact List.map_id' ds
end
end N01
namespace N01
open PySem PySem.Spec PyProof.Rows L2 Rg Rm
open Rm.Enc (rel)
open Rm.Slots (srels)
section
local macro_rules | `(tactic| walk_at "bd") => `(tactic| first | exact nb (by omega) (by omega) (by decide) | decide +kernel)
local macro_rules | `(tactic| walk_at "stp") => `(tactic| first
  | refine ok_s ?_
  | refine ok_mod (by omega) ?_
  | refine ok_shortL (by first | (simp only [List.length_nil, List.length_cons, List.length_map, List.length_append]; done) | (simp only [List.length_nil, List.length_cons, List.length_map, List.length_append]; omega) | omega) ?_
  | refine ok_div (by omega) (by walk_at "bd") ?_
  | refine ok_mul (by walk_at "bd") (by walk_at "bd") ?_
  | refine ok_fits (by first | omega | (simp only [List.length_nil, List.length_cons, List.length_map, List.length_append]; done) | (simp only [List.length_nil, List.length_cons, List.length_map, List.length_append]; omega)) ?_
  | refine ok_short (by first | omega | (simp only [List.length_nil, List.length_cons, List.length_map, List.length_append]; done) | (simp only [List.length_nil, List.length_cons, List.length_map, List.length_append]; omega)) ?_)
local macro_rules | `(tactic| walk_at "stps") => `(tactic| repeat (first | walk_at "stp" | refine ok_e p10_30 ?_ | refine ok_e p10_31 ?_ | refine ok_e p10_29 ?_ | refine ok_e p10_40 ?_ | refine ok_e p10_5 ?_ | refine ok_e p10_15 ?_ | refine ok_e p10_20 ?_ | refine ok_e p10_28 ?_))
/-! ### lists of records, of any value -/
def recD (m : Int) (d : PyData) : Bool := match d with | .tuple [a, b] => btwD a 0 (m - 1) && btwD b 1 (10 ^ 31) | _ => false
def dueD (m : Int) (d : PyData) : Bool := match d with | .list ds => (decide ((1 : Int) ≤ (ds.length : Int)) && decide ((ds.length : Int) ≤ 30)) && ds.all (recD m) | _ => false
theorem dec_pair01 (a b : PyData) : (gDec (Any.mk (.tuple [a, b])) : Option (Any × Any)) = some (⟨a⟩, ⟨b⟩) := by
  rw [gDec_eq]
  rfl
theorem k_is_whole (x : Any) (a b : Int) : G_law_is_whole x a b = some (btwD x.d a b) := by
  refine Ok.eq ?_
  unfold G_law_is_whole
  cases x with
  | mk d =>
    cases d with
    | int n =>
      refine ok_e (v := true) rfl (ok_b (P := (· = btwD (.int n) a b)) (ok_T rfl (ok_e (v := false) rfl (ok_b (P := (· = btwD (.int n) a b)) (ok_T rfl (ok_e (dec_int n) (ok_some rfl))) fun v hv => ok_some hv))) fun v hv => ok_some hv)
    | bool c =>
      refine ok_e (v := true) rfl (ok_b (P := (· = false)) (ok_T rfl (ok_e (v := true) rfl (ok_b (P := (· = false)) (ok_F rfl (ok_some rfl)) fun v hv => ok_some hv))) fun v hv => ok_some hv)
    | _ => exact ok_e (v := false) rfl (ok_b (P := (· = false)) (ok_F rfl (ok_some rfl)) fun v hv => ok_some hv)
theorem no_pair {m : Int} {d : PyData} (h : ¬ ∃ a b, d = .tuple [a, b]) : recD m d = false := by
  unfold recD
  split
  · rename_i a b
    exact absurd ⟨a, b, rfl⟩ h
  · rfl
theorem k_is_record_d (m : Int) (x : Any) : G_is_record_id m x = some (recD m x.d) := by
  refine Ok.eq ?_
  unfold G_is_record_id
  by_cases hx : ∃ a b, x.d = .tuple [a, b]
  · obtain ⟨a, b, hd⟩ := hx
    have ex : x = ⟨.tuple [a, b]⟩ := by cases x; cases hd; rfl
    subst ex
    refine ok_b (P := (· = false)) (ok_F rfl (ok_e (v := (2 : Int)) rfl (ok_some rfl))) fun t ht => ok_F ht (ok_e (dec_pair01 a b) ?_)
    have im : G_is_mark_id m ⟨a⟩ = some (btwD a 0 (m - 1)) := by
      refine Ok.eq ?_
      unfold G_is_mark_id
      exact ok_e (k_is_between_d _ _ _) (ok_some rfl)
    refine ok_e im (ok_b (P := (· = recD m (.tuple [a, b]))) (ok_if (fun c => ?_) fun c => ok_some ?_) fun v hv => ok_some hv)
    · refine ok_of (k_is_between_d _ _ _) ?_
      show btwD b 1 (10 ^ 31) = (btwD a 0 (m - 1) && btwD b 1 (10 ^ 31))
      rw [c, Bool.true_and]
    · show false = (btwD a 0 (m - 1) && btwD b 1 (10 ^ 31))
      rw [c, Bool.false_and]
  · rw [no_pair hx]
    by_cases ht : ∃ ds, x.d = .tuple ds
    · obtain ⟨ds, hd⟩ := ht
      have ex : x = ⟨.tuple ds⟩ := by cases x; cases hd; rfl
      subst ex
      have l2 : ds.length ≠ 2 := fun e => by
        match ds, e with
        | [a, b], _ => exact hx ⟨a, b, rfl⟩
      refine ok_b (P := (· = true)) (ok_F rfl (ok_e (v := (ds.length : Int)) rfl (ok_some ?_))) fun t ht => ok_T ht (ok_some rfl)
      rw [Bool.not_eq_true', decide_eq_false_iff_not]
      omega
    · refine ok_b (P := (· = true)) (ok_T ?_ (ok_some rfl)) fun t ht => ok_T ht (ok_some rfl)
      rw [Bool.not_eq_true', decide_eq_false_iff_not]
      intro e
      cases hd : x.d with
      | tuple ds => exact ht ⟨ds, hd⟩
      | _ => rw [hd] at e; simp [tyN] at e
theorem k_is_records {m : Int} (w1 : 1 ≤ m) (w2 : m ≤ 10 ^ 30) (x : Any) : G_is_records m x = some (dueD m x.d) := by
  refine Ok.eq ?_
  unfold G_is_records
  refine ok_e (k_check_marks w1 w2) (ok_e (k_is_list_d _ _ _) ?_)
  cases x with
  | mk d =>
    cases d with
    | list ds =>
      refine ok_b (P := (· = dueD m (.list ds))) (ok_if (fun c => ?_) fun c => ok_some ?_) fun v hv => ok_some hv
      · have c : (decide ((1 : Int) ≤ (ds.length : Int)) && decide ((ds.length : Int) ≤ 30)) = true := c
        have c2 := c
        rw [Bool.and_eq_true, decide_eq_true_eq, decide_eq_true_eq] at c2
        refine ok_e (dec_anys ds) (ok_short (by rw [List.length_map]; omega) (ok_map (fun y : Any => recD m y.d) (fun y _ => k_is_record_d m y) (ok_some ?_)))
        show _ = (_ && _)
        rw [c, Bool.true_and, List.map_map, List.all_map]
        rfl
      · have c : (decide ((1 : Int) ≤ (ds.length : Int)) && decide ((ds.length : Int) ≤ 30)) = false := c
        show _ = (_ && _)
        rw [c, Bool.false_and]
    | _ => exact ok_b (P := (· = false)) (ok_F rfl (ok_some rfl)) fun v hv => ok_some hv
theorem k_law_due {m : Int} (x : Any) (hl : ∀ ds, x.d = .list ds → ds.length ≤ 1000) : G_law_due m x = some (dueD m x.d) := by
  refine Ok.eq ?_
  unfold G_law_due
  cases x with
  | mk d =>
    cases d with
    | list ds =>
      refine ok_e (v := true) rfl (ok_b (P := (· = !(decide ((1 : Int) ≤ (ds.length : Int)) && decide ((ds.length : Int) ≤ 30)))) (ok_F rfl (ok_e (v := (ds.length : Int)) rfl (ok_some rfl))) fun t ht => ?_)
      subst ht
      refine ok_if (fun c => ok_some ?_) fun c0 => ok_e (dec_anys ds) ?_
      · have c : (decide ((1 : Int) ≤ (ds.length : Int)) && decide ((ds.length : Int) ≤ 30)) = false := by rw [Bool.not_eq_true'] at c; exact c
        show _ = (_ && _)
        rw [c, Bool.false_and]
      have c : (decide ((1 : Int) ≤ (ds.length : Int)) && decide ((ds.length : Int) ≤ 30)) = true := by rw [Bool.not_eq_false'] at c0; exact c0
      have step : ∀ (x1 : Any) (u : Unit), Ok ((gIsi "tuple" x1.d).bnd fun t5 =>
          (if (!t5) = true then some true else ((gLenA x1.d).bnd fun t6 =>
          some (!decide (t6 = (2 : Int))))).bnd fun t7 =>
          if t7 = true then (some (.rt false)) else (((gDec x1 : Option (Any × Any))).bnd fun t8 =>
          (G_law_is_whole t8.1 (0 : Int) (m - (1 : Int))).bnd fun t9 =>
          (if (!t9) = true then some true else (((gDec x1 : Option (Any × Any))).bnd fun t10 =>
          (gPow (10 : Int) (31 : Int)).bnd fun t11 =>
          (G_law_is_whole t10.2 (1 : Int) t11).bnd fun t12 =>
          some (!t12))).bnd fun t13 =>
          if t13 = true then (some (.rt false)) else (some (.nx ())))) (fun r : Re Unit Bool => r = if recD m x1.d = true then .nx () else .rt false) := fun x u => by
        by_cases hx : ∃ a b, x.d = .tuple [a, b]
        · obtain ⟨a, b, hd⟩ := hx
          have ex : x = ⟨.tuple [a, b]⟩ := by cases x; cases hd; rfl
          subst ex
          refine ok_e (v := true) rfl (ok_b (P := (· = false)) (ok_F rfl (ok_e (v := (2 : Int)) rfl (ok_some rfl))) fun t ht => ok_F ht (ok_e (dec_pair01 a b) (ok_e (k_is_whole _ _ _) ?_)))
          refine ok_b (P := (· = !recD m (.tuple [a, b]))) (ok_if (fun c => ok_some ?_) fun c => ok_e (dec_pair01 a b) (ok_e p10_31 (ok_e (k_is_whole _ _ _) (ok_some ?_)))) fun t ht => ?_
          · show true = !(btwD a 0 (m - 1) && btwD b 1 (10 ^ 31))
            have c : btwD a 0 (m - 1) = false := by simpa using c
            rw [c]; rfl
          · show (!btwD b 1 (10 ^ 31)) = !(btwD a 0 (m - 1) && btwD b 1 (10 ^ 31))
            have c : btwD a 0 (m - 1) = true := by simpa using c
            rw [c]; rfl
          · subst ht
            refine ok_if (fun c => ok_some ?_) fun c => ok_some ?_
            · have c : recD m (.tuple [a, b]) = false := by simpa using c
              rw [if_neg (by rw [c]; decide)]
            · have c : recD m (.tuple [a, b]) = true := by simpa using c
              rw [if_pos c]
        · rw [no_pair hx]
          by_cases ht : ∃ ds, x.d = .tuple ds
          · obtain ⟨ds, hd⟩ := ht
            have ex : x = ⟨.tuple ds⟩ := by cases x; cases hd; rfl
            subst ex
            have l2 : ds.length ≠ 2 := fun e => by
              match ds, e with
              | [a, b], _ => exact hx ⟨a, b, rfl⟩
            refine ok_e (v := true) rfl (ok_b (P := (· = true)) (ok_F rfl (ok_e (v := (ds.length : Int)) rfl (ok_some ?_))) fun t ht => ok_T ht (ok_some rfl))
            rw [Bool.not_eq_true', decide_eq_false_iff_not]
            omega
          · have e : gIsi "tuple" x.d = some false := by
              cases hd : x.d with
              | tuple ds => exact absurd ⟨ds, hd⟩ ht
              | _ => rfl
            exact ok_e e (ok_b (P := (· = true)) (ok_T rfl (ok_some rfl)) fun t ht => ok_T ht (ok_some rfl))
      refine ok_b (P := fun r : Re Unit Bool => r = if ds.all (recD m) = true then .nx () else .rt false) ?_ fun r hr => ?_
      · clear hl c c0
        induction ds with
        | nil => exact ok_some rfl
        | cons a ds ih =>
          rw [List.map_cons]
          unfold loopO
          refine ok_bb (step ⟨a⟩ ()) fun r hr => ?_
          subst hr
          rw [List.all_cons]
          cases e : recD m a with
          | true => rw [Bool.true_and]; rw [if_pos rfl]; exact ih
          | false => rw [Bool.false_and]; exact ok_some rfl
      · subst hr
        show Ok _ (· = (_ && _))
        rw [c, Bool.true_and]
        cases e : ds.all (recD m) with
        | true => exact ok_some rfl
        | false => exact ok_some rfl
    | _ => exact ok_e (v := false) rfl (ok_b (P := (· = true)) (ok_T rfl (ok_some rfl)) fun t ht => ok_T ht (ok_some rfl))
end
end N01
namespace N01
open PySem PySem.Spec PyProof.Rows L2 Rg Rm
open Rm.Enc (rel)
open Rm.Slots (srels)
section
local macro_rules | `(tactic| walk_at "bd") => `(tactic| first | exact nb (by omega) (by omega) (by decide) | decide +kernel)
local macro_rules | `(tactic| walk_at "stp") => `(tactic| first
  | refine ok_s ?_
  | refine ok_mod (by omega) ?_
  | refine ok_shortL (by first | (simp only [List.length_nil, List.length_cons, List.length_map, List.length_append]; done) | (simp only [List.length_nil, List.length_cons, List.length_map, List.length_append]; omega) | omega) ?_
  | refine ok_div (by omega) (by walk_at "bd") ?_
  | refine ok_mul (by walk_at "bd") (by walk_at "bd") ?_
  | refine ok_fits (by first | omega | (simp only [List.length_nil, List.length_cons, List.length_map, List.length_append]; done) | (simp only [List.length_nil, List.length_cons, List.length_map, List.length_append]; omega)) ?_
  | refine ok_short (by first | omega | (simp only [List.length_nil, List.length_cons, List.length_map, List.length_append]; done) | (simp only [List.length_nil, List.length_cons, List.length_map, List.length_append]; omega)) ?_)
local macro_rules | `(tactic| walk_at "stps") => `(tactic| repeat (first | walk_at "stp" | refine ok_e p10_30 ?_ | refine ok_e p10_31 ?_ | refine ok_e p10_29 ?_ | refine ok_e p10_40 ?_ | refine ok_e p10_5 ?_ | refine ok_e p10_15 ?_ | refine ok_e p10_20 ?_ | refine ok_e p10_28 ?_))
theorem bools01 (b : Bool) : ∃ z, gRepr [b, b] = some z := by
  have n : Nice (EncD.d [b, b]) 1 (([b, b].map PyData.bool).length * (0 + 1)) := nice_list fun d hd => by
    obtain ⟨x, _, rfl⟩ := List.mem_map.mp hd
    exact nice_bool x
  exact ⟨_, gRepr_nice n (by decide) (by simp)⟩
theorem cut_sub01 {α : Type} {xs : List α} {a b : Option Int} : (∀ y ∈ cutL xs a b, y ∈ xs) ∧ (cutL xs a b).length ≤ xs.length := by
  unfold cutL
  refine ⟨fun y hy => List.mem_of_mem_drop (List.mem_of_mem_take hy), ?_⟩
  rw [List.length_take, List.length_drop]
  omega
theorem cut_le01 {α : Type} {xs : List α} {n : Nat} : (cutL xs none (some (n : Int))).length ≤ n := by
  unfold cutL
  rw [List.length_take, List.length_drop]
  have e1 : HT.sIx xs.length xs.length (some (n : Int)) ≤ n := by
    unfold HT.sIx
    simp
    split <;> omega
  have e2 : HT.sIx xs.length 0 none = 0 := rfl
  rw [e2]
  omega
theorem ok_mapA01 {α β γ : Type} {P : γ → Prop} {Q : β → Prop} {g : α → Option γ} {f : List γ → Option β} {xs : List α} (e : ∀ x ∈ xs, Ok (g x) P) (K : ∀ ys, ys.length = xs.length → (∀ y ∈ ys, P y) → Ok (f ys) Q) : Ok ((mapO g xs).bnd f) Q :=
  ok_mapP (R := fun _ y => P y) e fun ys p => K ys p.length.symm fun y hy => by
    obtain ⟨i, g⟩ := List.getElem?_of_mem hy
    obtain ⟨x, _, h⟩ := Paired.getR p g
    exact h
theorem i140 {x : Int} (h : -(10 ^ 32) ≤ x) (h2 : x ≤ 10 ^ 32) : x.natAbs < 10 ^ 140 := n140 (by omega) (by omega)
theorem nice_w01 {i : Int} (h : -(10 ^ 32) ≤ i) (h2 : i ≤ 10 ^ 32) : Nice (.int i) 2 1500 := (nice_big (i140 h h2)).mono (by decide) (by decide)
theorem nice_p01 {a b : PyData} (ha : Nice a 1 470) (hb : Nice b 1 470) : Nice (.tuple [a, b]) 2 1500 := (nice_tup (ds := [a, b]) (p := 1) (w := 470) fun d hd => by
  rcases List.mem_cons.mp hd with rfl | hd
  · exact ha
  · rw [List.mem_singleton.mp hd]; exact hb).mono (by decide) (by show 2 * 471 ≤ 1500; decide)
theorem nice_i01 {i : Int} (h : -(10 ^ 32) ≤ i) (h2 : i ≤ 10 ^ 32) : Nice (.int i) 1 470 := (nice_big (i140 h h2)).mono (by decide) (by decide)
theorem nice_s01 (x : Str) (h : ((PyData.str x).showable && ((PyData.str x).leavesShort 150 && ((PyData.str x).canLay0 && decide ((PyData.str x).weight ≤ 470)))) = true) : Nice (.str x) 1 470 := by
  simp only [Bool.and_eq_true, decide_eq_true_eq] at h
  exact ⟨h.1, by simp only [PyData.hasDict], h.2.1, h.2.2.1, by simp only [PyData.depth]; omega, h.2.2.2⟩
theorem thing_list01 {ds : List PyData} (h : ∀ d ∈ ds, Nice d 2 1500) (hl : ds.length ≤ 62) : ThingF ⟨.list ds⟩ := by
  refine thing_nice (nice_list h) (by decide) ?_ fun es e => ?_
  · show ds.length * (1500 + 1) ≤ 100000
    have : ds.length * 1501 ≤ 62 * 1501 := Nat.mul_le_mul_right _ hl
    omega
  · have e := PyData.list.inj e
    subst e
    omega
theorem rec01 {m : Int} {p : Int × Int} (w2 : m ≤ 10 ^ 30) (h : RecF m p) : Nice (EncW.w p) 2 1500 := by
  have := h
  unfold RecF at this
  exact nice_p01 (nice_i01 (by omega) (by omega)) (nice_i01 (by omega) (by omega))
theorem thing_lot01 {m : Int} {l : List (Int × Int)} (w2 : m ≤ 10 ^ 30) (h : ∀ p ∈ l, RecF m p) (hl : l.length ≤ 62) : ThingF ⟨EncW.w l⟩ := thing_list01 (fun d hd => by
  obtain ⟨p, hp, rfl⟩ := List.mem_map.mp hd
  exact rec01 w2 (h p hp)) (by rw [List.length_map]; exact hl)
theorem thing_flat01 {x : Any} (n : Nice x.d 2 1500) (h : ∀ ds, x.d ≠ .list ds) : ThingF x := thing_nice n (by decide) (by decide) fun ds e => absurd e (h ds)
theorem k_law_near {zs : List Int} {N : Nat} {m : Int} {lot : List (Int × Int)} (R : RingF m lot) (hs : SrcOk zs N) (hN : N + 100 < 2 ^ 190) : Ok (G_law_near zs m lot) fun r => (∀ x ∈ r.1, ThingF x) ∧ r.1.length ≤ 60 ∧ SrcOk r.2 (N + 1) := by
  have w1 := R.w1
  have w2 := R.w2
  have n1 := R.n1
  have n2 := R.n2
  unfold G_law_near
  refine ok_draw hs (by omega) (by omega) (by omega) fun k z1 k0 k1 so => ?_
  refine ok_at (P := fun p : Int × Int => RecF m p) k0 k1 R.rc fun p hp => ?_
  have rp := hp
  unfold RecF at rp
  have na : Nice (.int p.1) 1 470 := nice_i01 (by omega) (by omega)
  have nb : Nice (.int p.2) 1 470 := nice_i01 (by omega) (by omega)
  refine ok_e p10_31 (ok_e p10_31 (ok_shortL (by simp) ?_))
  refine ok_e (v := ⟨.tuple [.int p.1]⟩) rfl (ok_shortL (by simp) (ok_shortL (by simp) (ok_cat (by simp) (ok_shortL (by simp) (ok_cat (by simp) ?_)))))
  refine ok_short (by simp) ?_
  have c1 := cut_sub01 (xs := lot) (a := none) (b := some k)
  have c2 := cut_sub01 (xs := lot) (a := some (k + 1)) (b := none)
  refine ok_mapA01 (P := ThingF) (fun x hx => ?_) fun found hf hfd => ?_
  · have nx : Nice x.d 2 1500 := by
      simp only [List.mem_append, List.mem_cons, List.not_mem_nil, or_false] at hx
      rcases hx with ((rfl | rfl | rfl | rfl | rfl | rfl | rfl) | rfl | rfl | rfl | rfl | rfl | rfl | rfl | rfl | rfl) | rfl | rfl
      · exact nice_p01 (a := .int m) (nice_i01 (by omega) (by omega)) nb
      · exact nice_p01 (a := .int (m - 1)) (nice_i01 (by omega) (by omega)) nb
      · exact nice_p01 (a := .int (-1)) (nice_i01 (by omega) (by omega)) nb
      · exact nice_p01 (b := .int 0) na (nice_i01 (by omega) (by omega))
      · exact nice_p01 (b := .int (10 ^ 31)) na (nice_i01 (by omega) (by omega))
      · exact nice_p01 (b := .int (10 ^ 31 + 1)) na (nice_i01 (by omega) (by omega))
      · exact nice_p01 (b := .int (-1)) na (nice_i01 (by omega) (by omega))
      · exact (nice_tup (ds := [.int p.1]) (p := 1) (w := 470) fun d hd => by rw [List.mem_singleton.mp hd]; exact na).mono (by decide) (by show 1 * 471 ≤ 1500; decide)
      · exact na.mono (by decide) (by decide)
      · refine (nice_tup (ds := [.int p.1, .int p.2, .int 1]) (p := 1) (w := 470) fun d hd => ?_).mono (by decide) (by show 3 * 471 ≤ 1500; decide)
        simp only [List.mem_cons, List.not_mem_nil, or_false] at hd
        rcases hd with rfl | rfl | rfl
        · exact na
        · exact nb
        · exact nice_i01 (by omega) (by omega)
      · refine (nice_list (ds := [.int p.1, .int p.2]) (p := 1) (w := 470) fun d hd => ?_).mono (by decide) (by show 2 * 471 ≤ 1500; decide)
        simp only [List.mem_cons, List.not_mem_nil, or_false] at hd
        rcases hd with rfl | rfl
        · exact na
        · exact nb
      · exact nice_none.mono (by decide) (by decide)
      · exact nice_p01 (a := .bool true) ((nice_bool true).mono (by decide) (by decide)) nb
      · exact nice_p01 (b := .bool true) na ((nice_bool true).mono (by decide) (by decide))
      · exact nice_p01 (a := .none) (nice_none.mono (by decide) (by decide)) nb
      · exact nice_p01 (b := .none) na (nice_none.mono (by decide) (by decide))
      · exact nice_p01 (a := .str (Str.ofString "0")) (b := .int 1) (nice_s01 _ (by decide +kernel)) (nice_i01 (by omega) (by omega))
      · exact nice_p01 (b := .str (Str.ofString "1")) na (nice_s01 _ (by decide +kernel))
    refine ok_shortL (by simp) (ok_cat (by simp [toAL]; omega) (ok_cat (by simp [toAL]; omega) (ok_some ?_)))
    refine thing_list01 (fun d hd => ?_) (by simp [toAL]; omega)
    obtain ⟨y, hy, rfl⟩ := List.mem_map.mp hd
    have it : ∀ xs : List (Int × Int), (∀ v ∈ xs, v ∈ lot) → y ∈ toAL xs → Nice y.d 2 1500 := fun xs hxs hy => by
      obtain ⟨v, hv, rfl⟩ := List.mem_map.mp hy
      exact rec01 w2 (R.rc v (hxs v hv))
    rcases List.mem_append.mp hy with hy | hy
    · rcases List.mem_append.mp hy with hy | hy
      · exact it _ c1.1 hy
      · rw [List.mem_singleton.mp hy]; exact nx
    · exact it _ c2.1 hy
  · have hf : found.length = 18 := by rw [hf]; rfl
    have c3 := cut_sub01 (xs := lot) (a := none) (b := some (1 : Int))
    refine ok_cat (by omega) (ok_shortL (by simp) ?_)
    have rep : ∀ n : Nat, n ≤ 100 → gRepR lot (n : Int) = some (List.replicate n lot).flatten := fun n hn => by
      unfold gRepR
      rw [if_pos ⟨by omega, by omega, by omega⟩]
      rfl
    have repm : ∀ n : Nat, ∀ q ∈ (List.replicate n lot).flatten, RecF m q := fun n q hq => by
      obtain ⟨l, hl, hq⟩ := List.mem_flatten.mp hq
      rw [List.eq_of_mem_replicate hl] at hq
      exact R.rc q hq
    refine ok_e (rep 30 (by decide)) (ok_e (rep 31 (by decide)) (ok_shortL (by simp) (ok_cat (by simp; omega) ?_)))
    refine ok_at (P := fun p : Int × Int => RecF m p) k0 k1 R.rc fun p2 hp2 => ok_shortL (by simp) (ok_shortL (by simp) (ok_cat (by simp; omega) (ok_some ⟨fun x hx => ?_, by simp; omega, so⟩)))
    rcases List.mem_append.mp hx with hx | hx
    · rcases List.mem_append.mp hx with hx | hx
      · exact hfd x hx
      simp only [List.mem_cons, List.not_mem_nil, or_false] at hx
      rcases hx with rfl | rfl | rfl | rfl | rfl | rfl
      · refine thing_nice (p := 3) (w := (lot.map EncW.w).length * (1500 + 1)) (nice_tup (p := 2) fun d hd => ?_) (by decide) ?_ fun ds e => by cases e
        · obtain ⟨q, hq, rfl⟩ := List.mem_map.mp hd
          exact rec01 w2 (R.rc q hq)
        · rw [List.length_map]
          have : lot.length * 1501 ≤ 30 * 1501 := Nat.mul_le_mul_right _ n2
          omega
      · have c0 := cut_sub01 (xs := lot) (a := none) (b := some (0 : Int))
        exact thing_lot01 w2 (fun q hq => R.rc q (c0.1 q hq)) (by omega)
      · refine thing_lot01 (l := lot ++ cutL lot none (some (1 : Int))) w2 (fun q hq => ?_) ?_
        · rcases List.mem_append.mp hq with hq | hq
          · exact R.rc q hq
          · exact R.rc q (c3.1 q hq)
        · have := cut_le01 (xs := lot) (n := 1)
          rw [List.length_append]
          have e : (cutL lot none (some (1 : Int))).length ≤ 1 := this
          omega
      · refine thing_nice (p := 4) (w := 1 * ((lot.map EncW.w).length * (1500 + 1) + 1)) (nice_list (ds := [EncW.w lot]) (p := 3) fun d hd => ?_) (by decide) ?_ fun ds e => ?_
        · rw [List.mem_singleton.mp hd]
          exact nice_list fun d hd => by
            obtain ⟨q, hq, rfl⟩ := List.mem_map.mp hd
            exact rec01 w2 (R.rc q hq)
        · rw [List.length_map]
          have : lot.length * 1501 ≤ 30 * 1501 := Nat.mul_le_mul_right _ n2
          omega
        · have e := PyData.list.inj e
          subst e
          show 1 ≤ 1000
          decide
      · have c4 := cut_sub01 (xs := (List.replicate 30 lot).flatten) (a := none) (b := some (30 : Int))
        exact thing_lot01 w2 (fun q hq => repm 30 q (c4.1 q hq)) (Nat.le_trans (cut_le01 (n := 30)) (by decide))
      · have c4 := cut_sub01 (xs := (List.replicate 31 lot).flatten) (a := none) (b := some (31 : Int))
        exact thing_lot01 w2 (fun q hq => repm 31 q (c4.1 q hq)) (Nat.le_trans (cut_le01 (n := 31)) (by decide))
    · simp only [List.mem_cons, List.not_mem_nil, or_false] at hx
      rcases hx with rfl | rfl | rfl | rfl | rfl | rfl | rfl | rfl
      · exact thing_flat01 (nice_none.mono (by decide) (by decide)) fun ds e => by cases e
      · exact thing_flat01 (nice_w01 (i := 0) (by decide) (by decide)) fun ds e => by cases e
      · exact thing_flat01 ((nice_s01 _ (by decide +kernel)).mono (by decide) (by decide)) fun ds e => by cases e
      · exact thing_emp
      · exact thing_flat01 ((nice_bool true).mono (by decide) (by decide)) fun ds e => by cases e
      · exact thing_flat01 ((nice_s01 _ (by decide +kernel)).mono (by decide) (by decide)) fun ds e => by cases e
      · exact thing_flat01 (rec01 w2 hp2) fun ds e => by cases e
      · exact thing_list01 (ds := [.none]) (fun d hd => by rw [List.mem_singleton.mp hd]; exact nice_none.mono (by decide) (by decide)) (by simp)
theorem k_law (script : List Int) (hs : script.length ≤ 63) : Ok (G_law script) (· = true) := by
  unfold G_law
  refine ok_shortL (by simp) (ok_cat (by simp; omega) ?_)
  have q1 : (1 : Int) ≤ (if (if (6 : Int) < (script.length : Int) then (6 : Int) else (script.length : Int)) > (1 : Int) then (if (6 : Int) < (script.length : Int) then (6 : Int) else (script.length : Int)) else (1 : Int)) := by
    split <;> omega
  refine ok_loopI (fun _ => True) trivial (fun x hx u _ => ?_) fun u _ => ?_
  · have hx2 := cut_head hs q1 x hx
    refine ok_source hx2.1 hx2.2 fun zs s0 => ?_
    refine ok_draw s0 (by decide) (by decide) (by decide) fun a1 z1 a10 a11 s1 => ok_e p10_30 ?_
    refine ok_draw s1 (by decide) (by decide) (by decide) fun a2 z2 a20 a21 s2 => ok_e p10_30 (ok_shortL (by simp) ?_)
    refine ok_draw s2 (by decide) (by decide) (by decide) fun a3 z3 a30 a31 s3 => ?_
    refine ok_at (P := fun w : Int => 1 ≤ w ∧ w ≤ 10 ^ 30) a30 (by simpa using a31) (fun y hy => by
      simp only [List.mem_cons, List.not_mem_nil, or_false] at hy
      rcases hy with rfl | rfl | rfl | rfl <;> omega) fun m hm => ?_
    refine ok_shortL (by simp) (ok_shortL (by simp) (ok_e (neD_script _) ?_))
    refine ok_at (P := fun w : Int => 1 ≤ w ∧ w ≤ 30) (by split <;> decide) (by split <;> decide) (fun y hy => by
      simp only [List.mem_cons, List.not_mem_nil, or_false] at hy
      rcases hy with rfl | rfl <;> omega) fun top htop => ?_
    refine ok_draw s3 (by decide) (by omega) (by omega) fun a4 z4 a40 a41 s4 => ?_
    obtain ⟨n, en⟩ : ∃ n : Nat, 1 + a4 = n := ⟨(1 + a4).toNat, by omega⟩
    rw [en]
    refine ok_b (k_law_lot s4 (by omega) hm.1 hm.2 (by omega)) fun r5 h5 => ?_
    have R : RingF m r5.1 := ⟨hm.1, hm.2, by omega, by omega, h5.2.1.rec hm.1 hm.2⟩
    refine ok_shortL (by simp) (ok_b (k_law_near R h5.2.2 (by omega)) fun r6 h6 => ok_cat (by simp [toAL]; omega) ?_)
    refine ok_loopI (fun _ => True) trivial (fun x hx u _ => ?_) fun u _ => ok_some ⟨(), rfl, trivial⟩
    have tx : ThingF x := by
      rcases List.mem_append.mp hx with hx | hx
      · obtain ⟨l, hl, rfl⟩ := List.mem_map.mp hx
        rw [List.mem_singleton.mp hl]
        exact thing_lot01 hm.2 R.rc (by have := R.n2; omega)
      · exact h6.1 x hx
    obtain ⟨z, ez⟩ := bools01 (dueD m x.d)
    refine ok_e tx.repr (ok_e (k_law_due x tx.2) (ok_e (k_is_records hm.1 hm.2 x) (ok_e (k_is_records hm.1 hm.2 x) (ok_shortL (by simp) (ok_e ez (ok_shortL (by simp) (ok_e ez ?_)))))))
    exact ok_b (P := (· = false)) (ok_F (by simp) (ok_e tx.repr (ok_some (by simp)))) fun t ht => ok_F ht (ok_some ⟨(), rfl, trivial⟩)
  · dsimp only
    refine ok_e p10_31 (ok_shortL (by simp) (ok_e (k_is_records (by decide) (by decide) _) (ok_some ?_)))
    decide +kernel
end
end N01
namespace N01
open PySem PySem.Spec PyProof.Rows L2 Rg Rm
open Rm.Enc (rel)
open Rm.Slots (srels)
section
local macro_rules | `(tactic| walk_at "bd") => `(tactic| first | exact nb (by omega) (by omega) (by decide) | decide +kernel)
local macro_rules | `(tactic| walk_at "stp") => `(tactic| first
  | refine ok_s ?_
  | refine ok_mod (by omega) ?_
  | refine ok_shortL (by first | (simp only [List.length_nil, List.length_cons, List.length_map, List.length_append]; done) | (simp only [List.length_nil, List.length_cons, List.length_map, List.length_append]; omega) | omega) ?_
  | refine ok_div (by omega) (by walk_at "bd") ?_
  | refine ok_mul (by walk_at "bd") (by walk_at "bd") ?_
  | refine ok_fits (by first | omega | (simp only [List.length_nil, List.length_cons, List.length_map, List.length_append]; done) | (simp only [List.length_nil, List.length_cons, List.length_map, List.length_append]; omega)) ?_
  | refine ok_short (by first | omega | (simp only [List.length_nil, List.length_cons, List.length_map, List.length_append]; done) | (simp only [List.length_nil, List.length_cons, List.length_map, List.length_append]; omega)) ?_)
local macro_rules | `(tactic| walk_at "stps") => `(tactic| repeat (first | walk_at "stp" | refine ok_e p10_30 ?_ | refine ok_e p10_31 ?_ | refine ok_e p10_29 ?_ | refine ok_e p10_40 ?_ | refine ok_e p10_5 ?_ | refine ok_e p10_15 ?_ | refine ok_e p10_20 ?_ | refine ok_e p10_28 ?_))
section
variable {P : Program} {w : World} {K : PySem.W.Frag} {mg : Str → Option Value} {base : Heap}
def spLaw (K : PySem.W.Frag) : Sp := fun vs H Q _ => ∃ (a : Addr) (ns : List Int), vs = [.ref a] ∧ SqL K H a (ns.map V.int) ∧ ns.length ≤ 63 ∧ ∀ H', Q (.bl true) H'
theorem law_conv {vs : List V} {H : Hp} {Q : VK} {E : XK} (h : spLaw K vs H Q E) : spP K F_law vs H Q E := by
  obtain ⟨a, ns, rfl, hs, hl, q⟩ := h
  refine ⟨H, (ns, ()), true, Same.refl _, ⟨_, _, rfl, ⟨a, _, rfl, hs, Paired.ofmap (R := rel K H) (f := V.int) (fun _ => rfl) ns⟩, rfl⟩, (g_law ns).trans (Ok.eq (k_law ns hl)), fun v F' H' _ r => ?_⟩
  cases r
  exact q H'
theorem lawE (T : Tx K mg) : FnG P w K mg base CX0 6 T.a_law T.d_law P_law (spLaw K) :=
  have F : FnG P w K mg base CX0 6 T.a_law T.d_law P_law (spP K F_law) := ok_law T
  ⟨fun h => by
    obtain ⟨a, ns, rfl, _⟩ := h
    rfl, fun hg hr e0 b v h => F.go hg hr e0 b v (law_conv h)⟩
end
end
end N01
namespace N01
open PySem PySem.Spec PyProof.Rows L2 Rg
theorem all_mk {l : PySem.W.OpenLaw} {w : World} {K : PySem.W.Frag} {h : Heap} {mg : Str → Option Value} {fa : Addr} (X : K.In h) (G : h.Ns mainGlobals mg) (hfa : mg "law" = some (.ref fa))
    {f0 f1 f2 f3 f4 f5 f6 f7 f8 f9 f10 f11 f12 f13 : Addr} {od0 od1 od2 od3 od4 od5 od6 od7 od8 od9 od10 od11 od12 od13 an0 an1 an2 an3 an4 an5 an6 an7 an8 an9 an10 an11 an12 an13 : Option Addr}
    {sl0 sl1 sl2 sl3 sl4 sl5 sl6 sl7 sl8 sl9 sl10 sl11 sl12 sl13 : Array (Option Value)} {oc0 oc1 oc2 oc3 oc4 oc5 oc6 oc7 oc8 oc9 oc10 oc11 oc12 oc13 kV0 kV1 kV2 kV3 kV4 kV5 kV6 kV7 kV8 kV9 kV10 kV11 kV12 kV13 dc0 dc1 dc2 dc3 dc4 dc5 dc6 dc7 dc8 dc9 dc10 dc11 dc12 dc13 pm0 pm1 pm2 pm3 pm4 pm5 pm6 pm7 pm8 pm9 pm10 pm11 pm12 pm13 cd0 cd1 cd2 cd3 cd4 cd5 cd6 cd7 cd8 cd9 cd10 cd11 cd12 cd13 ct0 ct1 ct2 ct3 ct4 ct5 ct6 ct7 ct8 ct9 ct10 ct11 ct12 ct13 : Value}
    (a0 : PySem.W.nsIn K mainGlobals "is_integer" = some (some (.ref f0)))
    (l0 : K.lookup f0 = some ⟨oc0, od0, .func (PySem.W.fnOf "is_integer" "is_integer" (defArgs s_is_integer) (defBody s_is_integer) (defScope s_is_integer) .none kV0 dc0 pm0 an0 cd0 ct0), sl0⟩)
    (c0 : PySem.W.codeIn K cd0 "is_integer" = true) (k0 : PySem.W.keepIn K (.ref f0) = true)
    (a1 : PySem.W.nsIn K mainGlobals "is_between" = some (some (.ref f1)))
    (l1 : K.lookup f1 = some ⟨oc1, od1, .func (PySem.W.fnOf "is_between" "is_between" (defArgs s_is_between) (defBody s_is_between) (defScope s_is_between) .none kV1 dc1 pm1 an1 cd1 ct1), sl1⟩)
    (c1 : PySem.W.codeIn K cd1 "is_between" = true) (k1 : PySem.W.keepIn K (.ref f1) = true)
    (a2 : PySem.W.nsIn K mainGlobals "is_list" = some (some (.ref f2)))
    (l2 : K.lookup f2 = some ⟨oc2, od2, .func (PySem.W.fnOf "is_list" "is_list" (defArgs s_is_list) (defBody s_is_list) (defScope s_is_list) .none kV2 dc2 pm2 an2 cd2 ct2), sl2⟩)
    (c2 : PySem.W.codeIn K cd2 "is_list" = true) (k2 : PySem.W.keepIn K (.ref f2) = true)
    (a3 : PySem.W.nsIn K mainGlobals "is_mark" = some (some (.ref f3)))
    (l3 : K.lookup f3 = some ⟨oc3, od3, .func (PySem.W.fnOf "is_mark" "is_mark" (defArgs s_is_mark) (defBody s_is_mark) (defScope s_is_mark) .none kV3 dc3 pm3 an3 cd3 ct3), sl3⟩)
    (c3 : PySem.W.codeIn K cd3 "is_mark" = true) (k3 : PySem.W.keepIn K (.ref f3) = true)
    (a4 : PySem.W.nsIn K mainGlobals "is_record" = some (some (.ref f4)))
    (l4 : K.lookup f4 = some ⟨oc4, od4, .func (PySem.W.fnOf "is_record" "is_record" (defArgs s_is_record) (defBody s_is_record) (defScope s_is_record) .none kV4 dc4 pm4 an4 cd4 ct4), sl4⟩)
    (c4 : PySem.W.codeIn K cd4 "is_record" = true) (k4 : PySem.W.keepIn K (.ref f4) = true)
    (a5 : PySem.W.nsIn K mainGlobals "check_marks" = some (some (.ref f5)))
    (l5 : K.lookup f5 = some ⟨oc5, od5, .func (PySem.W.fnOf "check_marks" "check_marks" (defArgs s_check_marks) (defBody s_check_marks) (defScope s_check_marks) .none kV5 dc5 pm5 an5 cd5 ct5), sl5⟩)
    (c5 : PySem.W.codeIn K cd5 "check_marks" = true) (k5 : PySem.W.keepIn K (.ref f5) = true)
    (a6 : PySem.W.nsIn K mainGlobals "is_records" = some (some (.ref f6)))
    (l6 : K.lookup f6 = some ⟨oc6, od6, .func (PySem.W.fnOf "is_records" "is_records" (defArgs s_is_records) (defBody s_is_records) (defScope s_is_records) .none kV6 dc6 pm6 an6 cd6 ct6), sl6⟩)
    (c6 : PySem.W.codeIn K cd6 "is_records" = true) (k6 : PySem.W.keepIn K (.ref f6) = true)
    (a7 : PySem.W.nsIn K mainGlobals "_law_source" = some (some (.ref f7)))
    (l7 : K.lookup f7 = some ⟨oc7, od7, .func (PySem.W.fnOf "_law_source" "_law_source" (defArgs s_law_source) (defBody s_law_source) (defScope s_law_source) .none kV7 dc7 pm7 an7 cd7 ct7), sl7⟩)
    (c7 : PySem.W.codeIn K cd7 "_law_source" = true) (k7 : PySem.W.keepIn K (.ref f7) = true)
    (a8 : PySem.W.nsIn K mainGlobals "_law_draw" = some (some (.ref f8)))
    (l8 : K.lookup f8 = some ⟨oc8, od8, .func (PySem.W.fnOf "_law_draw" "_law_draw" (defArgs s_law_draw) (defBody s_law_draw) (defScope s_law_draw) .none kV8 dc8 pm8 an8 cd8 ct8), sl8⟩)
    (c8 : PySem.W.codeIn K cd8 "_law_draw" = true) (k8 : PySem.W.keepIn K (.ref f8) = true)
    (a9 : PySem.W.nsIn K mainGlobals "_law_lot" = some (some (.ref f9)))
    (l9 : K.lookup f9 = some ⟨oc9, od9, .func (PySem.W.fnOf "_law_lot" "_law_lot" (defArgs s_law_lot) (defBody s_law_lot) (defScope s_law_lot) .none kV9 dc9 pm9 an9 cd9 ct9), sl9⟩)
    (c9 : PySem.W.codeIn K cd9 "_law_lot" = true) (k9 : PySem.W.keepIn K (.ref f9) = true)
    (a10 : PySem.W.nsIn K mainGlobals "_law_is_whole" = some (some (.ref f10)))
    (l10 : K.lookup f10 = some ⟨oc10, od10, .func (PySem.W.fnOf "_law_is_whole" "_law_is_whole" (defArgs s_law_is_whole) (defBody s_law_is_whole) (defScope s_law_is_whole) .none kV10 dc10 pm10 an10 cd10 ct10), sl10⟩)
    (c10 : PySem.W.codeIn K cd10 "_law_is_whole" = true) (k10 : PySem.W.keepIn K (.ref f10) = true)
    (a11 : PySem.W.nsIn K mainGlobals "_law_due" = some (some (.ref f11)))
    (l11 : K.lookup f11 = some ⟨oc11, od11, .func (PySem.W.fnOf "_law_due" "_law_due" (defArgs s_law_due) (defBody s_law_due) (defScope s_law_due) .none kV11 dc11 pm11 an11 cd11 ct11), sl11⟩)
    (c11 : PySem.W.codeIn K cd11 "_law_due" = true) (k11 : PySem.W.keepIn K (.ref f11) = true)
    (a12 : PySem.W.nsIn K mainGlobals "_law_near" = some (some (.ref f12)))
    (l12 : K.lookup f12 = some ⟨oc12, od12, .func (PySem.W.fnOf "_law_near" "_law_near" (defArgs s_law_near) (defBody s_law_near) (defScope s_law_near) .none kV12 dc12 pm12 an12 cd12 ct12), sl12⟩)
    (c12 : PySem.W.codeIn K cd12 "_law_near" = true) (k12 : PySem.W.keepIn K (.ref f12) = true)
    (a13 : PySem.W.nsIn K mainGlobals "law" = some (some (.ref f13)))
    (l13 : K.lookup f13 = some ⟨oc13, od13, .func (PySem.W.fnOf "law" "law" (defArgs s_law) (defBody s_law) (defScope s_law) .none kV13 dc13 pm13 an13 cd13 ct13), sl13⟩)
    (c13 : PySem.W.codeIn K cd13 "law" = true) (k13 : PySem.W.keepIn K (.ref f13) = true)
    (z_abs : PySem.W.nsIn K mainGlobals "abs" = some none)
    (z_all : PySem.W.nsIn K mainGlobals "all" = some none)
    (z_bool : PySem.W.nsIn K mainGlobals "bool" = some none)
    (z_enumerate : PySem.W.nsIn K mainGlobals "enumerate" = some none)
    (z_int : PySem.W.nsIn K mainGlobals "int" = some none)
    (z_isinstance : PySem.W.nsIn K mainGlobals "isinstance" = some none)
    (z_len : PySem.W.nsIn K mainGlobals "len" = some none)
    (z_list : PySem.W.nsIn K mainGlobals "list" = some none)
    (z_max : PySem.W.nsIn K mainGlobals "max" = some none)
    (z_min : PySem.W.nsIn K mainGlobals "min" = some none)
    (z_range : PySem.W.nsIn K mainGlobals "range" = some none)
    (z_repr : PySem.W.nsIn K mainGlobals "repr" = some none)
    (z_sum : PySem.W.nsIn K mainGlobals "sum" = some none)
    (z_tuple : PySem.W.nsIn K mainGlobals "tuple" = some none)
    (z_type : PySem.W.nsIn K mainGlobals "type" = some none)
    {t_MOST_LENGTH : Tok} (q_MOST_LENGTH : PySem.W.nsIn K mainGlobals "MOST_LENGTH" = some (some (.int (10000000000000000000000000000000) t_MOST_LENGTH)))
    {t_MOST_MARKS : Tok} (q_MOST_MARKS : PySem.W.nsIn K mainGlobals "MOST_MARKS" = some (some (.int (1000000000000000000000000000000) t_MOST_MARKS)))
    {t_MOST_RECORDS : Tok} (q_MOST_RECORDS : PySem.W.nsIn K mainGlobals "MOST_RECORDS" = some (some (.int (30) t_MOST_RECORDS)))
    : ∃ fd : FuncData, (∀ (s : Shared) (v : Value), BindsTo s fd ⟨[v], []⟩ [("script", v)]) ∧ ∀ base : Heap, K.In base → base.Ns mainGlobals mg → FnG l.prog w K mg base CX0 6 fa fd ["script"] (spLaw K) := by
  have e := hfa.symm.trans (PySem.W.mg_of X G a13)
  cases e
  have w_MOST_LENGTH : mg "MOST_LENGTH" = some (.int (10 ^ 31) t_MOST_LENGTH) := (PySem.W.mg_of X G q_MOST_LENGTH).trans (congrArg (fun z => some (Value.int z t_MOST_LENGTH)) (by decide))
  have w_MOST_MARKS : mg "MOST_MARKS" = some (.int (10 ^ 30) t_MOST_MARKS) := (PySem.W.mg_of X G q_MOST_MARKS).trans (congrArg (fun z => some (Value.int z t_MOST_MARKS)) (by decide))
  have w_MOST_RECORDS : mg "MOST_RECORDS" = some (.int (30) t_MOST_RECORDS) := (PySem.W.mg_of X G q_MOST_RECORDS).trans (congrArg (fun z => some (Value.int z t_MOST_RECORDS)) (by decide))
  have F0 := fun_mk (st := s_is_integer) l0 c0 k0
  have B0 := F0.binds (ps := P_is_integer) fun _ _ _ _ _ _ us hl => match us, hl with | [_], _ => rfl
  have F1 := fun_mk (st := s_is_between) l1 c1 k1
  have B1 := F1.binds (ps := P_is_between) fun _ _ _ _ _ _ us hl => match us, hl with | [_, _, _], _ => rfl
  have F2 := fun_mk (st := s_is_list) l2 c2 k2
  have B2 := F2.binds (ps := P_is_list) fun _ _ _ _ _ _ us hl => match us, hl with | [_, _, _], _ => rfl
  have F3 := fun_mk (st := s_is_mark) l3 c3 k3
  have B3 := F3.binds (ps := P_is_mark) fun _ _ _ _ _ _ us hl => match us, hl with | [_, _], _ => rfl
  have F4 := fun_mk (st := s_is_record) l4 c4 k4
  have B4 := F4.binds (ps := P_is_record) fun _ _ _ _ _ _ us hl => match us, hl with | [_, _], _ => rfl
  have F5 := fun_mk (st := s_check_marks) l5 c5 k5
  have B5 := F5.binds (ps := P_check_marks) fun _ _ _ _ _ _ us hl => match us, hl with | [_], _ => rfl
  have F6 := fun_mk (st := s_is_records) l6 c6 k6
  have B6 := F6.binds (ps := P_is_records) fun _ _ _ _ _ _ us hl => match us, hl with | [_, _], _ => rfl
  have F7 := fun_mk (st := s_law_source) l7 c7 k7
  have B7 := F7.binds (ps := P_law_source) fun _ _ _ _ _ _ us hl => match us, hl with | [_, _], _ => rfl
  have F8 := fun_mk (st := s_law_draw) l8 c8 k8
  have B8 := F8.binds (ps := P_law_draw) fun _ _ _ _ _ _ us hl => match us, hl with | [_, _], _ => rfl
  have F9 := fun_mk (st := s_law_lot) l9 c9 k9
  have B9 := F9.binds (ps := P_law_lot) fun _ _ _ _ _ _ us hl => match us, hl with | [_, _, _], _ => rfl
  have F10 := fun_mk (st := s_law_is_whole) l10 c10 k10
  have B10 := F10.binds (ps := P_law_is_whole) fun _ _ _ _ _ _ us hl => match us, hl with | [_, _, _], _ => rfl
  have F11 := fun_mk (st := s_law_due) l11 c11 k11
  have B11 := F11.binds (ps := P_law_due) fun _ _ _ _ _ _ us hl => match us, hl with | [_, _], _ => rfl
  have F12 := fun_mk (st := s_law_near) l12 c12 k12
  have B12 := F12.binds (ps := P_law_near) fun _ _ _ _ _ _ us hl => match us, hl with | [_, _, _], _ => rfl
  have F13 := fun_mk (st := s_law) l13 c13 k13
  have B13 := F13.binds (ps := P_law) fun _ _ _ _ _ _ us hl => match us, hl with | [_], _ => rfl
  have K_kb0_is_records := KwB.of (ps := P_is_records) (ks := ["value", "marks"]) (js := [1, 0]) F6 (by decide) fun _ _ _ _ _ _ us hl => match us, hl with | [_, _], _ => rfl
  let T : Tx K mg := {
    a_is_integer := _, d_is_integer := _, p_is_integer := ⟨F0, B0, PySem.W.mg_of X G a0⟩,
    a_is_between := _, d_is_between := _, p_is_between := ⟨F1, B1, PySem.W.mg_of X G a1⟩,
    a_is_list := _, d_is_list := _, p_is_list := ⟨F2, B2, PySem.W.mg_of X G a2⟩,
    a_is_mark := _, d_is_mark := _, p_is_mark := ⟨F3, B3, PySem.W.mg_of X G a3⟩,
    a_is_record := _, d_is_record := _, p_is_record := ⟨F4, B4, PySem.W.mg_of X G a4⟩,
    a_check_marks := _, d_check_marks := _, p_check_marks := ⟨F5, B5, PySem.W.mg_of X G a5⟩,
    a_is_records := _, d_is_records := _, p_is_records := ⟨F6, B6, PySem.W.mg_of X G a6⟩,
    a_law_source := _, d_law_source := _, p_law_source := ⟨F7, B7, PySem.W.mg_of X G a7⟩,
    a_law_draw := _, d_law_draw := _, p_law_draw := ⟨F8, B8, PySem.W.mg_of X G a8⟩,
    a_law_lot := _, d_law_lot := _, p_law_lot := ⟨F9, B9, PySem.W.mg_of X G a9⟩,
    a_law_is_whole := _, d_law_is_whole := _, p_law_is_whole := ⟨F10, B10, PySem.W.mg_of X G a10⟩,
    a_law_due := _, d_law_due := _, p_law_due := ⟨F11, B11, PySem.W.mg_of X G a11⟩,
    a_law_near := _, d_law_near := _, p_law_near := ⟨F12, B12, PySem.W.mg_of X G a12⟩,
    a_law := _, d_law := _, p_law := ⟨F13, B13, PySem.W.mg_of X G a13⟩,
    kb0_is_records := K_kb0_is_records,
    n_abs := PySem.W.mg_none_of X G z_abs,
    n_all := PySem.W.mg_none_of X G z_all,
    n_bool := PySem.W.mg_none_of X G z_bool,
    n_enumerate := PySem.W.mg_none_of X G z_enumerate,
    n_int := PySem.W.mg_none_of X G z_int,
    n_isinstance := PySem.W.mg_none_of X G z_isinstance,
    n_len := PySem.W.mg_none_of X G z_len,
    n_list := PySem.W.mg_none_of X G z_list,
    n_max := PySem.W.mg_none_of X G z_max,
    n_min := PySem.W.mg_none_of X G z_min,
    n_range := PySem.W.mg_none_of X G z_range,
    n_repr := PySem.W.mg_none_of X G z_repr,
    n_sum := PySem.W.mg_none_of X G z_sum,
    n_tuple := PySem.W.mg_none_of X G z_tuple,
    n_type := PySem.W.mg_none_of X G z_type,
    t_MOST_LENGTH := _, c_MOST_LENGTH := w_MOST_LENGTH,
    t_MOST_MARKS := _, c_MOST_MARKS := w_MOST_MARKS,
    t_MOST_RECORDS := _, c_MOST_RECORDS := w_MOST_RECORDS }
  exact ⟨_, fun s v => .of_eq rfl, fun base _ _ => lawE T⟩
theorem walk {l : PySem.W.OpenLaw} {q : Program} {loose : List Str} {XP : (Str → Option Value) → Heap → Prop} {YP : World → Heap → Prop} {d : DefRec} {K : Params → PySem.W.Frag} (hn : l.most = some 63) (hdf : d.params.defaults = [])
    (hY : ∀ (w : World) (h : Heap), YP w h → (K w.params).In h)
    (F : ∀ (w : World) (mg : Str → Option Value) (fa : Addr) (h : Heap), (K w.params).In h → h.Ns mainGlobals mg → mg d.name = some (.ref fa) →
      ∃ fd : FuncData, (∀ (s : Shared) (u : Value), BindsTo s fd ⟨[u], []⟩ [("script", u)]) ∧ ∀ base : Heap, (K w.params).In base → base.Ns mainGlobals mg → FnG l.prog w (K w.params) mg base CX0 6 fa fd ["script"] (spLaw (K w.params))) :
    PySem.W.WalkO q loose XP YP l.row.toRowW d [] (fun f vs => PySem.call f vs) :=
  walkG (n := 63) (k := 6) (x := "script") (sp := spLaw) hn (by decide) hdf ⟨rfl, by decide, by decide⟩ hY F (fun _ _ a ns hl hS => ⟨a, ns, rfl, hS, hl, fun _ => rfl⟩)
end N01
open PySem PySem.W PyProof.Rows in
set_option maxRecDepth 100000 in
set_option maxHeartbeats 0 in
theorem PySem.Challenge.cw_ringreads_k01_records_recognized_holds : PySem.Challenge.rw_ringreads_k01_records_recognized.Holds := by
  w_on; o_law; k_head; (case hw => w_witness2)
  k_fill
  refine N01.walk (l := PySem.Challenge.rw_ringreads_k01_records_recognized) rfl rfl (fun w h Y => PySem.W.kIn_of Y) ?F
  case F =>
    intro w mg fa h KX G hmg
    refine' N01.all_mk KX G hmg ?a0 ?l0 ?c0 ?k0 ?a1 ?l1 ?c1 ?k1 ?a2 ?l2 ?c2 ?k2 ?a3 ?l3 ?c3 ?k3 ?a4 ?l4 ?c4 ?k4 ?a5 ?l5 ?c5 ?k5 ?a6 ?l6 ?c6 ?k6 ?a7 ?l7 ?c7 ?k7 ?a8 ?l8 ?c8 ?k8 ?a9 ?l9 ?c9 ?k9 ?a10 ?l10 ?c10 ?k10 ?a11 ?l11 ?c11 ?k11 ?a12 ?l12 ?c12 ?k12 ?a13 ?l13 ?c13 ?k13 ?z_abs ?z_all ?z_bool ?z_enumerate ?z_int ?z_isinstance ?z_len ?z_list ?z_max ?z_min ?z_range ?z_repr ?z_sum ?z_tuple ?z_type ?q_MOST_LENGTH ?q_MOST_MARKS ?q_MOST_RECORDS
    (case a0 => k_is)
    (case l0 => k_is)
    (case c0 => k_is)
    (case k0 => k_is)
    (case a1 => k_is)
    (case l1 => k_is)
    (case c1 => k_is)
    (case k1 => k_is)
    (case a2 => k_is)
    (case l2 => k_is)
    (case c2 => k_is)
    (case k2 => k_is)
    (case a3 => k_is)
    (case l3 => k_is)
    (case c3 => k_is)
    (case k3 => k_is)
    (case a4 => k_is)
    (case l4 => k_is)
    (case c4 => k_is)
    (case k4 => k_is)
    (case a5 => k_is)
    (case l5 => k_is)
    (case c5 => k_is)
    (case k5 => k_is)
    (case a6 => k_is)
    (case l6 => k_is)
    (case c6 => k_is)
    (case k6 => k_is)
    (case a7 => k_is)
    (case l7 => k_is)
    (case c7 => k_is)
    (case k7 => k_is)
    (case a8 => k_is)
    (case l8 => k_is)
    (case c8 => k_is)
    (case k8 => k_is)
    (case a9 => k_is)
    (case l9 => k_is)
    (case c9 => k_is)
    (case k9 => k_is)
    (case a10 => k_is)
    (case l10 => k_is)
    (case c10 => k_is)
    (case k10 => k_is)
    (case a11 => k_is)
    (case l11 => k_is)
    (case c11 => k_is)
    (case k11 => k_is)
    (case a12 => k_is)
    (case l12 => k_is)
    (case c12 => k_is)
    (case k12 => k_is)
    (case a13 => k_is)
    (case l13 => k_is)
    (case c13 => k_is)
    (case k13 => k_is)
    (case z_abs => k_is)
    (case z_all => k_is)
    (case z_bool => k_is)
    (case z_enumerate => k_is)
    (case z_int => k_is)
    (case z_isinstance => k_is)
    (case z_len => k_is)
    (case z_list => k_is)
    (case z_max => k_is)
    (case z_min => k_is)
    (case z_range => k_is)
    (case z_repr => k_is)
    (case z_sum => k_is)
    (case z_tuple => k_is)
    (case z_type => k_is)
    (case q_MOST_LENGTH => k_is)
    (case q_MOST_MARKS => k_is)
    (case q_MOST_RECORDS => k_is)
