import PyProof.Rows.All
import Wide.All
import OpenK.AllK
import Wide.FinOn
import HandS.ForMost
import HandS.ForExc
import HandS.Codes
import HandS.Lambda
import HandS.EndTab
import HandS.IsInst
import HandS.ExcIs
import HandS.Wide
import HandS.SetFor
import HandS.TupMul
import HandS.Conv
import HandS.Zip
import PySem.Challenge.RW_windowdog_k11_keepers_and_what_is_found
set_option Elab.async false
set_option linter.all false
set_option maxRecDepth 100000
set_option maxHeartbeats 4000000
/-! The readings step by step; heaps in which one list (the drawing's) changes. -/
namespace Wd
open PySem PySem.Spec PyProof.Rows L2

/-! ### rules -/
section
variable {X : Cx} {a b c d : Expr} {ta tb tc td : TE} {pos : Pos}
def tChain3 (r r' r2 : R2) (ta tb tc td : TE) : TE := fun σ H Q => ta σ H fun x H1 => tb σ H1 fun y H2 => r x y H2 fun z H3 => ∃ k, z = .bl k ∧
  (if k = true then tc σ H3 fun w' H4 => r' y w' H4 fun z2 H5 => ∃ k2, z2 = .bl k2 ∧ (if k2 = true then td σ H5 fun w2 H6 => r2 w' w2 H6 Q else Q (.bl false) H5) else Q (.bl false) H3)
theorem pe_chain3 {op op' op2 : CmpOp} {r r' r2 : R2} (ho : OpR X (compareOp op) r) (ho' : OpR X (compareOp op') r') (ho2 : OpR X (compareOp op2) r2) (ha : PE X a ta) (hb : PE X b tb) (hc : PE X c tc) (hd : PE X d td)
    (hm : lastMarks [op, op', op2] [b, c, d] = false := by with_unfolding_all rfl) : PE X (.Compare a [op, op', op2] [b, c, d] pos) (tChain3 r r' r2 ta tb tc td) := by
  refine ⟨fun pins s σ H Q I h => ?_⟩
  refine Compare_chain (thn (ha.run pins s σ H _ I h) fun v s1 ⟨x, H1, I1, r1, q1⟩ => chain_link (thn (hb.run pins s1 σ H1 _ I1 q1) fun u s2 ⟨y, H2, I2, r2, q2⟩ =>
    thn (ho pins s2 σ H2 x y v u _ I2 r1 r2 q2) fun d s3 ⟨z, H3, I3, r3, k, e, q3⟩ => ?_)) hm
  subst e
  cases r3
  refine wpAny_truthy_bool ?_
  cases k with
  | false => exact ite_ff ⟨.bl false, H3, I3, rfl, q3⟩
  | true =>
    refine ite_tt (chain_link (thn (hc.run pins s3 σ H3 _ I3 q3) fun w' s4 ⟨z', H4, I4, r4, q4⟩ => thn (ho' pins s4 σ H4 y z' u w' _ I4 r2 r4 q4) fun d5 s5 ⟨z5, H5, I5, r5, k5, e5, q5⟩ => ?_))
    subst e5
    cases r5
    refine wpAny_truthy_bool ?_
    cases k5 with
    | false => exact ite_ff ⟨.bl false, H5, I5, rfl, q5⟩
    | true => exact ite_tt (chain_last (thn (hd.run pins s5 σ H5 _ I5 q5) fun w6 s6 ⟨z6, H6, I6, r6, q6⟩ => ho2 pins s6 σ H6 z' z6 w' w6 Q I6 r4 r6 q6))
end

section
variable {X : Cx} {K : PySem.W.Frag} {name : Str} {T id : String} {r : V → List V → Hp → VK → Prop} {o e : Expr} {es : List Expr} {to : TE} {t : TA} {apos cpos : Pos}
theorem pe_bmK (hK : X.K = K) (pa : PlainAttrs T) (slot : Slot T name id) (hty : typeOf (.builtin id) = pure (.type "method_descriptor")) (hm : MtR X id r) (ho : PE X o to) (ha : PA X (e :: es) t)
    (hbase : attributeBase o name X.env (eval o X.env) = eval o X.env := by rfl)
    (hfew : ((backTo cpos (starEach (e :: es) X.env)).all (fun x => !x.1) && (backToKw cpos (keywordEach [] X.env)).all (fun x => x.1.isSome)
      && decide ((e :: es).length + ([] : List Keyword).length + (if ([] : List Keyword).isEmpty then 0 else 1) < 30)) = true := by rfl)
    (hline : (apos.endLine == cpos.line) = true := by rfl) (hs : starEach (e :: es) X.env = (false, eval e X.env) :: starEach es X.env := by rfl) (hplain : (backTo cpos (starEach es X.env)).any (·.1) = false := by rfl) : PE X (.Call (.Attribute o name apos) (e :: es) [] cpos) (tBM K T r to t) := by
  subst hK; exact pe_bm pa slot hty hm ho ha hbase hfew hline hs hplain
theorem pe_bm0K (hK : X.K = K) (pa : PlainAttrs T) (slot : Slot T name id) (hty : typeOf (.builtin id) = pure (.type "method_descriptor")) (hm : MtR X id r) (ho : PE X o to)
    (hbase : attributeBase o name X.env (eval o X.env) = eval o X.env := by rfl) (hline : (apos.endLine == cpos.line) = true := by rfl) : PE X (.Call (.Attribute o name apos) [] [] cpos) (tBM0 K T r to) := by
  subst hK; exact pe_bm0 pa slot hty hm ho hbase hline
end

/-- a def of the module that may let an exception out -/
structure CalX (P : Program) (w : World) (K : PySem.W.Frag) (mg : Str → Option Value) (base : Heap) (k : Nat) (x : Str) (sp : Sp) : Prop where
  ex : ∃ (f : Addr) (fd : FuncData) (ps : List Str), FnOk P w K mg base (L2.CX P w) k f fd ps sp ∧ mg x = some (.ref f) ∧ PySem.W.keepIn K (.ref f) = true ∧ Binds K fd ps []
section
variable {X : Cx} {k j : Nat} {x : Str} {sp : Sp} {p pos : Pos} {e : Expr} {es : List Expr} {t : TA} {E : L2.St → XK}
theorem pe_cX (c : CalX X.prog X.w X.K X.mg X.base k x sp) (hr : Room j X.A) (hk : k ≤ j) (hg : Gl X x) (hx : ∀ σ, PassesAt (L2.CX X.prog X.w) X σ (E σ)) (ha : PA X (e :: es) t)
    (hdb : (x == ("__debug__" : Str)) = false := by decide) (he : starEach (e :: es) X.env = (false, eval e X.env) :: starEach es X.env := by rfl) (hpl : (backTo pos (starEach es X.env)).any (·.1) = false := by rfl) :
    PE X (.Call (.Name x p) (e :: es) [] pos) (tCallS sp E t) := by
  obtain ⟨f, fd, ps, F, hm, kp, b⟩ := c.ex
  exact pe_callS F (hr.mono hk) hg hm kp b hx ha hdb he hpl
end
section
variable {P : Program} {w : World} {K : PySem.W.Frag} {mg : Str → Option Value} {base : Heap}
/-- a def by its body, which may let an exception out -/
theorem calX {x : Str} {st : Stmt} {f : Addr} {fd : FuncData} {N ps : List Str} {k : Nat} {sp : Sp} (F : C8.Def K mg x st f fd) (b : Binds K fd ps []) (S : FnScope N ps (C8.fnScope st)) (len : ∀ vs H Q E, sp vs H Q E → vs.length = ps.length)
    (hbody : ∀ (cdv : Value) (A : Around) (outer : List Env) (s : Shared) (H : Hp) (vs : List V) (Q : VK) (E : XK), Room k (A.deeper (envOfC x (C8.fnScope st) s.heap.objs.size f cdv)) → sp vs H Q E →
      ∃ t, PSs (cxOf (L2.CX P w) P w K mg base N x (C8.fnScope st) f cdv A outer s H E) (C8.fnBody st) t ∧ t { nx := fun _ H' => Q .non H', rt := Q } (L2.start N vs) H) : CalX P w K mg base (k + 1) x sp := by
  refine ⟨f, fd, ps, ?_, F.mgf, F.kp, b⟩
  obtain ⟨oc, od, dV, kV, doc, pm, an, cdv, ct, osl, rfl, lk, hcd⟩ := F.fn.ex
  exact fn_of lk hcd S len fun A outer s H vs Q E hr hsp => hbody cdv A outer s H vs Q E hr hsp
end

/-! ### list.count of flat items -/
section
variable {X : Cx}
theorem count_eqU {x : V} : ∀ {xs : List V} {us : List Value}, Vals xs us → xs.all flatV = true → us.countP (eqU x) = xs.countP fun y => eqV y x
  | _, _, .nil, _ => rfl
  | y :: xs, u :: us, .cons r t, f => by
    rw [List.all_cons, Bool.and_eq_true] at f
    rw [List.countP_cons, List.countP_cons, eqU_of r f.1, count_eqU t f.2]
def rCntV (K : PySem.W.Frag) : V → List V → Hp → VK → Prop := fun x xs H Q => ∃ (p : Addr) (ys : List V) (y : V), x = .ref p ∧ xs = [y] ∧ SqL K H p ys ∧ flatV y = true ∧ ys.all flatV = true ∧ Q (.int ((ys.countP fun z => eqV z y : Nat) : Int)) H
theorem mt_lcountV : MtR X "list.count" (rCntV X.K) := by
  intro pins s σ H x xs v us Q I rx rxs h
  obtain ⟨p, ys, y, rfl, rfl, hs, fy, fys, q⟩ := h
  cases rx
  obtain ⟨u, rfl, ru⟩ := rxs.one
  obtain ⟨its, rv, ⟨⟨cls, dd, data, sl⟩, n, ho, hc, hdn, hd⟩, hlen⟩ := I.list hs
  simp only at hc hd
  subst hc hd
  refine call_meets PySem.F.slot_list_count ⟨_, ho, rfl⟩ PySem.F.entry_list_count (PySem.F.args_list_count_2 _ _)
    (SeqAt.list_countAt p its.toArray n dd sl u (eqU y)) ⟨ho, fun u' hu' => mem_eqAt ru fy rv fys u' (by simpa using hu'), ?_⟩
  have ec : its.toArray.toList.countP (eqU y) = ys.countP fun z => eqV z y := count_eqU rv fys
  refine ⟨.int (ys.countP fun z => eqV z y : Nat), H, I.tok _, ⟨s.toks, ?_⟩, q⟩
  show Value.int ((its.toArray.toList.countP (eqU y) : Nat) : Int) s.toks = Value.int ((ys.countP fun z => eqV z y : Nat) : Int) s.toks
  rw [ec]
end

/-! ### isinstance of a caught error, its class told by the reading -/
def rIsE2 (K : PySem.W.Frag) (cls : Value) (d : Option Addr) (a : Addr) : List V → Hp → VK → Prop := fun xs H Q => ∃ (D : Addr) (c : V) (cv : Value) (b : Bool), cls = .ref D ∧ d = none ∧ ExcC K D ∧ xs = [.ref a, c] ∧ (∀ u, RelV c u → u = cv) ∧ PySem.W.kitOne K (.ref D) cv = some b ∧ Q (.bl b) H
theorem call_isE2 {X : Cx} {a : Addr} {cls : Value} {d : Option Addr} {oe : Obj} {pn : List (Addr × Obj)} (hz : Zc cls d oe) (hf : ∃ vs, oe.data = .fields vs) : CallR (X.suite a ((a, oe) :: pn)) (.builtin "isinstance") (rIsE2 X.K cls d a) := by
  intro pins s σ H xs us Q I r h
  obtain ⟨D, c, cv, b, rfl, rfl, C, e, hcv, hk, q⟩ := h
  exact call_isE C hz hf pins s σ H xs us Q I r ⟨c, cv, b, e, hcv, hk, q⟩

/-- where an exception is, the slots are as many as the names -/
theorem takes_len {X : Cx} {W : WX} (t : Takes X W) : Takes X (fun c d σ H => σ.length = X.N.length → W c d σ H) := fun u s' x => by
  obtain ⟨a, B, sI, pins, σ, H, cls, d, e, I, x1, x2, x3, x4, x5, x6, q⟩ := x
  exact t u s' ⟨a, B, sI, pins, σ, H, cls, d, e, I, x1, x2, x3, x4, x5, x6, q I.len⟩

/-! ### built-ins by name -/
def rLen (K : PySem.W.Frag) : List V → Hp → VK → Prop := fun xs H Q => ∃ p ys, xs = [.ref p] ∧ (SqL K H p ys ∨ SqT K H p ys) ∧ Q (.int ys.length) H
theorem call_len1 {X : Cx} : CallR X (.builtin "len") (rLen X.K) := call_len_seq
def rListOf (K : PySem.W.Frag) : List V → Hp → VK → Prop := fun xs H Q => ∃ p ys, xs = [.ref p] ∧ (SqL K H p ys ∨ SqT K H p ys) ∧ ∀ l, H l = none → Q (.ref l) (upd H l (.lst ys))
theorem call_list1 {X : Cx} : CallR X (.type "list") (rListOf X.K) := call_list_of
def rMax2 : List V → Hp → VK → Prop := fun xs H Q => ∃ i j, xs = [.int i, .int j] ∧ Q (.int (if j > i then j else i)) H
theorem call_max1 {X : Cx} (hc : X.calm = true) : CallR X (.builtin "max") rMax2 := call_max2 hc
def rMin2 : List V → Hp → VK → Prop := fun xs H Q => ∃ i j, xs = [.int i, .int j] ∧ Q (.int (if j < i then j else i)) H
theorem call_min1 {X : Cx} (hc : X.calm = true) : CallR X (.builtin "min") rMin2 := call_min2 hc
def rInt1 : List V → Hp → VK → Prop := fun xs H Q => (∃ i, xs = [.int i] ∧ Q (.int i) H) ∨ ∃ k, xs = [.bl k] ∧ Q (.int (if k then 1 else 0)) H
theorem call_intB {X : Cx} : CallR X (.type "int") rInt1 := call_int1

def rIsN : R2 := fun x y H Q => y = .non ∧ Q (.bl (decide (x = .non))) H
theorem op_isN1 {X : Cx} : OpR X (compareOp .Is) rIsN := op_isN
def rNotN : R2 := fun x y H Q => y = .non ∧ Q (.bl (!decide (x = .non))) H
theorem op_notN1 {X : Cx} : OpR X (compareOp .IsNot) rNotN := op_notN

/-! ### steps -/
section
variable {σ : L2.St} {H : Hp} {Q : VK} {QB : Bool → Hp → Prop} {QA : List V → Hp → Prop} {i : Nat} {v x y : V} {ta tb tc te : TE} {t u : TT} {ts us : TS} {D : Ends} {n m : Int} {K : PySem.W.Frag} {r r' r2 : R2}
theorem g_var (h : σ[i]? = some (some v)) (q : Q v H) : tVar i σ H Q := ⟨v, h, q⟩
theorem g_c (q : Q v H) : tC v σ H Q := q
theorem g_op (h : ta σ H fun x H1 => tb σ H1 fun y H2 => r x y H2 Q) : tOp r ta tb σ H Q := h
theorem g_un {r : V → Hp → VK → Prop} (h : ta σ H fun x H1 => r x H1 Q) : tUn r ta σ H Q := h
theorem g_I0 {g : Int → Int → V} (q : Q (g n m) H) : rI0 g (.int n) (.int m) H Q := ⟨n, m, rfl, rfl, q⟩
theorem g_I {C : Int → Int → Prop} {g : Int → Int → V} (c : C n m) (q : Q (g n m) H) : rI C g (.int n) (.int m) H Q := ⟨n, m, rfl, rfl, c, q⟩
theorem g_U {g : Int → V} (q : Q (g n) H) : rU g (.int n) H Q := ⟨n, rfl, q⟩
theorem g_eqI (q : Q (.bl (decide (n = m))) H) : rEq (.int n) (.int m) H Q := ⟨rfl, by
  have e : decide (V.int n = V.int m) = decide (n = m) := by by_cases h : n = m <;> simp [h]
  rw [e]; exact q⟩
theorem g_neI (q : Q (.bl (!decide (n = m))) H) : rNe (.int n) (.int m) H Q := ⟨rfl, by
  have e : decide (V.int n = V.int m) = decide (n = m) := by by_cases h : n = m <;> simp [h]
  rw [e]; exact q⟩
theorem g_eqS {a b : Str} (q : Q (.bl (decide (a = b))) H) : rEq (.str a) (.str b) H Q := ⟨rfl, by
  have e : decide (V.str a = V.str b) = decide (a = b) := by by_cases h : a = b <;> simp [h]
  rw [e]; exact q⟩
theorem g_neS {a b : Str} (q : Q (.bl (!decide (a = b))) H) : rNe (.str a) (.str b) H Q := ⟨rfl, by
  have e : decide (V.str a = V.str b) = decide (a = b) := by by_cases h : a = b <;> simp [h]
  rw [e]; exact q⟩
theorem g_eqB {a b : Bool} (q : Q (.bl (a == b)) H) : rEq (.bl a) (.bl b) H Q := ⟨rfl, by
  have e : decide (V.bl a = V.bl b) = (a == b) := by cases a <;> cases b <;> rfl
  rw [e]; exact q⟩
theorem g_neB {a b : Bool} (q : Q (.bl (a != b)) H) : rNe (.bl a) (.bl b) H Q := ⟨rfl, by
  have e : (!decide (V.bl a = V.bl b)) = (a != b) := by cases a <;> cases b <;> rfl
  rw [e]; exact q⟩
theorem g_isN (q : Q (.bl (decide (x = .non))) H) : rIsN x .non H Q := ⟨rfl, q⟩
theorem g_notN (q : Q (.bl (!decide (x = .non))) H) : rNotN x .non H Q := ⟨rfl, q⟩
theorem g_test (h : te σ H fun x H' => ∃ k, x = .bl k ∧ QB k H') : tTest te σ H QB := h
theorem g_tB (h : te σ H fun x H' => ∃ k, x = .bl k ∧ QB k H') : tB te σ H QB := h
theorem g_bl {b : Bool} (q : QB b H) : ∃ k, V.bl b = .bl k ∧ QB k H := ⟨b, rfl, q⟩
theorem g_and (h : t σ H fun c H1 => if c = true then u σ H1 QB else QB false H1) : tAnd t u σ H QB := h
theorem g_or (h : t σ H fun c H1 => if c = true then QB true H1 else u σ H1 QB) : tOr t u σ H QB := h
theorem g_not (h : t σ H fun c H1 => QB (!c) H1) : tNot t σ H QB := h
theorem g_andV (h : ta σ H fun x H1 => ∃ c, x = .bl c ∧ if c = true then tb σ H1 Q else Q (.bl false) H1) : tAndV ta tb σ H Q := h
theorem g_orV (h : ta σ H fun x H1 => ∃ c, x = .bl c ∧ if c = true then Q (.bl true) H1 else tb σ H1 Q) : tOrV ta tb σ H Q := h
theorem g_notV (h : ta σ H fun x H1 => ∃ c, x = .bl c ∧ Q (.bl (!c)) H1) : tNotV ta σ H Q := h
theorem g_blI {b : Bool} {p : Bool → Prop} (q : p b) : ∃ k, V.bl b = .bl k ∧ p k := ⟨b, rfl, q⟩
theorem g_if (h : t σ H fun c H1 => if c = true then ta σ H1 Q else tb σ H1 Q) : tIf t ta tb σ H Q := h
theorem g_chain (h : ta σ H fun x H1 => tb σ H1 fun y H2 => r x y H2 fun z H3 => ∃ k, z = .bl k ∧ (if k = true then tc σ H3 fun w' H4 => r' y w' H4 Q else Q (.bl false) H3)) : tChain r r' ta tb tc σ H Q := h
theorem g_chain3 {td : TE} (h : ta σ H fun x H1 => tb σ H1 fun y H2 => r x y H2 fun z H3 => ∃ k, z = .bl k ∧
  (if k = true then tc σ H3 fun w' H4 => r' y w' H4 fun z2 H5 => ∃ k2, z2 = .bl k2 ∧ (if k2 = true then td σ H5 fun w2 H6 => r2 w' w2 H6 Q else Q (.bl false) H5) else Q (.bl false) H3)) : tChain3 r r' r2 ta tb tc td σ H Q := h
theorem g_nil (q : QA [] H) : tNil σ H QA := q
theorem g_cons {tr : TA} (h : ta σ H fun x H1 => tr σ H1 fun xs H2 => QA (x :: xs) H2) : tCons ta tr σ H QA := h
theorem g_tup {tr : TA} (h : tr σ H fun xs H1 => xs.length ≤ sizeLine ∧ ∀ p, H1 p = none → Q (.ref p) (upd H1 p (.tup xs))) : tTup tr σ H Q := h
theorem g_lst {tr : TA} (h : tr σ H fun xs H1 => xs.length ≤ sizeLine ∧ ∀ p, H1 p = none → Q (.ref p) (upd H1 p (.lst xs))) : tLst tr σ H Q := h
theorem g_CB {r : List V → Hp → VK → Prop} {tr : TA} (h : tr σ H fun vs H1 => r vs H1 Q) : tCB r tr σ H Q := h
theorem g_call {sp : Sp} {dvs : List V} {E : XK} {tr : TA} (h : tr σ H fun vs H1 => sp (vs ++ dvs) H1 Q E) : tCall sp dvs E tr σ H Q := h
theorem g_callS {sp : Sp} {E : L2.St → XK} {tr : TA} (h : tr σ H fun vs H1 => sp vs H1 Q (E σ)) : tCallS sp E tr σ H Q := h
theorem g_bm {T : String} {r : V → List V → Hp → VK → Prop} {tr : TA} (h : ta σ H fun x H1 => tyV K T x H1 ∧ tr σ H1 fun xs H2 => r x xs H2 Q) : tBM K T r ta tr σ H Q := h
theorem g_bm0 {T : String} {r : V → List V → Hp → VK → Prop} (h : ta σ H fun x H1 => tyV K T x H1 ∧ r x [] H1 Q) : tBM0 K T r ta σ H Q := h
theorem g_sl {r : V → Option Int → Option Int → Hp → VK → Prop} {tl th : TO} (h : te σ H fun x H1 => tl σ H1 fun l H2 => th σ H2 fun u H3 => r x l u H3 Q) : tSl r te tl th σ H Q := h
theorem g_part {QO : Option Int → Hp → Prop} (h : te σ H fun x H1 => ∃ i, x = .int i ∧ QO (some i) H1) : tPart te σ H QO := h
theorem g_part1 {p : Int → Prop} (h : p n) : ∃ i, V.int n = .int i ∧ p i := ⟨n, rfl, h⟩
theorem g_noPart {QO : Option Int → Hp → Prop} (h : QO none H) : tNoPart σ H QO := h
-- statements
theorem g_seq {a : L2.St → Hp → Prop} {b : VK} {c d : L2.St → Hp → Prop} (h : ts ⟨us ⟨a, b, c, d⟩, b, c, d⟩ σ H) : tSeq ts us ⟨a, b, c, d⟩ σ H := h
theorem g_fit {xs : List V} {R : Addr → Prop} (hl : Nat.ble xs.length 1000 = true) (q : ∀ p, H p = none → R p) : xs.length ≤ sizeLine ∧ ∀ p, H p = none → R p := ⟨Nat.le_trans (Nat.le_of_ble_eq_true hl) (by decide), q⟩
theorem g_next (h : D.nx σ H) : tNext D σ H := h
theorem g_asg {g : TG} (h : te σ H fun x H1 => g x σ H1 D.nx) : tAsg te g D σ H := h
theorem g_name {Qg : L2.St → Hp → Prop} (h : Qg (σ.set i (some v)) H) : gName i v σ H Qg := h
theorem g_sub {to ti : TE} {t : TSet} {Qg : L2.St → Hp → Prop} (h : to σ H fun o H1 => ti σ H1 fun i H2 => t o i v H2 fun H3 => Qg σ H3) : gSub to ti t v σ H Qg := h
theorem g_gnil {Qg : L2.St → Hp → Prop} (h : Qg σ H) : gNil [] σ H Qg := ⟨rfl, h⟩
theorem g_gcons {tg : TG} {ug : TGs} {vs : List V} {Qg : L2.St → Hp → Prop} (h : tg v σ H fun σ' H' => ug vs σ' H' Qg) : gCons tg ug (v :: vs) σ H Qg := ⟨v, vs, rfl, h⟩
theorem g_drop (h : te σ H fun _ H1 => D.nx σ H1) : tDrop te D σ H := h
theorem g_ret (h : te σ H D.rt) : tRet te D σ H := h
theorem g_retN (h : D.rt .non H) : tRetN D σ H := h
theorem g_brk (h : D.bk σ H) : tBreak D σ H := h
theorem g_cont (h : D.ct σ H) : tCont D σ H := h
theorem g_ifS (h : t σ H fun b H1 => if b = true then ts D σ H1 else us D σ H1) : tIfS t ts us D σ H := h
theorem g_nx {a : L2.St → Hp → Prop} {b : VK} {c d : L2.St → Hp → Prop} (h : a σ H) : Ends.nx ⟨a, b, c, d⟩ σ H := h
theorem g_bk {a : L2.St → Hp → Prop} {b : VK} {c d : L2.St → Hp → Prop} (h : c σ H) : Ends.bk ⟨a, b, c, d⟩ σ H := h
theorem g_ct {a : L2.St → Hp → Prop} {b : VK} {c d : L2.St → Hp → Prop} (h : d σ H) : Ends.ct ⟨a, b, c, d⟩ σ H := h
theorem g_rt {a : L2.St → Hp → Prop} {b : VK} {c d : L2.St → Hp → Prop} (h : b v H) : Ends.rt ⟨a, b, c, d⟩ v H := h
theorem g_rng1 {tr : TA} {R : It → Hp → Prop} (h : tr σ H fun vs H1 => ∃ j : Int, vs = [.int j] ∧ -(2 ^ 62) ≤ j ∧ j < 2 ^ 62 ∧ R (Itr 0 j.toNat) H1) : iRng1 tr σ H R := h
theorem g_rng2 {tr : TA} {R : It → Hp → Prop} (h : tr σ H fun vs H1 => ∃ i j : Int, vs = [.int i, .int j] ∧ (-(2 ^ 62) ≤ i ∧ i < 2 ^ 62 ∧ -(2 ^ 62) ≤ j ∧ j < 2 ^ 62) ∧ R (Itr i (j - i).toNat) H1) : iRng2 tr σ H R := h
theorem g_iList {R : It → Hp → Prop} (h : te σ H fun x H1 => ∃ a, x = .ref a ∧ (∃ xs, SqL K H1 a xs) ∧ R (Itl K a) H1) : iList K te σ H R := h
theorem g_iTup {R : It → Hp → Prop} (h : te σ H fun x H1 => ∃ a, x = .ref a ∧ (∃ xs, SqT K H1 a xs) ∧ R (Itt K a) H1) : iTup K te σ H R := h
def ForEnd (g : TG) (tb : TS) (a : L2.St → Hp → Prop) (b : VK) (σ : L2.St) (J : It) (H1 : Hp) : Prop := ∃ W : Nat → Nat → L2.St → Hp → Prop, (∃ m, W 0 m σ H1) ∧ ∀ i m σ H, W i m σ H →
  (J.stop i H ∧ a σ H) ∨ (J.go i H ∧ ∃ N : L2.St → Hp → Prop, (∀ σ' H', N σ' H' → ∃ m', m' < m ∧ W (i + 1) m' σ' H') ∧ ∀ x H', J.yld i H x H' → g x σ H' fun σ2 H2 => tb ⟨N, b, a, N⟩ σ2 H2)
theorem g_for {a : L2.St → Hp → Prop} {b : VK} {c d : L2.St → Hp → Prop} {wi : TI} {g : TG} {tb : TS} (h : wi σ H (ForEnd g tb a b σ)) : tFor wi g tb ⟨a, b, c, d⟩ σ H := h
theorem w_list {a : L2.St → Hp → Prop} {b : VK} {g : TG} {tb : TS} {p : Addr} {xs : List V} (Pv : Nat → L2.St → Hp → Prop) (h0 : Pv 0 σ H) (hl : ∀ i σ H, i ≤ xs.length → Pv i σ H → SqL K H p xs)
    (hs : ∀ i x σ H, xs[i]? = some x → Pv i σ H → g x σ H fun σ2 H2 => tb ⟨Pv (i + 1), b, a, Pv (i + 1)⟩ σ2 H2) (hd : ∀ σ H, Pv xs.length σ H → a σ H) : ∃ q, V.ref p = .ref q ∧ (∃ xs, SqL K H q xs) ∧ ForEnd g tb a b σ (Itl K q) H :=
  ⟨p, rfl, ⟨xs, hl 0 σ H (Nat.zero_le _) h0⟩, for_list (D := ⟨a, b, fun _ _ => False, fun _ _ => False⟩) Pv h0 hl hs hd⟩
theorem w_tup {a : L2.St → Hp → Prop} {b : VK} {g : TG} {tb : TS} {p : Addr} {xs : List V} (Pv : Nat → L2.St → Hp → Prop) (h0 : Pv 0 σ H) (hl : ∀ i σ H, i ≤ xs.length → Pv i σ H → SqT K H p xs)
    (hs : ∀ i x σ H, xs[i]? = some x → Pv i σ H → g x σ H fun σ2 H2 => tb ⟨Pv (i + 1), b, a, Pv (i + 1)⟩ σ2 H2) (hd : ∀ σ H, Pv xs.length σ H → a σ H) : ∃ q, V.ref p = .ref q ∧ (∃ xs, SqT K H q xs) ∧ ForEnd g tb a b σ (Itt K q) H :=
  ⟨p, rfl, ⟨xs, hl 0 σ H (Nat.zero_le _) h0⟩, for_tup (D := ⟨a, b, fun _ _ => False, fun _ _ => False⟩) Pv h0 hl hs hd⟩
/-- range(n) -/
theorem w_range {a : L2.St → Hp → Prop} {b : VK} {g : TG} {tb : TS} {n : Int} (h1 : -(2 ^ 62) ≤ n) (h2 : n < 2 ^ 62) (Pv : Nat → L2.St → Hp → Prop) (h0 : Pv 0 σ H)
    (hs : ∀ i σ H, i < n.toNat → Pv i σ H → g (.int i) σ H fun σ2 H2 => tb ⟨Pv (i + 1), b, a, Pv (i + 1)⟩ σ2 H2) (hd : ∀ σ H, Pv n.toNat σ H → a σ H) :
    ∃ j : Int, [V.int n] = [.int j] ∧ -(2 ^ 62) ≤ j ∧ j < 2 ^ 62 ∧ ForEnd g tb a b σ (Itr 0 j.toNat) H :=
  ⟨n, rfl, h1, h2, for_range (D := ⟨a, b, fun _ _ => False, fun _ _ => False⟩) Pv h0 (fun i σ H hi p => by have q := hs i σ H hi p; rw [Int.zero_add]; exact q) hd⟩
theorem w_while {a : L2.St → Hp → Prop} {b : VK} {c d : L2.St → Hp → Prop} {tc : TT} {tb : TS} (Pv : L2.St → Hp → Prop) (μ : L2.St → Hp → Nat) (h0 : Pv σ H)
    (hs : ∀ σ H, Pv σ H → tc σ H fun b' H1 => if b' = true then tb ⟨fun σ' H' => Pv σ' H' ∧ μ σ' H' < μ σ H, b, a, fun σ' H' => Pv σ' H' ∧ μ σ' H' < μ σ H⟩ σ H1 else a σ H1)
    (mono : ∀ σ H Q Q', (∀ b H1, Q b H1 → Q' b H1) → tc σ H Q → tc σ H Q') : tWhile tc tb ⟨a, b, c, d⟩ σ H := while_by Pv μ h0 hs mono
theorem g_itT {b : Bool} {A B : Prop} (h : b = true) (q : A) : if b = true then A else B := by rw [h]; exact iteT q
theorem g_itF {b : Bool} {A B : Prop} (h : b = false) (q : B) : if b = true then A else B := by rw [h]; exact iteF q
theorem g_ite {c : Prop} [Decidable c] {A B : Prop} (h1 : c → A) (h2 : ¬ c → B) : if decide c = true then A else B := by
  by_cases h : c
  · rw [decide_eq_true h]; exact iteT (h1 h)
  · rw [decide_eq_false h]; exact iteF (h2 h)
theorem g_iteN {c : Prop} [Decidable c] {A B : Prop} (h1 : ¬ c → A) (h2 : c → B) : if (!decide c) = true then A else B := by
  by_cases h : c
  · rw [decide_eq_true h]; exact iteF (h2 h)
  · rw [decide_eq_false h]; exact iteT (h1 h)
theorem g_len {p : Addr} {xs : List V} (h : SqL K H p xs ∨ SqT K H p xs) (q : Q (.int xs.length) H) : rLen K [.ref p] H Q := ⟨p, xs, rfl, h, q⟩
theorem g_ixL {p : Addr} {xs : List V} (h : SqL K H p xs) (ha : atI xs n = some v) (q : Q v H) : rIxL K (.ref p) (.int n) H Q := ⟨p, xs, n, v, rfl, rfl, h, ha, q⟩
theorem g_ixT {p : Addr} {xs : List V} (h : SqT K H p xs) (ha : atI xs n = some v) (q : Q v H) : rIxT K (.ref p) (.int n) H Q := ⟨p, xs, n, v, rfl, rfl, h, ha, q⟩
theorem g_setL {p : Addr} {xs : List V} {j : Nat} {q : Hp → Prop} (h : H p = some (.lst xs)) (hj : ixN xs.length n = some j) (k : q (upd H p (.lst (xs.set j v)))) : rSetL (.ref p) (.int n) v H q := ⟨p, xs, n, j, rfl, rfl, h, hj, k⟩
theorem mulW_small {i j : Int} (h1 : 0 ≤ i) (h2 : i < 2147483648) (h3 : 0 ≤ j) (h4 : j < 2147483648) : CMulW i j := wide_mul (a := 31) (b := 31) (by show _ < 2147483648; omega) (by show _ < 2147483648; omega) (by decide) (by decide) (by decide)
theorem divW_small {i j : Int} (h1 : 0 < j) (h2 : j < 10 ^ 38) : CDivW i j := wide_div (b := 127) h1 (by show _ < (2 : Nat) ^ 127; omega) (by decide) (by decide)
theorem g_append {p : Addr} {xs : List V} (h : H p = some (.lst xs)) (hl : xs.length < 100000) (q : Q .non (upd H p (.lst (xs ++ [v])))) : rAppend (.ref p) [v] H Q := ⟨p, xs, v, rfl, rfl, h, Nat.lt_of_lt_of_le hl (by decide), q⟩
theorem g_tyL {p : Addr} {xs : List V} {R : Prop} (h : H p = some (.lst xs)) (q : R) : tyV K "list" (.ref p) H ∧ R := ⟨.inl ⟨rfl, _, SqL.of h⟩, q⟩
theorem g_listOf {p : Addr} {xs : List V} (h : SqL K H p xs) (q : ∀ l, H l = none → Q (.ref l) (upd H l (.lst xs))) : rListOf K [.ref p] H Q := ⟨p, xs, rfl, .inl h, q⟩
theorem g_listOfT {p : Addr} {xs : List V} (h : SqT K H p xs) (q : ∀ l, H l = none → Q (.ref l) (upd H l (.lst xs))) : rListOf K [.ref p] H Q := ⟨p, xs, rfl, .inr h, q⟩
theorem g_int1B {b : Bool} (q : Q (.int (if b then 1 else 0)) H) : rInt1 [.bl b] H Q := .inr ⟨b, rfl, q⟩
theorem g_gtup {p : Addr} {xs : List V} {k : Nat} {tg : TGs} {Qg : L2.St → Hp → Prop} (h : SqT K H p xs) (hl : xs.length = k) (q : tg xs σ H Qg) : gTup K k tg (.ref p) σ H Qg := ⟨p, xs, rfl, h, hl, q⟩
theorem g_isi {c : V} {tv uv : Value} {b : Bool} (h1 : ClsV c uv) (h2 : TyX K H x tv) (h3 : PySem.W.kitOne K tv uv = some b) (q : Q (.bl b) H) : rIsi K [x, c] H Q := ⟨x, c, tv, uv, b, rfl, h1, h2, h3, q⟩
theorem g_max2 (q : Q (.int (if m > n then m else n)) H) : rMax2 [.int n, .int m] H Q := ⟨n, m, rfl, q⟩
theorem g_min2 (q : Q (.int (if m < n then m else n)) H) : rMin2 [.int n, .int m] H Q := ⟨n, m, rfl, q⟩
end

/-! ### heaps in which the list at S changes -/
def Frm (S : Addr) (H H' : Hp) : Prop := ∀ b o, b ≠ S → H b = some o → H' b = some o
theorem Frm.refl (S : Addr) (H : Hp) : Frm S H H := fun _ _ _ h => h
theorem Frm.trans {S : Addr} {H H1 H2 : Hp} (a : Frm S H H1) (b : Frm S H1 H2) : Frm S H H2 := fun c o n h => b c o n (a c o n h)
theorem Frm.of {S : Addr} {H H' : Hp} (e : Same H H') : Frm S H H' := fun b o _ h => e b o h
theorem Frm.set {S : Addr} {H : Hp} {o : HO} : Frm S H (upd H S o) := fun b u n h => by rw [upd_ne n]; exact h
theorem same_new {H : Hp} {p : Addr} {o : HO} (h : H p = none) : Same H (upd H p o) := fun b u e => by rw [upd_ne (ne_of_none e h)]; exact e
/-- what may be read at a, whatever becomes of S -/
def ScL (K : PySem.W.Frag) (S : Addr) (H : Hp) (a : Addr) (xs : List V) : Prop := (a ≠ S ∧ Rd H a (.lst xs)) ∨ ∀ H', SqL K H' a xs
theorem ScL.sq {K : PySem.W.Frag} {S : Addr} {H : Hp} {a : Addr} {xs : List V} (h : ScL K S H a xs) : SqL K H a xs := by
  rcases h with ⟨_, h⟩ | h
  · exact .inl h
  · exact h H
theorem ScL.frm {K : PySem.W.Frag} {S : Addr} {H H' : Hp} {a : Addr} {xs : List V} (h : ScL K S H a xs) (f : Frm S H H') : ScL K S H' a xs := by
  rcases h with ⟨n, h⟩ | h
  · refine .inl ⟨n, ?_⟩
    rcases h with h | ⟨o, h⟩
    · exact .inl (f _ _ n h)
    · exact .inr ⟨o, f _ _ n h⟩
  · exact .inr h
theorem ScL.of {K : PySem.W.Frag} {S : Addr} {H H' : Hp} {a : Addr} {xs : List V} (h : SqL K H a xs) (e : Same H H') (n : H S = none) : ScL K S H' a xs := by
  rcases h with h | h
  · rcases h with h | ⟨o, h⟩
    · exact .inl ⟨ne_of_none h n, .inl (e _ _ h)⟩
    · exact .inl ⟨ne_of_none h n, .inr ⟨o, e _ _ h⟩⟩
  · exact .inr fun H' => .inr h
/-- the drawing's state at S; what B tracks stands as it stood -/
def Dst (K : PySem.W.Frag) (B H : Hp) (S : Addr) : Prop := ∃ (sc : Addr) (ns : List Int) (c m r : Int), H S = some (.lst [.ref sc, .int c, .int m, .int r]) ∧ ScL K S B sc (ns.map V.int) ∧ Frm S B H ∧ ns.length ≤ 63 ∧ 0 ≤ c ∧ 0 ≤ m ∧ m < 2147483647
theorem Dst.same {K : PySem.W.Frag} {B H H' : Hp} {S : Addr} (d : Dst K B H S) (e : Same H H') : Dst K B H' S := by
  obtain ⟨sc, ns, c, m, r, h1, h2, h3, h4⟩ := d
  exact ⟨sc, ns, c, m, r, e _ _ h1, h2, h3.trans (.of e), h4⟩
theorem Dst.has {K : PySem.W.Frag} {B H : Hp} {S : Addr} (d : Dst K B H S) : H S ≠ none := by
  obtain ⟨sc, ns, c, m, r, h1, _⟩ := d
  rw [h1]; exact fun z => nomatch z
theorem Dst.ne {K : PySem.W.Frag} {B H : Hp} {S p : Addr} (d : Dst K B H S) (h : H p = none) : p ≠ S := fun e => d.has (e ▸ h)
theorem Dst.fresh {K : PySem.W.Frag} {B H : Hp} {S p : Addr} (d : Dst K B H S) (h : H p = none) : B p = none := by
  have n := d.ne h
  obtain ⟨sc, ns, c, m, r, h1, h2, h3, h4⟩ := d
  cases e : B p with
  | none => rfl
  | some o => rw [h3 p o n e] at h; cases h
/-- a thing that B does not know changes -/
theorem Dst.mut {K : PySem.W.Frag} {B H : Hp} {S p : Addr} {o : HO} (d : Dst K B H S) (n : p ≠ S) (h : B p = none) : Dst K B (upd H p o) S := by
  obtain ⟨sc, ns, c, m, r, h1, h2, h3, h4⟩ := d
  refine ⟨sc, ns, c, m, r, ?_, h2, fun b u hb e => ?_, h4⟩
  · rw [upd_ne n.symm]; exact h1
  · rw [upd_ne (ne_of_none e h)]; exact h3 b u hb e
theorem Frm.mut {S p : Addr} {H H' : Hp} {o : HO} (f : Frm S H H') (h : H p = none) : Frm S H (upd H' p o) := fun b u n e => by
  rw [upd_ne (ne_of_none e h)]; exact f b u n e
theorem Frm.new {S p : Addr} {H : Hp} {o : HO} (h : H p = none) : Frm S H (upd H p o) := .of (same_new h)
theorem Frm.back {S p : Addr} {H H' : Hp} (f : Frm S H H') (n : p ≠ S) (h : H' p = none) : H p = none := by
  cases e : H p with
  | none => rfl
  | some o => rw [f p o n e] at h; cases h
theorem Same.back {H H' : Hp} {p : Addr} (f : Same H H') (h : H' p = none) : H p = none := by
  cases e : H p with
  | none => rfl
  | some o => rw [f p o e] at h; cases h
theorem Same.mut {H H' : Hp} {p : Addr} {o : HO} (f : Same H H') (h : H p = none) : Same H (upd H' p o) := fun b u e => by
  rw [upd_ne (ne_of_none e h)]; exact f b u e
theorem pow_small {i j : Int} (h0 : 0 ≤ j) (h1 : j ≤ 1000) (h2 : i.natAbs < 2 ^ 32) : CPow i j := ⟨h0, by omega, Nat.lt_trans h2 (by decide)⟩
theorem atI_mem {xs : List V} {z : Int} (h0 : 0 ≤ z) (h1 : z < xs.length) : ∃ x, x ∈ xs ∧ atI xs z = some x := by
  have hl : z.toNat < xs.length := by omega
  exact ⟨xs[z.toNat], List.getElem_mem hl, at_of (j := z.toNat) (by omega) (List.getElem?_eq_getElem hl)⟩
theorem map_at {ns : List Int} {i : Nat} {x : V} (h : (ns.map V.int)[i]? = some x) : ∃ n, ns[i]? = some n ∧ x = V.int n := by
  rw [List.getElem?_map] at h
  cases hq : ns[i]? with
  | none => rw [hq] at h; cases h
  | some z => rw [hq] at h; exact ⟨z, rfl, (Option.some.inj h).symm⟩
/-- what stands beside S -/
def Live (S : Addr) (H : Hp) (L : List (Addr × HO)) : Prop := ∀ p ∈ L, p.1 ≠ S ∧ H p.1 = some p.2
theorem Live.nil {S : Addr} {H : Hp} : Live S H [] := fun _ h => (List.not_mem_nil h).elim
theorem Live.frm {S : Addr} {H H' : Hp} {L : List (Addr × HO)} (l : Live S H L) (f : Frm S H H') : Live S H' L := fun p h => ⟨(l p h).1, f _ _ (l p h).1 (l p h).2⟩
theorem Live.cons {S : Addr} {H : Hp} {L : List (Addr × HO)} {a : Addr} {o : HO} (l : Live S H L) (n : a ≠ S) (h : H a = some o) : Live S H ((a, o) :: L) := fun p hp => by
  rcases List.mem_cons.mp hp with e | e
  · subst e; exact ⟨n, h⟩
  · exact l p e
theorem Live.get {S : Addr} {H : Hp} {L : List (Addr × HO)} (l : Live S H L) (i : Nat) {a : Addr} {o : HO} (h : L[i]? = some (a, o)) : H a = some o := (l _ (List.mem_of_getElem? h)).2
theorem Live.ne {S : Addr} {H : Hp} {L : List (Addr × HO)} (l : Live S H L) (i : Nat) {a : Addr} {o : HO} (h : L[i]? = some (a, o)) : a ≠ S := (l _ (List.mem_of_getElem? h)).1
/-- a new object is laid -/
theorem Live.new {S : Addr} {H : Hp} {L : List (Addr × HO)} {p : Addr} {o : HO} (l : Live S H L) (hp : H p = none) (hS : H S ≠ none) : Live S (upd H p o) ((p, o) :: L) :=
  (l.frm (.of (same_new hp))).cons (fun e => hS (e ▸ hp)) upd_same

/-! ### == of data -/
section
variable {K : PySem.W.Frag} {H : Hp} {Q : VK}
theorem dpAll_ints : ∀ ns : List Int, DpAll K H (ns.map V.int) (ns.map PyData.int)
  | [] => .nil
  | n :: ns => .cons (.int n) (dpAll_ints ns)
theorem dp_ints {a : Addr} {ns : List Int} (h : SqL K H a (ns.map V.int)) : Dp K H (.ref a) (.list (ns.map PyData.int)) := .lst h (dpAll_ints ns)
theorem eqvAll_ints : ∀ ns ms : List Int, PyData.eqvAll (ns.map PyData.int) (ms.map PyData.int) = decide (ns = ms)
  | [], [] => by simp [PyData.eqvAll]
  | [], _ :: _ => by simp [PyData.eqvAll]
  | _ :: _, [] => by simp [PyData.eqvAll]
  | n :: ns, m :: ms => by
    have ih := eqvAll_ints ns ms
    simp only [List.map_cons, PyData.eqvAll, ih, PyData.eqv]
    by_cases h1 : n = m <;> by_cases h2 : ns = ms <;> simp [h1, h2]
theorem eqv_ints (ns ms : List Int) : PyData.eqv (.list (ns.map PyData.int)) (.list (ms.map PyData.int)) = decide (ns = ms) := by
  rw [PyData.eqv]; exact eqvAll_ints ns ms
theorem g_eqLI {a b : Addr} {ns ms : List Int} (h1 : SqL K H a (ns.map V.int)) (h2 : SqL K H b (ms.map V.int)) (q : Q (.bl (decide (ns = ms))) H) : rEqD K (.ref a) (.ref b) H Q :=
  ⟨_, _, dp_ints h1, dp_ints h2, PySem.W.ke_shaped_ints ns, PySem.W.ke_shaped_ints ms, by rw [eqv_ints]; exact q⟩
theorem g_neLI {a b : Addr} {ns ms : List Int} (h1 : SqL K H a (ns.map V.int)) (h2 : SqL K H b (ms.map V.int)) (q : Q (.bl (!decide (ns = ms))) H) : rNeD K (.ref a) (.ref b) H Q :=
  ⟨_, _, dp_ints h1, dp_ints h2, PySem.W.ke_shaped_ints ns, PySem.W.ke_shaped_ints ms, by rw [eqv_ints]; exact q⟩
end
section
variable {σ : L2.St} {H : Hp}
/-- a while, by an invariant that bears its measure -/
theorem w_loop {a : L2.St → Hp → Prop} {b : VK} {c d : L2.St → Hp → Prop} {tc : TT} {tb : TS} (Pv : Nat → L2.St → Hp → Prop) (m0 : Nat) (h0 : Pv m0 σ H)
    (hs : ∀ m σ H, Pv m σ H → tc σ H fun b' H1 => if b' = true then ∃ N : L2.St → Hp → Prop, (∀ σ' H', N σ' H' → ∃ m', m' < m ∧ Pv m' σ' H') ∧ tb ⟨N, b, a, N⟩ σ H1 else a σ H1) : tWhile tc tb ⟨a, b, c, d⟩ σ H := ⟨Pv, ⟨m0, h0⟩, hs⟩
end
section
variable {K : PySem.W.Frag} {H : Hp} {Q : VK}
theorem g_slL {a : Addr} {xs : List V} {lo hi : Option Int} (h : SqL K H a xs) (q : ∀ p, H p = none → Q (.ref p) (upd H p (.lst (cutV xs lo hi)))) : rSlL K (.ref a) lo hi H Q := ⟨a, xs, rfl, h, q⟩
theorem cut1 (xs : List V) : cutV xs (some 1) none = xs.drop 1 := by
  unfold cutV
  rw [show (some (1 : Int)) = some ((1 : Nat) : Int) from rfl, HT.sIx_nat, HT.sIx_none]
  cases xs with
  | nil => rfl
  | cons x xs =>
    have e : min 1 (x :: xs).length = 1 := by simp
    rw [e]
    show List.take ((x :: xs).length - 1) xs = xs
    simp
end
theorem tup_same {K : PySem.W.Frag} {H H' : Hp} {a : Addr} {xs : List V} (e : Same H H') (h : SqT K H a xs) : SqT K H' a xs := by
  rcases h with (h | ⟨o, h⟩) | h
  · exact .inl (.inl (e _ _ h))
  · exact .inl (.inr ⟨o, e _ _ h⟩)
  · exact .inr h

/-! ### data: kinds, and as they stand later -/
section
variable {K : PySem.W.Frag} {H H' : Hp} {Q : VK} {σ : L2.St}
theorem ty_list {a : Addr} {xs : List V} (h : SqL K H a xs) : TyX K H (.ref a) (.type "list") := by
  rcases h with (h | ⟨o, h⟩) | h
  · exact .base (.lst h)
  · exact .base (.frz h)
  · obtain ⟨o, items, n, h1, h2, _⟩ := h
    exact .kList h1 h2
theorem ty_tup {a : Addr} {xs : List V} (h : SqT K H a xs) : TyX K H (.ref a) (.type "tuple") := by
  rcases h with (h | ⟨o, h⟩) | h
  · exact .base (.tup h)
  · exact .fTuple h
  · obtain ⟨o, items, n, h1, h2, _⟩ := h
    exact .kTuple h1 h2
theorem list_same {a : Addr} {xs : List V} (e : Same H H') (h : SqL K H a xs) : SqL K H' a xs := e.seq h
mutual
theorem Dp_same (e : Same H H') : ∀ (d : PyData) (v : V), Dp K H v d → Dp K H' v d
  | .none, _, h => by cases h; exact .non
  | .bool b, _, h => by cases h; exact .bl b
  | .int i, _, h => by cases h; exact .int i
  | .str x, _, h => by cases h; exact .str x
  | .list ds, _, h => by
    cases h with
    | lst hs ha => exact .lst (list_same e hs) (DpAll_same e ds _ ha)
  | .tuple ds, _, h => by
    cases h with
    | tup hs ha => exact .tup (tup_same e hs) (DpAll_same e ds _ ha)
  | .dict _, _, h => by cases h
theorem DpAll_same (e : Same H H') : ∀ (ds : List PyData) (vs : List V), DpAll K H vs ds → DpAll K H' vs ds
  | [], _, h => by cases h; exact .nil
  | d :: ds, _, h => by
    cases h with
    | cons h1 h2 => exact .cons (Dp_same e d _ h1) (DpAll_same e ds _ h2)
end
theorem DpAll.len : ∀ {vs : List V} {ds : List PyData}, DpAll K H vs ds → vs.length = ds.length
  | [], [], _ => rfl
  | _ :: _, _ :: _, .cons _ h => by rw [List.length_cons, List.length_cons, DpAll.len h]
theorem DpAll.at : ∀ {vs : List V} {ds : List PyData} {i : Nat} {d : PyData}, DpAll K H vs ds → ds[i]? = some d → ∃ v, vs[i]? = some v ∧ Dp K H v d
  | _, _, 0, d, .cons h _, e => by cases e; exact ⟨_, rfl, h⟩
  | _, _, i + 1, d, .cons _ h, e => DpAll.at (i := i) h e
/-- small data of the four flat kinds, lists and tuples, at most so deep -/
inductive OkD : Nat → PyData → Prop
  | non {n : Nat} : OkD n .none
  | bl {n : Nat} (b : Bool) : OkD n (.bool b)
  | int {n : Nat} (i : Int) : OkD n (.int i)
  | str {n : Nat} (x : Str) : OkD n (.str x)
  | lst {n : Nat} {ds : List PyData} : ds.length ≤ 100000 → (∀ d ∈ ds, OkD n d) → OkD (n + 1) (.list ds)
  | tup {n : Nat} {ds : List PyData} : ds.length ≤ 100000 → (∀ d ∈ ds, OkD n d) → OkD (n + 1) (.tuple ds)
theorem g_isiT {x : V} {tp : Addr} {cs : List V} {t : Value} {us : List Value} {b : Bool} (hT : H tp = some (.tup cs)) (hc : Paired ClsV cs us) (ty : TyX K H x t) (hk : PySem.W.kitAny K t us = some b) (q : Q (.bl b) H) : rIsiT K [x, .ref tp] H Q :=
  ⟨x, tp, cs, t, us, b, rfl, hT, hc, ty, hk, q⟩
/-- t is one of two built-in types, or none of them -/
theorem kit2 {t a b : String} {r1 r2 : Bool} (h1 : kitB t a = some r1) (h2 : kitB t b = some r2) : PySem.W.kitAny K (.type t) [.type a, .type b] = some (r1 || r2) := by
  refine kitAny_cons (kit_ty h1) (fun e => ?_) (fun e => by rw [e]; rfl)
  rw [e]
  exact kitAny_cons (kit_ty h2) (fun e2 => by rw [e2]; rfl) (fun e2 => by rw [e2]; rfl)
theorem g_isiB {x c : V} {tn cn : String} {b : Bool} (h1 : ClsV c (.type cn)) (h2 : TyX K H x (.type tn)) (h3 : kitB tn cn = some b) (q : Q (.bl b) H) : rIsi K [x, c] H Q := ⟨x, c, .type tn, .type cn, b, rfl, h1, h2, kit_ty h3, q⟩
def LcEnd (g : TG) (tt : TT) (te : TE) (vs : List Nat) (σ : L2.St) (Q : VK) (J : It) (H1 : Hp) : Prop := ∀ D, H1 D = none → ∃ W : Nat → Nat → Hp → Prop, (∃ m, W 0 m (upd H1 D (.lst []))) ∧ ∀ i m H, W i m H →
  (J.stop i H ∧ Q (.ref D) H) ∨ (J.go i H ∧ ∃ Nx : Hp → Prop, (∀ H', Nx H' → ∃ m', m' < m ∧ W (i + 1) m' H') ∧ ∀ x H', J.yld i H x H' → g x (wipe σ vs) H' fun σ2 H2 => wipe σ2 vs = wipe σ vs ∧ tt σ2 H2 fun b H3 =>
    if b = true then te σ2 H3 fun y H4 => ∃ acc, H4 D = some (.lst acc) ∧ acc.length < sizeLine ∧ Nx (upd H4 D (.lst (acc ++ [y]))) else Nx H3)
theorem g_lc {wi : TI} {g : TG} {tt : TT} {te : TE} {vs : List Nat} (h : wi σ H (LcEnd g tt te vs σ Q)) : tLc wi g tt te vs σ H Q := h
theorem g_yes {QB : Bool → Hp → Prop} (q : QB true H) : tYes σ H QB := q
theorem w_lcRange {g : TG} {tt : TT} {te : TE} {vs : List Nat} {n : Int} (h1 : -(2 ^ 62) ≤ n) (h2 : n < 2 ^ 62) (Pv : Addr → Nat → Hp → Prop) (h0 : ∀ D, H D = none → Pv D 0 (upd H D (.lst [])))
    (hs : ∀ D i H', H D = none → i < n.toNat → Pv D i H' → g (.int i) (wipe σ vs) H' fun σ2 H2 => wipe σ2 vs = wipe σ vs ∧ tt σ2 H2 fun b H3 =>
      if b = true then te σ2 H3 fun y H4 => ∃ acc, H4 D = some (.lst acc) ∧ acc.length < sizeLine ∧ Pv D (i + 1) (upd H4 D (.lst (acc ++ [y]))) else Pv D (i + 1) H3) (hd : ∀ D H', H D = none → Pv D n.toNat H' → Q (.ref D) H') :
    ∃ j : Int, [V.int n] = [.int j] ∧ -(2 ^ 62) ≤ j ∧ j < 2 ^ 62 ∧ LcEnd g tt te vs σ Q (Itr 0 j.toNat) H :=
  ⟨n, rfl, h1, h2, fun D hD => lc_range (Pv D) (h0 D hD) (fun i H' hi p => by have q := hs D i H' hD hi p; rw [Int.zero_add]; exact q) (fun H' p => hd D H' hD p)⟩
end

/-! ### tables of code objects beside the drawing -/
/-- H without its tables -/
def noT (H : Hp) : Hp := fun b => match H b with
  | some (.tbl _) => none
  | o => o
theorem noT_some {H : Hp} {b : Addr} {o : HO} (h : noT H b = some o) : H b = some o ∧ ∀ ps, o ≠ .tbl ps := by
  unfold noT at h
  split at h
  · cases h
  · rename_i n
    exact ⟨h, fun ps e => n ps (by rw [h, e])⟩
theorem noT_of {H : Hp} {b : Addr} {o : HO} (h : H b = some o) (n : ∀ ps, o ≠ .tbl ps) : noT H b = some o := by
  unfold noT
  split
  · rename_i ps e
    rw [h] at e
    exact absurd (Option.some.inj e) (n ps)
  · exact h
theorem noT_same (H : Hp) : Same (noT H) H := fun _ _ h => (noT_some h).1
theorem noT_list {K : PySem.W.Frag} {H : Hp} {a : Addr} {xs : List V} (h : SqL K H a xs) : SqL K (noT H) a xs := by
  rcases h with (h | ⟨o, h⟩) | h
  · exact .inl (.inl (noT_of h (fun _ z => nomatch z)))
  · exact .inl (.inr ⟨o, noT_of h (fun _ z => nomatch z)⟩)
  · exact .inr h
/-- all but S and the tables stays -/
theorem Dst.ext {K : PySem.W.Frag} {H0 H H' : Hp} {S : Addr} (d : Dst K (noT H0) H S) (e : LamX.ExtN H H') : Dst K (noT H0) H' S := by
  obtain ⟨sc, ns, c, m, r, h1, h2, h3, h4⟩ := d
  exact ⟨sc, ns, c, m, r, e _ _ h1 (fun _ z => nomatch z), h2, fun b o n h => e _ _ (h3 b o n h) (noT_some h).2, h4⟩
theorem tabs_frm {K : PySem.W.Frag} {B H H' : Hp} {S : Addr} {T : List (Addr × Str)} (t : LamX.Tabs T H) (d : Dst K B H S) (f : Frm S H H') : LamX.Tabs T H' := fun p hp => by
  obtain ⟨sc, ns, c, m, r, hS, _⟩ := d
  obtain ⟨ps, h1, h2, h3⟩ := t p hp
  refine ⟨ps, f _ _ (ne_of h1 hS (fun z => nomatch z)) h1, h2, fun pos cv hc => ?_⟩
  obtain ⟨c', e1, e2⟩ := h3 pos cv hc
  exact ⟨c', e1, f _ _ (ne_of e2 hS (fun z => nomatch z)) e2⟩
theorem tabs_same {H H' : Hp} {T : List (Addr × Str)} (t : LamX.Tabs T H) (e : Same H H') : LamX.Tabs T H' := t.ext e
section
variable {P : Program} {w : World} {K : PySem.W.Frag} {mg : Str → Option Value} {base : Heap}
/-- a def whose code object is told -/
theorem fn_code {k : Nat} {f : Addr} {name qual : Str} {params : Arguments} {body : List Stmt} {scope : Scope} {dV kV doc pm cdv ct oc : Value} {an od : Option Addr} {osl : Array (Option Value)} {N ps : List Str} {sp : Sp}
    (lk : K.lookup f = some ⟨oc, od, .func (PySem.W.fnOf name qual params body scope dV kV doc pm an cdv ct), osl⟩) (hcd : PySem.W.codeIn K cdv qual = true) (S : FnScope N ps scope) (len : ∀ vs H Q E, sp vs H Q E → vs.length = ps.length)
    (hbody : ∀ (A : Around) (outer : List Env) (s : Shared) (H : Hp) (vs : List V) (Q : VK) (E : XK), Room k (A.deeper (envOfC qual scope s.heap.objs.size f cdv)) → sp vs H Q E →
      ∃ t, PSs (cxOf C8.CX0 P w K mg base N qual scope f cdv A outer s H E).nox body t ∧ t { nx := fun _ H' => Q .non H', rt := Q } (L2.start N vs) H) :
    FnOk P w K mg base C8.CX0 (k + 1) f (PySem.W.fnOf name qual params body scope dV kV doc pm an cdv ct) ps sp :=
  fn_of lk hcd S len fun A outer s H vs Q E hr hsp => (hbody A outer s H vs Q E hr hsp).elim fun t h => ⟨t, h.1.nox, h.2⟩
end
theorem g_lam {T : List (Addr × Str)} {TT : (XK → Hp → VK → Prop) → Hp → VK → Prop} {t : XK → TE} {σ : L2.St} {H : Hp} {Q : VK} (h : LamX.Tabs T H) (q : ∀ H1, LamX.ExtN H H1 → LamX.Tabs T H1 → TT (fun E H' Q' => t E σ H' Q') H1 Q) : LamX.tLam T TT t σ H Q := ⟨h, q⟩
end Wd
local macro_rules | `(tactic| walk_at "go") => `(tactic| repeat (first
  | with_reducible refine Wd.g_seq ?_
  | with_reducible refine Wd.g_nx ?_
  | with_reducible refine Wd.g_asg ?_
  | ((with_reducible refine' Wd.g_var ?h1 ?_); (case h1 => exact rfl))
  | with_reducible refine Wd.g_c ?_
  | with_reducible refine Wd.g_op ?_
  | with_reducible refine Wd.g_un ?_
  | with_reducible refine Wd.g_I0 ?_
  | with_reducible refine Wd.g_U ?_
  | with_reducible refine Wd.g_eqI ?_
  | with_reducible refine Wd.g_neI ?_
  | with_reducible refine Wd.g_eqS ?_
  | with_reducible refine Wd.g_neS ?_
  | with_reducible refine Wd.g_eqB ?_
  | with_reducible refine Wd.g_neB ?_
  | with_reducible refine Wd.g_isN ?_
  | with_reducible refine Wd.g_notN ?_
  | with_reducible refine Wd.g_lc ?_
  | with_reducible refine Wd.g_yes ?_
  | with_reducible refine Wd.g_test ?_
  | with_reducible refine Wd.g_tB ?_
  | with_reducible refine Wd.g_bl ?_
  | with_reducible refine Wd.g_blI ?_
  | with_reducible refine Wd.g_and ?_
  | with_reducible refine Wd.g_or ?_
  | with_reducible refine Wd.g_not ?_
  | with_reducible refine Wd.g_andV ?_
  | with_reducible refine Wd.g_orV ?_
  | with_reducible refine Wd.g_notV ?_
  | with_reducible refine Wd.g_if ?_
  | with_reducible refine Wd.g_chain ?_
  | with_reducible refine Wd.g_chain3 ?_
  | with_reducible refine Wd.g_nil ?_
  | with_reducible refine Wd.g_cons ?_
  | with_reducible refine Wd.g_tup ?_
  | with_reducible refine Wd.g_lst ?_
  | with_reducible refine Wd.g_CB ?_
  | with_reducible refine Wd.g_call ?_
  | with_reducible refine Wd.g_callS ?_
  | with_reducible refine Wd.g_bm ?_
  | with_reducible refine Wd.g_bm0 ?_
  | with_reducible refine Wd.g_sl ?_
  | with_reducible refine Wd.g_part ?_
  | with_reducible refine Wd.g_part1 ?_
  | with_reducible refine Wd.g_noPart ?_
  | with_reducible refine Wd.g_next ?_
  | with_reducible refine Wd.g_name ?_
  | with_reducible refine Wd.g_sub ?_
  | with_reducible refine Wd.g_gnil ?_
  | with_reducible refine Wd.g_gcons ?_
  | with_reducible refine Wd.g_drop ?_
  | with_reducible refine Wd.g_ret ?_
  | with_reducible refine Wd.g_retN ?_
  | with_reducible refine Wd.g_brk ?_
  | with_reducible refine Wd.g_cont ?_
  | with_reducible refine Wd.g_ifS ?_
  | with_reducible refine Wd.g_bk ?_
  | with_reducible refine Wd.g_ct ?_
  | with_reducible refine Wd.g_rt ?_
  | with_reducible refine Wd.g_for ?_
  | with_reducible refine Wd.g_rng1 ?_
  | with_reducible refine Wd.g_rng2 ?_
  | with_reducible refine Wd.g_iList ?_
  | with_reducible refine Wd.g_iTup ?_
  | ((with_reducible refine Wd.g_fit ?h1 ?_); (case h1 => exact rfl))
  | with_reducible refine Wd.g_max2 ?_
  | with_reducible refine Wd.g_min2 ?_
  | with_reducible refine Wd.g_int1B ?_
  | with_reducible refine L2.iteT ?_
  | with_reducible refine L2.iteF ?_
  | ((with_reducible refine Wd.g_itT ?h1 ?_); (case h1 => exact rfl))
  | ((with_reducible refine Wd.g_itF ?h1 ?_); (case h1 => exact rfl))))
/-! Plans as data; tuples that are repeated, made of lists; lists within comprehensions. -/
namespace Wd
open PySem PySem.Spec PyProof.Rows L2

/-! ### t * k, k from 0 on -/
theorem mul_once (l : Addr) (items : Array Value) (n : Nat) (dd : Option Addr) (sl : Array (Option Value)) (u : Tok) :
    Meets (Builtin.«tuple.__mul__» ⟨[.ref l, .int 1 u], []⟩) (fun _ R s => s.heap.get? l = some { cls := .type "tuple", dict := dd, data := .seq items n, slots := sl } ∧ R (.ok (.ret (Value.ref l))) s) :=
  .of_wp fun prog w A R s h => by
    obtain ⟨hp, g, d, tk, os⟩ := s
    obtain ⟨hl, q⟩ := h
    have one := AutoSeq1.idx_int
    wp_walk using AutoSeq1.wpAny_loadPart' hl
    exact ⟨_, rfl, q⟩
theorem mul_none (l : Addr) (items : Array Value) (n : Nat) (dd : Option Addr) (sl : Array (Option Value)) (u : Tok) (h2 : items.isEmpty = false) :
    Meets (Builtin.«tuple.__mul__» ⟨[.ref l, .int 0 u], []⟩) (fun _ R s => s.heap.get? l = some { cls := .type "tuple", dict := dd, data := .seq items n, slots := sl } ∧
      R (.ok (.ret (Value.ref s.heap.objs.size))) { s with heap := s.heap.push { cls := Value.type "tuple", data := Data.seq #[] }, toks := s.toks }) :=
  .of_wp fun prog w A R s h => by
    obtain ⟨hp, g, d, tk, os⟩ := s
    obtain ⟨hl, q⟩ := h
    have one := AutoSeq1.idx_int
    wp_walk using AutoSeq1.wpAny_loadPart' hl
    exact ⟨_, rfl, q⟩
def rRepU (K : PySem.W.Frag) : R2 := fun x y H Q => ∃ (l : Addr) (k : Int) (xs : List V), x = .ref l ∧ y = .int k ∧ SqT K H l xs ∧ xs ≠ [] ∧ 0 ≤ k ∧ k ≤ 1000 ∧ xs.length ≤ 1000 ∧ (k = 1 → Q (.ref l) H) ∧
  (k ≠ 1 → ∀ p, H p = none → Q (.ref p) (upd H p (.tup (List.replicate k.toNat xs).flatten)))
section
variable {X : Cx}
theorem op_repU : OpR X (binaryOp .Mult) (rRepU X.K) := by
  intro pins s σ H x y v u Q I rx ry h
  obtain ⟨l, k, xs, rfl, rfl, hT, hne, h0, h1, hz, q1, q2⟩ := h
  by_cases c2 : 2 ≤ k
  · exact op_repT pins s σ H _ _ _ _ Q I rx ry ⟨l, k, xs, rfl, rfl, hT, hne, c2, h1, hz, q2 (by omega)⟩
  · cases rx
    obtain ⟨t, rfl⟩ := ry
    obtain ⟨its, r, ⟨⟨cls, dd, data, sl⟩, ho, hc, n, hd⟩, hs⟩ := I.tuple hT
    simp only at hc hd
    subst hc hd
    have c01 : k = 0 ∨ k = 1 := by omega
    rcases c01 with rfl | rfl
    · have hem : its.toArray.isEmpty = false := by
        cases r with
        | nil => exact absurd rfl hne
        | cons _ _ => rfl
      refine wpAny_binaryOp_repeat_ref (T := "tuple") (U := "int") (by decide) ⟨_, ho, rfl⟩ (fun s' => typeIs_int s' 0 t) noFill_tuple_mul F.fills_int_mul F.slot_int_rmul repeat_tuple F.slot_int_index.lookup (call_meets F.slot_int_rmul (typeIs_int s 0 t) F.entry_int_rmul (F.args_int_rmul_2 _ _)
        (int_rmul_tuple 0 t l its.toArray n dd sl) ⟨ho, rfl, ⟨_, ho, rfl⟩, call_meets F.slot_tuple_mul ⟨_, ho, rfl⟩ F.entry_tuple_mul (F.args_tuple_mul_2 _ _) (mul_none l its.toArray n dd sl t hem) ⟨ho, ?_⟩⟩)
      refine ⟨.ref s.heap.objs.size, _, I.laid (t' := s.toks) (o := .tup []) (fun b ob z => Heap.get?_push_of_some _ z) (Nat.le_refl _) ?_, rfl, q2 (by decide) _ (I.hok.fresh (Nat.le_refl _))⟩
      exact ⟨Nat.zero_le _, [], .nil, IsTup.new _ _⟩
    · refine wpAny_binaryOp_repeat_ref (T := "tuple") (U := "int") (by decide) ⟨_, ho, rfl⟩ (fun s' => typeIs_int s' 1 t) noFill_tuple_mul F.fills_int_mul F.slot_int_rmul repeat_tuple F.slot_int_index.lookup (call_meets F.slot_int_rmul (typeIs_int s 1 t) F.entry_int_rmul (F.args_int_rmul_2 _ _)
        (int_rmul_tuple 1 t l its.toArray n dd sl) ⟨ho, rfl, ⟨_, ho, rfl⟩, call_meets F.slot_tuple_mul ⟨_, ho, rfl⟩ F.entry_tuple_mul (F.args_tuple_mul_2 _ _) (mul_once l its.toArray n dd sl t) ⟨ho, ?_⟩⟩)
      exact ⟨.ref l, H, I, rfl, q1 rfl⟩
end

/-! ### more steps -/
def rTupOf (K : PySem.W.Frag) : List V → Hp → VK → Prop := fun xs H Q => ∃ p ys, xs = [.ref p] ∧ ((SqL K H p ys ∧ ∀ l, H l = none → Q (.ref l) (upd H l (.tup ys))) ∨ (SqT K H p ys ∧ Q (.ref p) H))
theorem call_tuple1 {X : Cx} : CallR X (.type "tuple") (rTupOf X.K) := call_tuple_of
section
variable {K : PySem.W.Frag} {H H' : Hp} {Q : VK} {σ : L2.St} {x : V}
theorem g_tupOf {p : Addr} {ys : List V} (h : SqL K H p ys) (q : ∀ l, H l = none → Q (.ref l) (upd H l (.tup ys))) : rTupOf K [.ref p] H Q := ⟨p, ys, rfl, .inl ⟨h, q⟩⟩
theorem g_inT {p : Addr} {xs : List V} (h : SqT K H p xs) (fx : flatV x = true) (fs : xs.all flatV = true) (q : Q (.bl (inV x xs)) H) : rIn K false x (.ref p) H Q := ⟨p, xs, rfl, .inr h, fx, fs, q⟩
theorem g_notInT {p : Addr} {xs : List V} (h : SqT K H p xs) (fx : flatV x = true) (fs : xs.all flatV = true) (q : Q (.bl (!inV x xs)) H) : rIn K true x (.ref p) H Q := ⟨p, xs, rfl, .inr h, fx, fs, q⟩
theorem g_sum {a : Addr} {ns : List Int} (h : SqL K H a (ns.map V.int)) (q : Q (.int ns.sum) H) : rSum K [.ref a] H Q := ⟨a, ns, rfl, h, q⟩
theorem g_pop {l : Addr} {xs : List V} {y : V} (h : H l = some (.lst xs)) (hy : xs[xs.length - 1]? = some y) (q : Q y (upd H l (.lst xs.dropLast))) : rPop (.ref l) [] H Q := ⟨l, xs, y, rfl, rfl, h, hy, q⟩
theorem w_lcTup {g : TG} {tt : TT} {te : TE} {vs : List Nat} {p : Addr} {xs : List V} (hp : SqT K H p xs) (Pv : Addr → Nat → Hp → Prop) (h0 : ∀ D, H D = none → Pv D 0 (upd H D (.lst []))) (hl : ∀ D i H', H D = none → i ≤ xs.length → Pv D i H' → SqT K H' p xs)
    (hs : ∀ D i y H', H D = none → xs[i]? = some y → Pv D i H' → g y (wipe σ vs) H' fun σ2 H2 => wipe σ2 vs = wipe σ vs ∧ tt σ2 H2 fun b H3 =>
      if b = true then te σ2 H3 fun y H4 => ∃ acc, H4 D = some (.lst acc) ∧ acc.length < sizeLine ∧ Pv D (i + 1) (upd H4 D (.lst (acc ++ [y]))) else Pv D (i + 1) H3) (hd : ∀ D H', H D = none → Pv D xs.length H' → Q (.ref D) H') :
    ∃ q, V.ref p = .ref q ∧ (∃ xs, SqT K H q xs) ∧ LcEnd g tt te vs σ Q (Itt K q) H :=
  ⟨p, rfl, ⟨xs, hp⟩, fun D hD => lc_tup (Pv D) (h0 D hD) (fun i H' hi q => hl D i H' hD hi q) (fun i y H' hy q => hs D i y H' hD hy q) (fun H' q => hd D H' hD q)⟩
/-- the end of a comprehension's turn -/
theorem g_lcput {D : Addr} {acc : List V} {y : V} {N : Hp → Prop} (h : H D = some (.lst acc)) (hl : acc.length < 100000) (q : N (upd H D (.lst (acc ++ [y])))) : ∃ acc, H D = some (.lst acc) ∧ acc.length < sizeLine ∧ N (upd H D (.lst (acc ++ [y]))) := ⟨acc, h, Nat.lt_of_lt_of_le hl (by decide), q⟩
end

/-! ### plans -/
inductive Pl where
  | pat
  | work (a b : Int)
  | row (ps : List Pl)
  | either (ps : List Pl)
  | loop (a b : Int) (p : Pl)
/-- tuples stay -/
def KeepT (H H' : Hp) : Prop := ∀ b xs, H b = some (.tup xs) → H' b = some (.tup xs)
theorem KeepT.refl (H : Hp) : KeepT H H := fun _ _ h => h
theorem KeepT.trans {H H1 H2 : Hp} (a : KeepT H H1) (b : KeepT H1 H2) : KeepT H H2 := fun c xs h => b c xs (a c xs h)
theorem keepT_same {H H' : Hp} (e : Same H H') : KeepT H H' := fun b xs h => e b _ h
theorem keepT_new {H : Hp} {p : Addr} {o : HO} (h : H p = none) : KeepT H (upd H p o) := keepT_same (same_new h)
theorem keepT_lst {H : Hp} {p : Addr} {o : HO} {xs : List V} (h : H p = some (.lst xs)) : KeepT H (upd H p o) := fun b ys e => by rw [upd_ne (ne_of e h (fun z => nomatch z))]; exact e
theorem keepT_frm {K : PySem.W.Frag} {B H H' : Hp} {S : Addr} (d : Dst K B H S) (f : Frm S H H') : KeepT H H' := fun b xs h => by
  obtain ⟨sc, ns, c, m, r, hS, _⟩ := d
  exact f b _ (ne_of h hS (fun z => nomatch z)) h
mutual
inductive PlA (H : Hp) : V → Pl → Prop
  | pat {a : Addr} : H a = some (.tup [.str "pat"]) → PlA H (.ref a) .pat
  | work {a : Addr} {x y : Int} : H a = some (.tup [.str "work", .int x, .int y]) → PlA H (.ref a) (.work x y)
  | row {a b : Addr} {vs : List V} {ps : List Pl} : H a = some (.tup [.str "row", .ref b]) → H b = some (.tup vs) → PlAs H vs ps → PlA H (.ref a) (.row ps)
  | either {a b : Addr} {vs : List V} {ps : List Pl} : H a = some (.tup [.str "either", .ref b]) → H b = some (.tup vs) → PlAs H vs ps → PlA H (.ref a) (.either ps)
  | loop {a : Addr} {x y : Int} {u : V} {p : Pl} : H a = some (.tup [.str "loop", .int x, .int y, u]) → PlA H u p → PlA H (.ref a) (.loop x y p)
inductive PlAs (H : Hp) : List V → List Pl → Prop
  | nil : PlAs H [] []
  | cons {v : V} {vs : List V} {p : Pl} {ps : List Pl} : PlA H v p → PlAs H vs ps → PlAs H (v :: vs) (p :: ps)
end
mutual
theorem PlA_keep {H H' : Hp} (e : KeepT H H') : ∀ (p : Pl) (v : V), PlA H v p → PlA H' v p
  | .pat, _, h => by cases h with | pat h => exact .pat (e _ _ h)
  | .work _ _, _, h => by cases h with | work h => exact .work (e _ _ h)
  | .row ps, _, h => by cases h with | row h1 h2 h3 => exact .row (e _ _ h1) (e _ _ h2) (PlAs_keep e ps _ h3)
  | .either ps, _, h => by cases h with | either h1 h2 h3 => exact .either (e _ _ h1) (e _ _ h2) (PlAs_keep e ps _ h3)
  | .loop _ _ p, _, h => by cases h with | loop h1 h2 => exact .loop (e _ _ h1) (PlA_keep e p _ h2)
theorem PlAs_keep {H H' : Hp} (e : KeepT H H') : ∀ (ps : List Pl) (vs : List V), PlAs H vs ps → PlAs H' vs ps
  | [], _, h => by cases h; exact .nil
  | p :: ps, _, h => by cases h with | cons h1 h2 => exact .cons (PlA_keep e p _ h1) (PlAs_keep e ps _ h2)
end
theorem PlAs.len {H : Hp} : ∀ {vs : List V} {ps : List Pl}, PlAs H vs ps → vs.length = ps.length
  | [], [], _ => rfl
  | _ :: _, _ :: _, .cons _ h => by rw [List.length_cons, List.length_cons, PlAs.len h]
theorem PlAs.at {H : Hp} : ∀ {vs : List V} {ps : List Pl} {i : Nat} {v : V}, PlAs H vs ps → vs[i]? = some v → ∃ p, ps[i]? = some p ∧ PlA H v p
  | _, _, 0, _, .cons h _, e => by cases e; exact ⟨_, rfl, h⟩
  | _, _, i + 1, _, .cons _ h, e => PlAs.at (i := i) h e
theorem PlAs.snoc {H : Hp} : ∀ {vs : List V} {ps : List Pl} {v : V} {p : Pl}, PlAs H vs ps → PlA H v p → PlAs H (vs ++ [v]) (ps ++ [p])
  | _, _, _, _, .nil, h => .cons h .nil
  | _, _, _, _, .cons a b, h => .cons a (PlAs.snoc b h)
theorem PlAs.rep {H : Hp} {v : V} {p : Pl} (h : PlA H v p) : ∀ n : Nat, PlAs H (List.replicate n [v]).flatten (List.replicate n p)
  | 0 => .nil
  | n + 1 => .cons h (PlAs.rep h n)
mutual
/-- how many tuples are plans; how deep; how many loops within one another; its bounds as they should be -/
def cnt : Pl → Nat
  | .pat => 1
  | .work _ _ => 1
  | .row ps => 1 + cnts ps
  | .either ps => 1 + cnts ps
  | .loop _ _ p => 1 + cnt p
def cnts : List Pl → Nat
  | [] => 0
  | p :: ps => cnt p + cnts ps
end
mutual
def okP : Nat → Nat → Pl → Prop
  | _, _, .pat => True
  | _, _, .work a b => 0 ≤ a ∧ a ≤ b ∧ b ≤ 1000
  | 0, _, .row _ => False
  | d + 1, l, .row ps => 0 < ps.length ∧ ps.length ≤ 20 ∧ okPs d l ps
  | 0, _, .either _ => False
  | d + 1, l, .either ps => 0 < ps.length ∧ ps.length ≤ 20 ∧ okPs d l ps
  | 0, _, .loop _ _ _ => False
  | _ + 1, 0, .loop _ _ _ => False
  | d + 1, l + 1, .loop a b p => 0 ≤ a ∧ a ≤ b ∧ b ≤ 9 ∧ okP d l p
def okPs : Nat → Nat → List Pl → Prop
  | _, _, [] => True
  | d, l, p :: ps => okP d l p ∧ okPs d l ps
end
theorem okPs_at {d l : Nat} : ∀ {ps : List Pl} {i : Nat} {p : Pl}, okPs d l ps → ps[i]? = some p → okP d l p
  | _ :: _, 0, _, h, e => by cases e; exact h.1
  | _ :: ps, i + 1, _, h, e => okPs_at (ps := ps) (i := i) h.2 e
theorem okPs_snoc {d l : Nat} : ∀ {ps : List Pl} {p : Pl}, okPs d l ps → okP d l p → okPs d l (ps ++ [p])
  | [], _, _, h => ⟨h, trivial⟩
  | _ :: ps, _, h1, h => ⟨h1.1, okPs_snoc h1.2 h⟩
theorem okPs_rep {d l : Nat} {p : Pl} (h : okP d l p) : ∀ n : Nat, okPs d l (List.replicate n p)
  | 0 => trivial
  | n + 1 => ⟨h, okPs_rep h n⟩
theorem cnt_pos : ∀ p : Pl, 1 ≤ cnt p
  | .pat => Nat.le_refl 1
  | .work _ _ => Nat.le_refl 1
  | .row _ => Nat.le_add_right 1 _
  | .either _ => Nat.le_add_right 1 _
  | .loop _ _ _ => Nat.le_add_right 1 _
theorem small_lt {n : Nat} (h : n < 100000) : n < sizeLine := Nat.lt_of_lt_of_le h (by decide)
end Wd
/-! zip; comprehensions over lists. -/
namespace Wd
open PySem PySem.Spec PyProof.Rows L2
section
variable {σ : L2.St} {H : Hp} {Q : VK} {K : PySem.W.Frag}
theorem w_zip {a : L2.St → Hp → Prop} {b : VK} {g : TG} {tb : TS} {p r : Addr} {xs ys : List V} (hl : xs.length = ys.length) (Pv : Nat → L2.St → Hp → Prop) (h0 : Pv 0 σ H) (hq : ∀ i σ H, Pv i σ H → SqL K H p xs ∧ SqL K H r ys)
    (hs : ∀ i x y T σ H, xs[i]? = some x → ys[i]? = some y → Pv i σ H → H T = none → g (.ref T) σ (upd H T (.tup [x, y])) fun σ2 H2 => tb ⟨Pv (i + 1), b, a, Pv (i + 1)⟩ σ2 H2) (hd : ∀ σ H, Pv xs.length σ H → a σ H) :
    ∃ a' b' xs ys, [V.ref p, .ref r] = [V.ref a', .ref b'] ∧ SqL K H a' xs ∧ SqL K H b' ys ∧ ForEnd g tb a b σ (Itz K a' b') H :=
  ⟨p, r, xs, ys, rfl, (hq 0 σ H h0).1, (hq 0 σ H h0).2, RZ.for_zipL (D := ⟨a, b, fun _ _ => False, fun _ _ => False⟩) hl Pv h0 hq hs hd⟩
theorem w_lcZip {g : TG} {tt : TT} {te : TE} {vs : List Nat} {p r : Addr} {xs ys : List V} (hl : xs.length = ys.length) (hp : SqL K H p xs) (hr : SqL K H r ys) (Pv : Addr → Nat → Hp → Prop) (h0 : ∀ D, H D = none → Pv D 0 (upd H D (.lst [])))
    (hq : ∀ D i H', H D = none → Pv D i H' → SqL K H' p xs ∧ SqL K H' r ys)
    (hs : ∀ D i x y T H', H D = none → xs[i]? = some x → ys[i]? = some y → Pv D i H' → H' T = none → g (.ref T) (wipe σ vs) (upd H' T (.tup [x, y])) fun σ2 H2 => wipe σ2 vs = wipe σ vs ∧ tt σ2 H2 fun b H3 =>
      if b = true then te σ2 H3 fun y H4 => ∃ acc, H4 D = some (.lst acc) ∧ acc.length < sizeLine ∧ Pv D (i + 1) (upd H4 D (.lst (acc ++ [y]))) else Pv D (i + 1) H3) (hd : ∀ D H', H D = none → Pv D xs.length H' → Q (.ref D) H') :
    ∃ a' b' xs ys, [V.ref p, .ref r] = [V.ref a', .ref b'] ∧ SqL K H a' xs ∧ SqL K H b' ys ∧ LcEnd g tt te vs σ Q (Itz K a' b') H := by
  refine ⟨p, r, xs, ys, rfl, hp, hr, fun D hD => ?_⟩
  refine ⟨fun i m H' => m = xs.length - i ∧ i ≤ xs.length ∧ Pv D i H', ⟨xs.length, by simp, Nat.zero_le _, h0 D hD⟩, ?_⟩
  rintro i m H' ⟨rfl, hi, pv⟩
  obtain ⟨qx, qy⟩ := hq D i H' hD pv
  by_cases hlt : i < xs.length
  · have hx : xs[i]? = some xs[i] := List.getElem?_eq_getElem hlt
    have hlt2 : i < ys.length := by omega
    have hy : ys[i]? = some ys[i] := List.getElem?_eq_getElem hlt2
    refine .inr ⟨⟨xs, ys, _, _, qx, qy, hx, hy⟩, Pv D (i + 1), fun H' p' => ⟨xs.length - (i + 1), by omega, rfl, hlt, p'⟩, fun v H'' y => ?_⟩
    obtain ⟨T, x', y', rfl, hT, rfl, f1, f2⟩ := y
    exact hs D i x' y' T H' hD (f1 xs qx) (f2 ys qy) pv hT
  · have e : i = xs.length := by omega
    subst e
    exact .inl ⟨⟨xs, ys, qx, qy, Or.inl (Nat.le_refl _)⟩, hd D H' hD pv⟩
theorem w_lcList {g : TG} {tt : TT} {te : TE} {vs : List Nat} {p : Addr} {xs : List V} (hp : SqL K H p xs) (Pv : Addr → Nat → Hp → Prop) (h0 : ∀ D, H D = none → Pv D 0 (upd H D (.lst []))) (hl : ∀ D i H', H D = none → i ≤ xs.length → Pv D i H' → SqL K H' p xs)
    (hs : ∀ D i y H', H D = none → xs[i]? = some y → Pv D i H' → g y (wipe σ vs) H' fun σ2 H2 => wipe σ2 vs = wipe σ vs ∧ tt σ2 H2 fun b H3 =>
      if b = true then te σ2 H3 fun y H4 => ∃ acc, H4 D = some (.lst acc) ∧ acc.length < sizeLine ∧ Pv D (i + 1) (upd H4 D (.lst (acc ++ [y]))) else Pv D (i + 1) H3) (hd : ∀ D H', H D = none → Pv D xs.length H' → Q (.ref D) H') :
    ∃ q, V.ref p = .ref q ∧ (∃ xs, SqL K H q xs) ∧ LcEnd g tt te vs σ Q (Itl K q) H :=
  ⟨p, rfl, ⟨xs, hp⟩, fun D hD => lc_list (Pv D) (h0 D hD) (fun i H' hi q => hl D i H' hD hi q) (fun i y H' hy q => hs D i y H' hD hy q) (fun H' q => hd D H' hD q)⟩
theorem g_zip {ta : TA} {R : It → Hp → Prop} (h : ta σ H fun vs H1 => ∃ a b xs ys, vs = [.ref a, .ref b] ∧ SqL K H1 a xs ∧ SqL K H1 b ys ∧ R (Itz K a b) H1) : iZip K ta σ H R := h
end
end Wd
namespace K11
open PySem PySem.Spec PyProof.Rows L2 Wd
def top (i : Nat) : Stmt := PySem.Challenge.pw_windowdog_k11_keepers_and_what_is_found.main.body.getD i (.Pass ⟨0, 0, 0, 0⟩)
/-- the names that the text calls; BadWindow stands at CW -/
structure Txt (K : PySem.W.Frag) (mg : Str → Option Value) (CW : Addr) : Prop where
  n_isinstance : mg "isinstance" = none
  n_len : mg "len" = none
  n_int : mg "int" = none
  n_bool : mg "bool" = none
  n_range : mg "range" = none
  n_list : mg "list" = none
  n_tuple : mg "tuple" = none
  n_str : mg "str" = none
  n_max : mg "max" = none
  c_GREATEST_HIGH : ∃ t, mg "GREATEST_HIGH" = some (.int 1000 t)
  g_BadWindow : mg "BadWindow" = some (.ref CW)
  x_BadWindow : PySem.W.excIn K CW [.type "ValueError", .type "Exception", .type "BaseException", .type "object"] "ValueError.__new__" = true
  k_BadWindow : PySem.W.keepIn K (.ref CW) = true
  b_BadWindow : PySem.W.subIn K (.ref CW) (.type "BaseException") = some true
  t_BadWindow : PySem.W.typeIn K (.ref CW) = some (.type "type")
/-- .. and those of the keeper; BadBeat stands at CT -/
structure TxtK (K : PySem.W.Frag) (mg : Str → Option Value) (CW CT : Addr) : Prop extends Txt K mg CW where
  n_zip : mg "zip" = none
  c_GREATEST_BEAT : ∃ t, mg "GREATEST_BEAT" = some (.int 60 t)
  g_BadBeat : mg "BadBeat" = some (.ref CT)
  x_BadBeat : PySem.W.excIn K CT [.type "ValueError", .type "Exception", .type "BaseException", .type "object"] "ValueError.__new__" = true
  k_BadBeat : PySem.W.keepIn K (.ref CT) = true
  b_BadBeat : PySem.W.subIn K (.ref CT) (.type "BaseException") = some true
  t_BadBeat : PySem.W.typeIn K (.ref CT) = some (.type "type")
section
variable {P : Program} {w : World} {K : PySem.W.Frag} {mg : Str → Option Value} {base : Heap} {CW : Addr}
abbrev s_is_number : Stmt := top 12
theorem sc_is_number : FnScope ["value"] ["value"] (C8.fnScope s_is_number) := C8.fnScope_by (by decide +kernel)
def sp_is_number : Sp := fun vs H Q _ => ∃ i : Int, vs = [.int i] ∧ Q (.bl true) H
theorem ok_is_number (T : Txt K mg CW) {f : Addr} {fd : FuncData} (D : C8.Def K mg "is_number" s_is_number f fd) (b : Binds K fd ["value"] []) : C8.Cal P w K mg base 1 "is_number" sp_is_number [] := by
  refine C8.cal0 D b .nil sc_is_number (fun vs H Q E h => ?_) fun cdv A outer s H vs Q E hr h => ?_
  · obtain ⟨i, rfl, _⟩ := h; rfl
  · obtain ⟨i, rfl, q⟩ := h
    have nd := sc_is_number.nd
    refine ⟨_, (pss_one (ps_ret (pe_and (pe_callB (r := rIsi K) call_isi (by rfl) T.n_isinstance (by decide +kernel) (pa_cons (pv 0) (pa_cons (pe_bltn (v := .ty "int") (by rfl) T.n_int (by decide +kernel) rfl) pa_nil))) (pe_one (pe_not (pe_callB (r := rIsi K) call_isi (by rfl) T.n_isinstance (by decide +kernel) (pa_cons (pv 0) (pa_cons (pe_bltn (v := .ty "bool") (by rfl) T.n_bool (by decide +kernel) rfl) pa_nil)))))))), ?_⟩
    walk_at "go"
    refine g_isi (.ty "int") (.base (.int i)) (kit_ty (r := true) (by decide +kernel)) ?_
    walk_at "go"
    refine g_isi (.ty "bool") (.base (.int i)) (kit_ty (r := false) (by decide +kernel)) ?_
    walk_at "go"
    exact q

abbrev s_is_range : Stmt := top 13
theorem sc_is_range : FnScope ["least", "most", "limit"] ["least", "most", "limit"] (C8.fnScope s_is_range) := C8.fnScope_by (by decide +kernel)
def sp_is_range : Sp := fun vs H Q _ => ∃ i j k : Int, vs = [.int i, .int j, .int k] ∧ Q (.bl (decide (0 ≤ i ∧ i ≤ j ∧ j ≤ k))) H
theorem ok_is_range (T : Txt K mg CW) {f : Addr} {fd : FuncData} (D : C8.Def K mg "is_range" s_is_range f fd) (b : Binds K fd ["least", "most", "limit"] []) (g_is_number : C8.Cal P w K mg base 1 "is_number" sp_is_number []) : C8.Cal P w K mg base 2 "is_range" sp_is_range [] := by
  refine C8.cal0 D b .nil sc_is_range (fun vs H Q E h => ?_) fun cdv A outer s H vs Q E hr h => ?_
  · obtain ⟨i, j, k, rfl, _⟩ := h; rfl
  · obtain ⟨i, j, k, rfl, q⟩ := h
    have nd := sc_is_range.nd
    refine ⟨_, (pss_one (ps_ret (pe_and (C8.pe_c g_is_number hr (by first | decide | exact Nat.le_refl _ | omega) (by rfl) (pa_cons (pv 0) pa_nil)) (pe_and (C8.pe_c g_is_number hr (by first | decide | exact Nat.le_refl _ | omega) (by rfl) (pa_cons (pv 1) pa_nil)) (pe_one (pe_chain3 op_le op_le op_le pe_int (pv 0) (pv 1) (pv 2))))))), ?_⟩
    walk_at "go"
    refine ⟨i, rfl, ?_⟩
    walk_at "go"
    refine ⟨j, rfl, ?_⟩
    walk_at "go"
    refine g_ite (fun h1 => ?_) (fun h1 => ?_)
    · walk_at "go"
      refine g_ite (fun h2 => ?_) (fun h2 => ?_)
      · walk_at "go"
        have e : decide (0 ≤ i ∧ i ≤ j ∧ j ≤ k) = decide (j ≤ k) := by simp [h1, h2]
        rw [e] at q; exact q
      · walk_at "go"
        have e : decide (0 ≤ i ∧ i ≤ j ∧ j ≤ k) = false := decide_eq_false (by omega)
        rw [e] at q; exact q
    · walk_at "go"
      have e : decide (0 ≤ i ∧ i ≤ j ∧ j ≤ k) = false := decide_eq_false (by omega)
      rw [e] at q; exact q

def okW (lo hi : Int) : Prop := 0 ≤ lo ∧ lo ≤ hi ∧ hi ≤ 1000
abbrev s_check_window : Stmt := top 16
theorem sc_check_window : FnScope ["window", "low", "high"] ["window"] (C8.fnScope s_check_window) := C8.fnScope_by (by decide +kernel)
def sp_check_window (K : PySem.W.Frag) (CW : Addr) : Sp := fun vs H Q E => ∃ (W : Addr) (lo hi : Int), vs = [.ref W] ∧ SqT K H W [.int lo, .int hi] ∧ (okW lo hi → Q .non H) ∧ (¬ okW lo hi → E (.ref CW) none H)
theorem ok_check_window (T : Txt K mg CW) {f : Addr} {fd : FuncData} (D : C8.Def K mg "check_window" s_check_window f fd) (b : Binds K fd ["window"] []) (g_is_range : C8.Cal P w K mg base 2 "is_range" sp_is_range []) : CalX P w K mg base 3 "check_window" (sp_check_window K CW) := by
  refine calX D b sc_check_window (fun vs H Q E h => ?_) fun cdv A outer s H vs Q E hr h => ?_
  · obtain ⟨W, lo, hi, rfl, _⟩ := h; rfl
  · obtain ⟨W, lo, hi, rfl, hW, q1, q2⟩ := h
    have nd := sc_check_window.nd
    obtain ⟨tg, c_GREATEST_HIGH⟩ := T.c_GREATEST_HIGH
    refine ⟨_, (pss_cons (ps_asg (pv 0) (pg_tup rfl (pgs_cons (pg_name (i := 1) nd rfl (Or.inl rfl)) (pgs_cons (pg_name (i := 2) nd rfl (Or.inl rfl)) pgs_nil))))
      (pss_one (ps_if (pt_not (pt_val (C8.pe_c g_is_range hr (by first | decide | exact Nat.le_refl _ | omega) (by rfl) (pa_cons (pv 1) (pa_cons (pv 2) (pa_cons (pe_glob (v := .int 1000) rfl c_GREATEST_HIGH ⟨_, rfl⟩) pa_nil)))))) (pss_one (ps_raise rfl (takes_of rfl rfl rfl rfl) (pmk_own PySem.F.excBase_ValueError T.x_BadWindow T.g_BadWindow T.k_BadWindow (raises_own T.b_BadWindow T.t_BadWindow) (by rfl)))) pss_nil))), ?_⟩
    walk_at "go"
    refine g_gtup hW rfl ?_
    walk_at "go"
    refine ⟨lo, hi, 1000, rfl, ?_⟩
    walk_at "go"
    refine g_iteN (fun hn => ?_) (fun hy => ?_)
    · exact q2 hn
    · walk_at "go"
      exact q1 hy

/-! ### the first bite -/
def fb (lo hi : Int) : Int → List Int → Int × Str
  | last, [] => (last + hi + 1, ("late" : Str))
  | last, p :: ps => if p > last + hi then (last + hi + 1, ("late" : Str)) else if p < last + lo then (p, ("early" : Str)) else fb lo hi p ps
theorem fb_nil (lo hi last : Int) : fb lo hi last [] = (last + hi + 1, ("late" : Str)) := rfl
theorem fb_late {lo hi last p : Int} {ps : List Int} (h : p > last + hi) : fb lo hi last (p :: ps) = (last + hi + 1, ("late" : Str)) := if_pos h
theorem fb_early {lo hi last p : Int} {ps : List Int} (h : ¬ p > last + hi) (h2 : p < last + lo) : fb lo hi last (p :: ps) = (p, ("early" : Str)) := (if_neg h).trans (if_pos h2)
theorem fb_next {lo hi last p : Int} {ps : List Int} (h : ¬ p > last + hi) (h2 : ¬ p < last + lo) : fb lo hi last (p :: ps) = fb lo hi p ps := (if_neg h).trans (if_neg h2)

abbrev s_first_bite : Stmt := top 17
theorem sc_first_bite : FnScope ["window", "pats", "low", "high", "last", "pat"] ["window", "pats"] (C8.fnScope s_first_bite) := C8.fnScope_by (by decide +kernel)
def sp_first_bite (K : PySem.W.Frag) : Sp := fun vs H Q _ => ∃ (W S : Addr) (lo hi : Int) (ps : List Int), vs = [.ref W, .ref S] ∧ SqT K H W [.int lo, .int hi] ∧ SqL K H S (ps.map V.int) ∧
  ∀ q, H q = none → Q (.ref q) (upd H q (.tup [.int (fb lo hi 0 ps).1, .str (fb lo hi 0 ps).2]))
theorem ok_first_bite (T : Txt K mg CW) {f : Addr} {fd : FuncData} (D : C8.Def K mg "first_bite" s_first_bite f fd) (b : Binds K fd ["window", "pats"] []) : C8.Cal P w K mg base 1 "first_bite" (sp_first_bite K) [] := by
  refine C8.cal0 D b .nil sc_first_bite (fun vs H Q E h => ?_) fun cdv A outer s H vs Q E hr h => ?_
  · obtain ⟨W, S, lo, hi, ps, rfl, _⟩ := h; rfl
  · obtain ⟨W, S, lo, hi, ps, rfl, hW, hS, q⟩ := h
    have nd := sc_first_bite.nd
    refine ⟨_, (pss_cons (ps_asg (pv 0) (pg_tup rfl (pgs_cons (pg_name (i := 2) nd rfl (Or.inl rfl)) (pgs_cons (pg_name (i := 3) nd rfl (Or.inl rfl)) pgs_nil))))
      (pss_cons (ps_set (i := 4) nd rfl (Or.inl rfl) pe_int)
      (pss_cons (ps_for PassesOwn.never rfl (pi_list (pv 1)) (pg_name (i := 5) nd rfl (Or.inl rfl)) (pss_cons (ps_if (pt_cmpR op_gt (pv 5) (pe_op op_add (pv 4) (pv 3)) (nomark _)) (pss_one ps_break) pss_nil)
      (pss_cons (ps_if (pt_cmpR op_lt (pv 5) (pe_op op_add (pv 4) (pv 2)) (nomark _)) (pss_one (ps_ret (pe_tup (pa_cons (pv 5) (pa_cons pe_str pa_nil))))) pss_nil)
      (pss_one (ps_set (i := 4) nd rfl (Or.inl rfl) (pv 5))))))
      (pss_one (ps_ret (pe_tup (pa_cons (pe_op op_add (pe_op op_add (pv 4) (pv 3)) pe_int) (pa_cons pe_str pa_nil)))))))), ?_⟩
    walk_at "go"
    refine g_gtup hW rfl ?_
    walk_at "go"
    refine w_list (xs := ps.map V.int) (fun i σ H' => H' = H ∧ ∃ (last : Int) (v : Option V), σ = [some (.ref W), some (.ref S), some (.int lo), some (.int hi), some (.int last), v] ∧ fb lo hi 0 ps = fb lo hi last (ps.drop i)) ?_ ?_ ?_ ?_
    · exact ⟨rfl, 0, none, rfl, rfl⟩
    · rintro i σ H' _ ⟨rfl, _⟩; exact hS
    · rintro i x σ H' hx ⟨rfl, last, v, rfl, e⟩
      obtain ⟨p, hp, rfl⟩ : ∃ p, ps[i]? = some p ∧ x = V.int p := by
        rw [List.getElem?_map] at hx
        cases hq : ps[i]? with
        | none => rw [hq] at hx; cases hx
        | some z => rw [hq] at hx; exact ⟨z, rfl, (Option.some.inj hx).symm⟩
      have ed : ps.drop i = p :: ps.drop (i + 1) := by
        obtain ⟨hl, hh⟩ := List.getElem?_eq_some_iff.mp hp
        rw [List.drop_eq_getElem_cons hl, hh]
      rw [ed] at e
      walk_at "go"
      refine g_ite (fun h1 => ?_) (fun h1 => ?_)
      · rw [fb_late h1] at e
        rw [e] at q
        walk_at "go"
        exact q
      · walk_at "go"
        refine g_ite (fun h2 => ?_) (fun h2 => ?_)
        · rw [fb_early h1 h2] at e
          rw [e] at q
          walk_at "go"
          exact q
        · rw [fb_next h1 h2] at e
          walk_at "go"
          exact ⟨rfl, p, _, rfl, e⟩
    · rintro σ H' ⟨rfl, last, v, rfl, e⟩
      rw [List.length_map, List.drop_length, fb_nil] at e
      rw [e] at q
      walk_at "go"
      exact q
end
end K11
namespace K11
open PySem PySem.Spec PyProof.Rows L2 Wd
section
variable {P : Program} {w : World} {K : PySem.W.Frag} {mg : Str → Option Value} {base : Heap} {CW : Addr}
def bite (lo hi e : Int) (ps : List Int) : Option (Int × Str) := if (fb lo hi 0 ps).1 > e then none else some (fb lo hi 0 ps)
abbrev s_bitten_at : Stmt := top 18
theorem sc_bitten_at : FnScope ["window", "pats", "end", "bite"] ["window", "pats", "end"] (C8.fnScope s_bitten_at) := C8.fnScope_by (by decide +kernel)
def sp_bitten_at (K : PySem.W.Frag) (CW : Addr) : Sp := fun vs H Q E => ∃ (W S : Addr) (lo hi e : Int) (ps : List Int), vs = [.ref W, .ref S, .int e] ∧ SqT K H W [.int lo, .int hi] ∧ (¬ okW lo hi → E (.ref CW) none H) ∧
  (okW lo hi → SqL K H S (ps.map V.int) ∧ (∀ H', Same H H' → bite lo hi e ps = none → Q .non H') ∧ ∀ m wd H' q, bite lo hi e ps = some (m, wd) → Same H H' → H' q = some (.tup [.int m, .str wd]) → Q (.ref q) H')
theorem ok_bitten_at (T : Txt K mg CW) {f : Addr} {fd : FuncData} (D : C8.Def K mg "bitten_at" s_bitten_at f fd) (b : Binds K fd ["window", "pats", "end"] []) (g_check_window : CalX P w K mg base 3 "check_window" (sp_check_window K CW))
    (g_first_bite : C8.Cal P w K mg base 1 "first_bite" (sp_first_bite K) []) : CalX P w K mg base 4 "bitten_at" (sp_bitten_at K CW) := by
  refine calX D b sc_bitten_at (fun vs H Q E h => ?_) fun cdv A outer s H vs Q E hr h => ?_
  · obtain ⟨W, S, lo, hi, e, ps, rfl, _⟩ := h; rfl
  · obtain ⟨W, S, lo, hi, e, ps, rfl, hW, q1, q2⟩ := h
    have nd := sc_bitten_at.nd
    refine ⟨_, (pss_cons (ps_expr (pe_cX g_check_window hr (by first | decide | exact Nat.le_refl _ | omega) (by rfl) (fun σ => passAt (takes_of rfl rfl rfl rfl) σ) (pa_cons (pv 0) pa_nil)))
      (pss_cons (ps_set (i := 3) nd rfl (Or.inl rfl) (C8.pe_c g_first_bite hr (by first | decide | exact Nat.le_refl _ | omega) (by rfl) (pa_cons (pv 0) (pa_cons (pv 1) pa_nil))))
      (pss_cons (ps_if (pt_cmpR op_gt (pe_ix (r := rIxT K) ix_tup (pv 3) pe_int (fun _ _ => rfl)) (pv 2) (nomark _)) (pss_one (ps_ret pe_non)) pss_nil)
      (pss_one (ps_ret (pv 3)))))), ?_⟩
    walk_at "go"
    refine ⟨W, lo, hi, rfl, hW, fun ok => ?_, fun bad => q1 bad⟩
    obtain ⟨hS, k1, k2⟩ := q2 ok
    walk_at "go"
    refine ⟨W, S, lo, hi, ps, rfl, hW, hS, fun t ht => ?_⟩
    have st := same_new (o := .tup [.int (fb lo hi 0 ps).1, .str (fb lo hi 0 ps).2]) ht
    walk_at "go"
    refine g_ixT (SqT.of upd_same) rfl ?_
    walk_at "go"
    refine g_ite (fun h1 => ?_) (fun h1 => ?_)
    · walk_at "go"
      exact k1 _ st (if_pos h1)
    · walk_at "go"
      exact k2 _ _ _ t (if_neg h1) st upd_same
end
end K11
namespace K11
open PySem PySem.Spec PyProof.Rows L2 Wd
section
variable {P : Program} {w : World} {K : PySem.W.Frag} {mg : Str → Option Value} {base : Heap} {CW : Addr}
abbrev s_law_start : Stmt := top 26
theorem sc_law_start : FnScope ["_law_script", "_law_mixed", "_law_cell"] ["_law_script"] (C8.fnScope s_law_start) := C8.fnScope_by (by decide +kernel)
def sp_start (K : PySem.W.Frag) : Sp := fun vs H Q _ => ∃ (B : Hp) (sc : Addr) (ns : List Int), vs = [.ref sc] ∧ SqL K B sc (ns.map V.int) ∧ Same B H ∧ ns.length ≤ 63 ∧ ∀ H' S, H S = none → Same H H' → Dst K B H' S → Q (.ref S) H'
theorem ok_start (T : Txt K mg CW) {f : Addr} {fd : FuncData} (D : C8.Def K mg "_law_start" s_law_start f fd) (b : Binds K fd ["_law_script"] []) : C8.Cal P w K mg base 1 "_law_start" (sp_start K) [] := by
  refine C8.cal0 D b .nil sc_law_start (fun vs H Q E h => ?_) fun cdv A outer s H vs Q E hr h => ?_
  · obtain ⟨B, sc, ns, rfl, _⟩ := h; rfl
  · obtain ⟨B, sc, ns, rfl, hB, sB, hl, q⟩ := h
    have hS := list_same sB hB
    have nd := sc_law_start.nd
    refine ⟨_, (pss_cons (ps_set (i := 1) nd rfl (Or.inl rfl) pe_int)
      (pss_cons (ps_for PassesOwn.never rfl (pi_list (pv 0)) (pg_name (i := 2) nd rfl (Or.inl rfl)) (pss_one (ps_set (i := 1) nd rfl (Or.inl rfl) (pe_op op_mod (pe_op op_add (pe_op op_add (pe_op op_mulW (pv 1) pe_int) (pv 2)) pe_int) pe_int))))
      (pss_one (ps_ret (pe_lst (pa_cons (pv 0) (pa_cons pe_int (pa_cons (pv 1) (pa_cons pe_int pa_nil))))))))), ?_⟩
    walk_at "go"
    refine w_list (xs := ns.map V.int) (fun i σ H' => H' = H ∧ ∃ (m : Int) (v : Option V), σ = [some (.ref sc), some (.int m), v] ∧ 0 ≤ m ∧ m < 2147483647) ?_ ?_ ?_ ?_
    · exact ⟨rfl, 1, none, rfl, by decide, by decide⟩
    · rintro i σ H' _ ⟨rfl, _⟩; exact hS
    · rintro i x σ H' hx ⟨rfl, m, v, rfl, h1, h2⟩
      obtain ⟨c, hc, rfl⟩ := map_at hx
      walk_at "go"
      refine g_I (mulW_small h1 (by omega) (by decide) (by decide)) ?_
      walk_at "go"
      refine g_I (show (0 : Int) < 2147483647 by decide) ?_
      walk_at "go"
      exact ⟨rfl, _, _, rfl, by omega, by omega⟩
    · rintro σ H' ⟨rfl, m, v, rfl, h1, h2⟩
      walk_at "go"
      intro S hn
      exact q _ S hn (same_new hn) ⟨sc, ns, 0, m, 0, upd_same, .of hB (fun _ _ h => h) (Same.back sB hn), .of (sB.trans (same_new hn)), hl, by decide, h1, h2⟩

abbrev s_law_drawn : Stmt := top 27
theorem sc_law_drawn : FnScope ["_law_state", "_law_many", "_law_found", "_law_cell"] ["_law_state", "_law_many"] (C8.fnScope s_law_drawn) := C8.fnScope_by (by decide +kernel)
def sp_drawn (K : PySem.W.Frag) : Sp := fun vs H Q _ => ∃ (B : Hp) (S : Addr) (n : Int), vs = [.ref S, .int n] ∧ Dst K B H S ∧ 0 < n ∧ n < 10 ^ 38 ∧ ∀ H' v, Frm S H H' → Dst K B H' S → 0 ≤ v → v < n → Q (.int v) H'
theorem ok_drawn (T : Txt K mg CW) {f : Addr} {fd : FuncData} (D : C8.Def K mg "_law_drawn" s_law_drawn f fd) (b : Binds K fd ["_law_state", "_law_many"] []) : C8.Cal P w K mg base 1 "_law_drawn" (sp_drawn K) [] := by
  refine C8.cal0 D b .nil sc_law_drawn (fun vs H Q E h => ?_) fun cdv A outer s H vs Q E hr h => ?_
  · obtain ⟨B, S, n, rfl, _⟩ := h; rfl
  · obtain ⟨B, S, n, rfl, ⟨sc, ns, c, m, r, hS, hsB, fB, hl, c0, m0, m1⟩, n0, n1, q⟩ := h
    have hsc := hsB.frm fB
    have nd := sc_law_drawn.nd
    refine ⟨_, (pss_cons (ps_if (pt_cmpR op_gt (pe_ix (r := rIxL K) ix_list (pv 0) pe_int (fun _ _ => rfl)) pe_int (nomark _)) (pss_cons (ps_set (i := 2) nd rfl (Or.inl rfl) (pe_op op_mod (pe_ix (r := rIxL K) ix_list (pv 0) pe_int (fun _ _ => rfl)) (pv 1)))
      (pss_cons (ps_asg (pe_op op_fdivW (pe_ix (r := rIxL K) ix_list (pv 0) pe_int (fun _ _ => rfl)) (pv 1)) (pg_sub (pv 0) pe_int set_list))
      (pss_one (ps_ret (pv 2))))) pss_nil)
      (pss_cons (ps_asg (pe_op op_add (pe_ix (r := rIxL K) ix_list (pv 0) pe_int (fun _ _ => rfl)) pe_int) (pg_sub (pv 0) pe_int set_list))
      (pss_cons (ps_if (pt_cmpR op_le (pe_ix (r := rIxL K) ix_list (pv 0) pe_int (fun _ _ => rfl)) (pe_callB (r := Wd.rLen K) call_len1 (by rfl) T.n_len PySem.boot_len (pa_cons (pe_ix (r := rIxL K) ix_list (pv 0) pe_int (fun _ _ => rfl)) pa_nil)) (nomark _)) (pss_cons (ps_set (i := 3) nd rfl (Or.inl rfl) (pe_ix (r := rIxL K) ix_list (pe_ix (r := rIxL K) ix_list (pv 0) pe_int (fun _ _ => rfl)) (pe_op op_sub (pe_ix (r := rIxL K) ix_list (pv 0) pe_int (fun _ _ => rfl)) pe_int) (fun _ _ => rfl)))
      (pss_cons (ps_asg (pe_ifExp (pt_cmpR op_ge (pv 3) (pe_op op_pow pe_int pe_int) (nomark _)) (pe_op op_fdivW (pv 3) (pv 1)) pe_int) (pg_sub (pv 0) pe_int set_list))
      (pss_one (ps_ret (pe_op op_mod (pv 3) (pv 1)))))) pss_nil)
      (pss_cons (ps_asg (pe_op op_mod (pe_op op_add (pe_op op_mulW (pe_ix (r := rIxL K) ix_list (pv 0) pe_int (fun _ _ => rfl)) pe_int) pe_int) pe_int) (pg_sub (pv 0) pe_int set_list))
      (pss_one (ps_ret (pe_op op_mod (pe_op op_fdivW (pe_ix (r := rIxL K) ix_list (pv 0) pe_int (fun _ _ => rfl)) pe_int) (pv 1)))))))), ?_⟩
    walk_at "go"
    refine g_ixL (SqL.of hS) rfl ?_
    walk_at "go"
    refine g_ite (fun hr0 => ?_) (fun hr0 => ?_)
    · walk_at "go"
      refine g_ixL (SqL.of hS) rfl ?_
      walk_at "go"
      refine g_I n0 ?_
      walk_at "go"
      refine g_ixL (SqL.of hS) rfl ?_
      walk_at "go"
      refine g_I (divW_small n0 n1) ?_
      walk_at "go"
      refine g_setL hS rfl ?_
      walk_at "go"
      exact q _ _ .set ⟨sc, ns, c, m, r / n, upd_same, hsB, fB.trans .set, hl, c0, m0, m1⟩ (Int.emod_nonneg _ (by omega)) (Int.emod_lt_of_pos _ n0)
    · walk_at "go"
      refine g_ixL (SqL.of hS) rfl ?_
      walk_at "go"
      refine g_setL hS rfl ?_
      walk_at "go"
      refine g_ixL (SqL.of upd_same) rfl ?_
      walk_at "go"
      refine g_ixL (SqL.of upd_same) rfl ?_
      walk_at "go"
      refine g_len (.inl (hsc.frm .set).sq) ?_
      walk_at "go"
      rw [List.length_map]
      refine g_ite (fun hc => ?_) (fun hc => ?_)
      · walk_at "go"
        refine g_ixL (SqL.of upd_same) rfl ?_
        walk_at "go"
        refine g_ixL (SqL.of upd_same) rfl ?_
        walk_at "go"
        have hcl : c.toNat < ns.length := by omega
        refine g_ixL (hsc.frm .set).sq (at_of (j := c.toNat) (v := V.int (ns[c.toNat]'hcl)) (by omega) (by rw [List.getElem?_map, List.getElem?_eq_getElem hcl]; rfl)) ?_
        generalize ns[c.toNat]'hcl = z
        walk_at "go"
        refine g_I (pow_small (by decide) (by decide) (by decide)) ?_
        walk_at "go"
        have fin : ∀ x : Int, Frm S H (upd (upd H S (HO.lst [V.ref sc, V.int (c + 1), V.int m, V.int r])) S (HO.lst [V.ref sc, V.int (c + 1), V.int m, V.int x])) ∧ Dst K B (upd (upd H S (HO.lst [V.ref sc, V.int (c + 1), V.int m, V.int r])) S (HO.lst [V.ref sc, V.int (c + 1), V.int m, V.int x])) S := fun x =>
          ⟨Frm.set.trans .set, sc, ns, c + 1, m, x, upd_same, hsB, (fB.trans .set).trans .set, hl, by omega, m0, m1⟩
        refine g_ite (fun hz => ?_) (fun hz => ?_)
        · walk_at "go"
          refine g_I (divW_small n0 n1) ?_
          walk_at "go"
          refine g_setL upd_same rfl ?_
          walk_at "go"
          refine g_I n0 ?_
          exact q _ _ (fin _).1 (fin _).2 (Int.emod_nonneg _ (by omega)) (Int.emod_lt_of_pos _ n0)
        · walk_at "go"
          refine g_setL upd_same rfl ?_
          walk_at "go"
          refine g_I n0 ?_
          exact q _ _ (fin _).1 (fin _).2 (Int.emod_nonneg _ (by omega)) (Int.emod_lt_of_pos _ n0)
      · walk_at "go"
        refine g_ixL (SqL.of upd_same) rfl ?_
        walk_at "go"
        refine g_I (mulW_small m0 (by omega) (by decide) (by decide)) ?_
        walk_at "go"
        refine g_I (show (0 : Int) < 2147483647 by decide) ?_
        walk_at "go"
        refine g_setL upd_same rfl ?_
        walk_at "go"
        refine g_ixL (SqL.of upd_same) rfl ?_
        walk_at "go"
        refine g_I (divW_small (by decide) (by decide)) ?_
        walk_at "go"
        refine g_I n0 ?_
        exact q _ _ (Frm.set.trans .set) ⟨sc, ns, c + 1, _, r, upd_same, hsB, (fB.trans .set).trans .set, hl, by omega, Int.emod_nonneg _ (by decide), Int.emod_lt_of_pos _ (by decide)⟩ (Int.emod_nonneg _ (by omega)) (Int.emod_lt_of_pos _ n0)
theorem use_drawn {B H : Hp} {S : Addr} {n : Int} {Q : VK} {E : XK} (d : Dst K B H S) (h0 : 0 < n) (h1 : n < 10 ^ 38) (k : ∀ H' v, Frm S H H' → Dst K B H' S → 0 ≤ v → v < n → Q (.int v) H') : sp_drawn K ([.ref S, .int n] ++ []) H Q E := ⟨B, S, n, rfl, d, h0, h1, k⟩

abbrev s_law_far : Stmt := top 30
theorem sc_law_far : FnScope ["_law_state", "_law_most", "_law_far_here"] ["_law_state", "_law_most"] (C8.fnScope s_law_far) := C8.fnScope_by (by decide +kernel)
def sp_far (K : PySem.W.Frag) : Sp := fun vs H Q _ => ∃ (B : Hp) (S : Addr) (n : Int), vs = [.ref S, .int n] ∧ Dst K B H S ∧ ∀ H' v, Frm S H H' → Dst K B H' S → (v < 0 ∨ n < v) → Q (.int v) H'
theorem ok_far (T : Txt K mg CW) {f : Addr} {fd : FuncData} (D : C8.Def K mg "_law_far" s_law_far f fd) (b : Binds K fd ["_law_state", "_law_most"] []) (g_law_drawn : C8.Cal P w K mg base 1 "_law_drawn" (sp_drawn K) []) : C8.Cal P w K mg base 2 "_law_far" (sp_far K) [] := by
  refine C8.cal0 D b .nil sc_law_far (fun vs H Q E h => ?_) fun cdv A outer s H vs Q E hr h => ?_
  · obtain ⟨B, S, n, rfl, _⟩ := h; rfl
  · obtain ⟨B, S, n, rfl, d, q⟩ := h
    have nd := sc_law_far.nd
    refine ⟨_, (pss_cons (ps_set (i := 2) nd rfl (Or.inl rfl) (pe_ix (r := rIxL K) ix_list (pe_lst (pa_cons pe_int (pa_cons pe_int (pa_cons (pe_op op_pow pe_int pe_int) pa_nil)))) (C8.pe_c g_law_drawn hr (by first | decide | exact Nat.le_refl _ | omega) (by rfl) (pa_cons (pv 0) (pa_cons pe_int pa_nil))) (fun _ _ => rfl)))
      (pss_one (ps_ret (pe_ix (r := rIxL K) ix_list (pe_lst (pa_cons (pe_op op_sub (pe_op op_sub pe_int pe_int) (C8.pe_c g_law_drawn hr (by first | decide | exact Nat.le_refl _ | omega) (by rfl) (pa_cons (pv 0) (pa_cons (pv 2) pa_nil)))) (pa_cons (pe_op op_add (pe_op op_add (pv 1) pe_int) (C8.pe_c g_law_drawn hr (by first | decide | exact Nat.le_refl _ | omega) (by rfl) (pa_cons (pv 0) (pa_cons (pv 2) pa_nil)))) pa_nil))) (C8.pe_c g_law_drawn hr (by first | decide | exact Nat.le_refl _ | omega) (by rfl) (pa_cons (pv 0) (pa_cons pe_int pa_nil))) (fun _ _ => rfl))))), ?_⟩
    walk_at "go"
    refine g_I (pow_small (by decide) (by decide) (by decide)) ?_
    walk_at "go"
    intro l hl
    have d1 := d.same (same_new (o := .lst [.int 1, .int 20, .int (10 ^ (29 : Int).toNat)]) hl)
    walk_at "go"
    refine use_drawn d1 (by decide) (by decide) fun H2 v f2 d2 v0 v1 => ?_
    have h2 := f2 _ _ (d.ne hl) upd_same
    obtain ⟨x, hx, hx2⟩ := atI_mem (xs := [.int 1, .int 20, .int (10 ^ (29 : Int).toNat)]) v0 v1
    refine g_ixL (SqL.of h2) hx2 ?_
    obtain ⟨z, rfl, z0, z1⟩ : ∃ z, x = V.int z ∧ 0 < z ∧ z < 10 ^ 38 := by
      simp only [List.mem_cons, List.not_mem_nil, or_false] at hx
      rcases hx with rfl | rfl | rfl
      · exact ⟨_, rfl, by decide, by decide⟩
      · exact ⟨_, rfl, by decide, by decide⟩
      · exact ⟨_, rfl, by decide, by decide⟩
    walk_at "go"
    refine use_drawn d2 z0 z1 fun H3 v3 f3 d3 v30 v31 => ?_
    walk_at "go"
    refine use_drawn d3 z0 z1 fun H4 v4 f4 d4 v40 v41 => ?_
    walk_at "go"
    intro l2 hl2
    have d5 := d4.same (same_new (o := .lst [.int (0 - 1 - v3), .int (n + 1 + v4)]) hl2)
    walk_at "go"
    refine use_drawn (n := 2) d5 (by decide) (by decide) fun H6 v6 f6 d6 v60 v61 => ?_
    have h6 := f6 _ _ (d4.ne hl2) upd_same
    have fr : Frm S H H6 := (((((Frm.new hl).trans f2).trans f3).trans f4).trans (.new hl2)).trans f6
    obtain ⟨y, hy, hy2⟩ := atI_mem (xs := [.int (0 - 1 - v3), .int (n + 1 + v4)]) v60 v61
    refine g_ixL (SqL.of h6) hy2 ?_
    simp only [List.mem_cons, List.not_mem_nil, or_false] at hy
    rcases hy with rfl | rfl
    · exact q _ _ fr d6 (.inl (by omega))
    · exact q _ _ fr d6 (.inr (by omega))

abbrev s_law_window : Stmt := top 31
theorem sc_law_window : FnScope ["_law_state", "_law_most", "_law_high"] ["_law_state", "_law_most"] (C8.fnScope s_law_window) := C8.fnScope_by (by decide +kernel)
def sp_window (K : PySem.W.Frag) : Sp := fun vs H Q _ => ∃ (B : Hp) (S : Addr) (n : Int), vs = [.ref S, .int n] ∧ Dst K B H S ∧ 0 ≤ n ∧ n ≤ 1000 ∧
  ∀ H' W lo hi, Frm S H H' → Dst K B H' S → H' W = some (.tup [.int lo, .int hi]) → W ≠ S → 0 ≤ lo → lo ≤ hi → hi ≤ n → Q (.ref W) H'
theorem ok_window (T : Txt K mg CW) {f : Addr} {fd : FuncData} (D : C8.Def K mg "_law_window" s_law_window f fd) (b : Binds K fd ["_law_state", "_law_most"] []) (g_law_drawn : C8.Cal P w K mg base 1 "_law_drawn" (sp_drawn K) []) : C8.Cal P w K mg base 2 "_law_window" (sp_window K) [] := by
  refine C8.cal0 D b .nil sc_law_window (fun vs H Q E h => ?_) fun cdv A outer s H vs Q E hr h => ?_
  · obtain ⟨B, S, n, rfl, _⟩ := h; rfl
  · obtain ⟨B, S, n, rfl, d, n0, n1, q⟩ := h
    have nd := sc_law_window.nd
    refine ⟨_, (pss_cons (ps_set (i := 2) nd rfl (Or.inl rfl) (C8.pe_c g_law_drawn hr (by first | decide | exact Nat.le_refl _ | omega) (by rfl) (pa_cons (pv 0) (pa_cons (pe_op op_add (pv 1) pe_int) pa_nil))))
      (pss_one (ps_ret (pe_tup (pa_cons (pe_ix (r := rIxL K) ix_list (pe_lst (pa_cons pe_int (pa_cons (C8.pe_c g_law_drawn hr (by first | decide | exact Nat.le_refl _ | omega) (by rfl) (pa_cons (pv 0) (pa_cons (pe_op op_add (pv 2) pe_int) pa_nil))) (pa_cons (C8.pe_c g_law_drawn hr (by first | decide | exact Nat.le_refl _ | omega) (by rfl) (pa_cons (pv 0) (pa_cons (pe_op op_add (pe_op op_fdivW (pv 2) pe_int) pe_int) pa_nil))) pa_nil)))) (C8.pe_c g_law_drawn hr (by first | decide | exact Nat.le_refl _ | omega) (by rfl) (pa_cons (pv 0) (pa_cons pe_int pa_nil))) (fun _ _ => rfl)) (pa_cons (pv 2) pa_nil)))))), ?_⟩
    walk_at "go"
    refine use_drawn d (by omega) (by omega) fun H1 hi f1 d1 hi0 hi1 => ?_
    walk_at "go"
    refine use_drawn d1 (by omega) (by omega) fun H2 a f2 d2 a0 a1 => ?_
    walk_at "go"
    refine g_I (divW_small (by decide) (by decide)) ?_
    walk_at "go"
    refine use_drawn d2 (by omega) (by omega) fun H3 c f3 d3 c0 c1 => ?_
    walk_at "go"
    intro l hl
    have d4 := d3.same (same_new (o := .lst [.int 0, .int a, .int c]) hl)
    walk_at "go"
    refine use_drawn (n := 3) d4 (by decide) (by decide) fun H5 v f5 d5 v0 v1 => ?_
    have h5 := f5 _ _ (d3.ne hl) upd_same
    obtain ⟨x, hx, hx2⟩ := atI_mem (xs := [.int 0, .int a, .int c]) v0 v1
    refine g_ixL (SqL.of h5) hx2 ?_
    obtain ⟨lo, rfl, lo0, lo1⟩ : ∃ z, x = V.int z ∧ 0 ≤ z ∧ z ≤ hi := by
      simp only [List.mem_cons, List.not_mem_nil, or_false] at hx
      rcases hx with rfl | rfl | rfl
      · exact ⟨_, rfl, by omega, by omega⟩
      · exact ⟨_, rfl, by omega, by omega⟩
      · exact ⟨_, rfl, by omega, by omega⟩
    walk_at "go"
    intro t ht
    exact q _ t lo hi (((((f1.trans f2).trans f3).trans (.new hl)).trans f5).trans (.new ht)) (d5.same (same_new ht)) upd_same (d5.ne ht) lo0 lo1 (by omega)
end
end K11
namespace K11
open PySem PySem.Spec PyProof.Rows L2 Wd
/-! ### the keeper: the mirror -/
/-- the place of the first moment behind l -/
def ix : List Int → Int → Nat
  | [], _ => 0
  | x :: xs, l => if l < x then 0 else ix xs l + 1
theorem ix_le : ∀ (ms : List Int) (l : Int), ix ms l ≤ ms.length
  | [], _ => Nat.le_refl _
  | x :: xs, l => by
    unfold ix
    split
    · exact Nat.zero_le _
    · exact Nat.succ_le_succ (ix_le xs l)
theorem ix_at : ∀ {ms : List Int} {l x : Int}, ms[ix ms l]? = some x → l < x
  | [], _, _, h => by cases h
  | y :: ys, l, x, h => by
    unfold ix at h
    split at h
    · rename_i c; cases h; exact c
    · exact ix_at (ms := ys) h
theorem ix_lt : ∀ {ms : List Int} {l x : Int} {j : Nat}, ms[j]? = some x → j < ix ms l → x ≤ l
  | [], _, _, _, h, _ => by cases h
  | y :: ys, l, x, j, h, hj => by
    unfold ix at hj
    split at hj
    · omega
    · rename_i c
      match j, h with
      | 0, h => cases h; omega
      | j + 1, h => exact ix_lt (ms := ys) (j := j) h (by omega)
theorem ix_mono : ∀ (ms : List Int) {l l' : Int}, l ≤ l' → ix ms l ≤ ix ms l'
  | [], _, _, _ => Nat.le_refl _
  | x :: xs, l, l', h => by
    unfold ix
    split
    · exact Nat.zero_le _
    · rename_i c
      rw [if_neg (by omega)]
      exact Nat.succ_le_succ (ix_mono xs h)
theorem ix_stop {ms : List Int} {l x : Int} {j : Nat} (h : ms[j]? = some x) (hj : j ≤ ix ms l) (hx : l < x) : j = ix ms l := by
  by_cases e : j = ix ms l
  · exact e
  · have := ix_lt h (Nat.lt_of_le_of_ne hj e); omega
theorem ix_go {ms : List Int} {l x : Int} {j : Nat} (h : ms[j]? = some x) (hj : j ≤ ix ms l) (hx : x ≤ l) : j + 1 ≤ ix ms l := by
  by_cases e : j = ix ms l
  · subst e; have := ix_at h; omega
  · omega
/-- by when all tasks have reported behind l -/
def due (l : Int) : List (List Int) → Int → Option Int
  | [], d => some d
  | m :: ms, d => match m[ix m l]? with
    | none => none
    | some x => due l ms (if x > d then x else d)
theorem due_no {l : Int} {m : List Int} {ms : List (List Int)} {d : Int} (h : m[ix m l]? = none) : due l (m :: ms) d = none := by unfold due; rw [h]
theorem due_yes {l : Int} {m : List Int} {ms : List (List Int)} {d x : Int} (h : m[ix m l]? = some x) : due l (m :: ms) d = due l ms (if x > d then x else d) := by conv => lhs; unfold due; rw [h]
theorem due_ge {l : Int} : ∀ {ms : List (List Int)} {d r : Int}, due l ms d = some r → d ≤ r
  | [], d, r, h => by unfold due at h; cases h; exact Int.le_refl _
  | m :: ms, d, r, h => by
    cases e : m[ix m l]? with
    | none => rw [due_no e] at h; cases h
    | some x =>
      rw [due_yes e] at h
      have := due_ge h
      split at this <;> omega
/-- the pat behind the one at l -/
def nx (b : Int) (ms : List (List Int)) (l : Int) : Option Int := (due l ms (l + 1)).map fun d => (d + b - 1) / b * b
theorem up_beat {d b : Int} (h : 1 ≤ b) : d ≤ (d + b - 1) / b * b ∧ (d + b - 1) / b * b < d + b := by
  have h1 := Int.mul_ediv_add_emod (d + b - 1) b
  have h2 := Int.emod_nonneg (d + b - 1) (show b ≠ 0 by omega)
  have h3 := Int.emod_lt_of_pos (d + b - 1) (show 0 < b by omega)
  rw [Int.mul_comm] at h1
  omega
theorem nx_gt {b : Int} (h : 1 ≤ b) {ms : List (List Int)} {l q : Int} (e : nx b ms l = some q) : l < q := by
  unfold nx at e
  cases hd : due l ms (l + 1) with
  | none => rw [hd] at e; cases e
  | some d =>
    rw [hd] at e
    have e' : (d + b - 1) / b * b = q := Option.some.inj e
    have := due_ge hd
    have := (up_beat (d := d) h).1
    omega
/-- pats up to e, from that at l on -/
def up (f : Int → Option Int) (e : Int) : Nat → Int → List Int
  | 0, _ => []
  | n + 1, l => match f l with
    | none => []
    | some q => if q > e then [] else q :: up f e n q
theorem up_none {f : Int → Option Int} {e l : Int} {n : Nat} (h : f l = none) : up f e (n + 1) l = [] := by unfold up; rw [h]
theorem up_far {f : Int → Option Int} {e l q : Int} {n : Nat} (h : f l = some q) (c : q > e) : up f e (n + 1) l = [] := by unfold up; rw [h]; exact if_pos c
theorem up_pat {f : Int → Option Int} {e l q : Int} {n : Nat} (h : f l = some q) (c : ¬ q > e) : up f e (n + 1) l = q :: up f e n q := by
  conv => lhs; unfold up; rw [h]
  exact if_neg c
def kp (b : Int) (ms : List (List Int)) (e : Int) : List Int := up (nx b ms) e (e.toNat + 1) 0
/-- lists of numbers in a list -/
structure Rep (K : PySem.W.Frag) (H : Hp) (R : Addr) (as : List Addr) (ms : List (List Int)) : Prop where
  at_ : SqL K H R (as.map V.ref)
  len : as.length = ms.length
  own : ∀ (i : Nat) (a : Addr) (m : List Int), as[i]? = some a → ms[i]? = some m → SqL K H a (m.map V.int)
theorem Rep.same {K : PySem.W.Frag} {H H' : Hp} {R : Addr} {as : List Addr} {ms : List (List Int)} (r : Rep K H R as ms) (e : Same H H') : Rep K H' R as ms := ⟨list_same e r.at_, r.len, fun i a m h1 h2 => list_same e (r.own i a m h1 h2)⟩
theorem Rep.get {K : PySem.W.Frag} {H : Hp} {R : Addr} {as : List Addr} {ms : List (List Int)} (r : Rep K H R as ms) {i : Nat} {x : V} (h : (as.map V.ref)[i]? = some x) : ∃ a m, x = .ref a ∧ as[i]? = some a ∧ ms[i]? = some m ∧ SqL K H a (m.map V.int) := by
  rw [List.getElem?_map] at h
  cases ha : as[i]? with
  | none => rw [ha] at h; cases h
  | some a =>
    rw [ha] at h
    have hi : i < ms.length := by rw [← r.len]; exact (List.getElem?_eq_some_iff.mp ha).1
    have hm : ms[i]? = some ms[i] := List.getElem?_eq_getElem hi
    exact ⟨a, ms[i], (Option.some.inj h).symm, rfl, hm, r.own i a _ ha hm⟩
section
variable {P : Program} {w : World} {K : PySem.W.Frag} {mg : Str → Option Value} {base : Heap} {CW CT : Addr}
def okB (b : Int) : Prop := 1 ≤ b ∧ b ≤ 60
abbrev s_check_beat : Stmt := top 21
theorem sc_check_beat : FnScope ["beat"] ["beat"] (C8.fnScope s_check_beat) := C8.fnScope_by (by decide +kernel)
def sp_check_beat (CT : Addr) : Sp := fun vs H Q E => ∃ b : Int, vs = [.int b] ∧ (okB b → Q .non H) ∧ (¬ okB b → E (.ref CT) none H)
theorem ok_check_beat (T : TxtK K mg CW CT) {f : Addr} {fd : FuncData} (D : C8.Def K mg "check_beat" s_check_beat f fd) (b : Binds K fd ["beat"] []) (g_is_number : C8.Cal P w K mg base 1 "is_number" sp_is_number []) : CalX P w K mg base 2 "check_beat" (sp_check_beat CT) := by
  refine calX D b sc_check_beat (fun vs H Q E h => ?_) fun cdv A outer s H vs Q E hr h => ?_
  · obtain ⟨b, rfl, _⟩ := h; rfl
  · obtain ⟨b, rfl, q1, q2⟩ := h
    have nd := sc_check_beat.nd
    obtain ⟨tg, c_GREATEST_BEAT⟩ := T.c_GREATEST_BEAT
    refine ⟨_, (pss_one (ps_if (PW.pt (pw_or (pt_not (pt_val (C8.pe_c g_is_number hr (by first | decide | exact Nat.le_refl _ | omega) (by rfl) (pa_cons (pv 0) pa_nil)))) (pw_or1 (pt_not (pt_chain op_le op_le pe_int (pv 0) (pe_glob (v := .int 60) rfl c_GREATEST_BEAT ⟨_, rfl⟩)))))) (pss_one (ps_raise rfl (takes_of rfl rfl rfl rfl) (pmk_own PySem.F.excBase_ValueError T.x_BadBeat T.g_BadBeat T.k_BadBeat (raises_own T.b_BadBeat T.t_BadBeat) (by rfl)))) pss_nil)), ?_⟩
    walk_at "go"
    refine ⟨b, rfl, ?_⟩
    walk_at "go"
    refine g_ite (fun h1 => ?_) (fun h1 => ?_)
    · walk_at "go"
      refine g_iteN (fun h2 => ?_) (fun h2 => ?_)
      · exact q2 (fun z => h2 z.2)
      · walk_at "go"
        exact q1 ⟨h1, h2⟩
    · walk_at "go"
      exact q2 (fun z => h1 z.1)

abbrev s_first_behind : Stmt := top 22
theorem sc_first_behind : FnScope ["moments", "at", "last"] ["moments", "at", "last"] (C8.fnScope s_first_behind) := C8.fnScope_by (by decide +kernel)
def sp_first_behind (K : PySem.W.Frag) : Sp := fun vs H Q _ => ∃ (A : Addr) (a : Nat) (l : Int) (ms : List Int), vs = [.ref A, .int a, .int l] ∧ SqL K H A (ms.map V.int) ∧ a ≤ ix ms l ∧ Q (.int (ix ms l)) H
theorem ok_first_behind (T : TxtK K mg CW CT) {f : Addr} {fd : FuncData} (D : C8.Def K mg "first_behind" s_first_behind f fd) (b : Binds K fd ["moments", "at", "last"] []) : C8.Cal P w K mg base 1 "first_behind" (sp_first_behind K) [] := by
  refine C8.cal0 D b .nil sc_first_behind (fun vs H Q E h => ?_) fun cdv A outer s H vs Q E hr h => ?_
  · obtain ⟨A, a, l, ms, rfl, _⟩ := h; rfl
  · obtain ⟨S, a, l, ms, rfl, hS, ha, q⟩ := h
    have nd := sc_first_behind.nd
    refine ⟨_, (pss_cons (ps_while PassesOwn.never (PW.pt (pw_and (pt_cmpR op_lt (pv 1) (pe_callB (r := Wd.rLen K) call_len1 (by rfl) T.n_len PySem.boot_len (pa_cons (pv 0) pa_nil)) (nomark _)) (pw_and1 (pt_cmpR op_le (pe_ix (r := rIxL K) ix_list (pv 0) (pv 1) (fun _ _ => rfl)) (pv 2) (nomark _))))) (pss_one (ps_aug (i := 1) nd rfl (Or.inl rfl) pe_int ip_add)))
      (pss_one (ps_ret (pv 1)))), ?_⟩
    walk_at "go"
    have le := ix_le ms l
    refine w_loop (fun m σ H' => H' = H ∧ ∃ j : Nat, σ = [some (.ref S), some (.int j), some (.int l)] ∧ j ≤ ix ms l ∧ m = ms.length - j) (ms.length - a) ⟨rfl, a, rfl, ha, rfl⟩ ?_
    rintro m σ H' ⟨rfl, j, rfl, hj, rfl⟩
    walk_at "go"
    refine g_len (.inl hS) ?_
    walk_at "go"
    rw [List.length_map]
    refine g_ite (fun h1 => ?_) (fun h1 => ?_)
    · have hl : j < ms.length := by omega
      have hx : ms[j]? = some ms[j] := List.getElem?_eq_getElem hl
      generalize ms[j] = x at hx
      walk_at "go"
      refine g_ixL hS (at_of (j := j) (v := .int x) rfl (by rw [List.getElem?_map, hx]; rfl)) ?_
      walk_at "go"
      refine g_ite (fun h2 => ?_) (fun h2 => ?_)
      · refine ⟨fun σ' H9 => H9 = H' ∧ σ' = [some (.ref S), some (.int (j + 1 : Nat)), some (.int l)], ?_, ?_⟩
        · rintro σ' H9 ⟨rfl, rfl⟩
          exact ⟨ms.length - (j + 1), by omega, rfl, j + 1, rfl, ix_go hx hj h2, rfl⟩
        · walk_at "go"
          refine ⟨_, rfl, ?_⟩
          walk_at "go"
          exact ⟨_, _, rfl, rfl, rfl, rfl⟩
      · walk_at "go"
        rw [← ix_stop hx hj (by omega)] at q
        exact q
    · walk_at "go"
      have e : j = ix ms l := by omega
      rw [← e] at q
      exact q
end
end K11
namespace K11
open PySem PySem.Spec PyProof.Rows L2 Wd
section
variable {P : Program} {w : World} {K : PySem.W.Frag} {mg : Str → Option Value} {base : Heap} {CW CT : Addr}
/-- places in the lists, none beyond the first moment behind l -/
def Plc (l : Int) (ms : List (List Int)) (ps : List Nat) : Prop := ps.length = ms.length ∧ ∀ (i : Nat) (m : List Int) (p : Nat), ms[i]? = some m → ps[i]? = some p → p ≤ ix m l
abbrev nI (n : Nat) : V := .int n
abbrev s_keeper_pats : Stmt := top 23
theorem sc_keeper_pats : FnScope ["beat", "reports", "end", "pats", "last", "places", "moments", "at", "due"] ["beat", "reports", "end"] (C8.fnScope s_keeper_pats) := C8.fnScope_by (by decide +kernel)
def sp_keeper_pats (K : PySem.W.Frag) (CT : Addr) : Sp := fun vs H Q E => ∃ (bt e : Int) (R : Addr) (as : List Addr) (ms : List (List Int)), vs = [.int bt, .ref R, .int e] ∧ (¬ okB bt → E (.ref CT) none H) ∧
  (okB bt → Rep K H R as ms ∧ ms.length ≤ 1000 ∧ (∀ m ∈ ms, ∀ x ∈ m, x ≤ 1000000) ∧ 0 ≤ e ∧ e ≤ 90000 ∧ ∀ H' L, Same H H' → H L = none → H' L = some (.lst ((kp bt ms e).map V.int)) → Q (.ref L) H')
theorem due_le {l B : Int} : ∀ {ms : List (List Int)} {d r : Int}, due l ms d = some r → (∀ m ∈ ms, ∀ x ∈ m, x ≤ B) → d ≤ B → r ≤ B
  | [], d, r, h, _, hd => by unfold due at h; cases h; exact hd
  | m :: ms, d, r, h, hb, hd => by
    cases e : m[ix m l]? with
    | none => rw [due_no e] at h; cases h
    | some x =>
      rw [due_yes e] at h
      have hx := hb m List.mem_cons_self x (List.mem_of_getElem? e)
      refine due_le h (fun m' hm' => hb m' (List.mem_cons_of_mem _ hm')) ?_
      split <;> omega
theorem nI_at {ns : List Nat} {i : Nat} {x : V} (h : (ns.map nI)[i]? = some x) : ∃ n, ns[i]? = some n ∧ x = nI n := by
  rw [List.getElem?_map] at h
  cases hq : ns[i]? with
  | none => rw [hq] at h; cases h
  | some z => rw [hq] at h; exact ⟨z, rfl, (Option.some.inj h).symm⟩
theorem dropI_at {α : Type} : ∀ {l : List α} {i : Nat} {x : α}, l[i]? = some x → l.drop i = x :: l.drop (i + 1)
  | _ :: _, 0, _, e => by cases e; rfl
  | _ :: l, i + 1, _, e => dropI_at (l := l) (i := i) e
def KInv (H : Hp) (bt e : Int) (R L : Addr) (ms : List (List Int)) (n : Nat) (σ : L2.St) (H' : Hp) : Prop := ∃ (PA : Addr) (acc : List Int) (l : Int) (ps : List Nat) (v6 v7 v8 : Option V),
  σ = [some (.int bt), some (.ref R), some (.int e), some (.ref L), some (.int l), some (.ref PA), v6, v7, v8] ∧ Same H H' ∧ H' L = some (.lst (acc.map V.int)) ∧ H' PA = some (.lst (ps.map nI)) ∧ PA ≠ L ∧
      Plc l ms ps ∧ 0 ≤ l ∧ l ≤ e ∧ acc ++ up (nx bt ms) e n l = kp bt ms e ∧ (e - l).toNat < n ∧ (acc.length : Int) ≤ l
theorem ok_keeper_pats (T : TxtK K mg CW CT) {f : Addr} {fd : FuncData} (D : C8.Def K mg "keeper_pats" s_keeper_pats f fd) (b : Binds K fd ["beat", "reports", "end"] []) (g_check_beat : CalX P w K mg base 2 "check_beat" (sp_check_beat CT))
    (g_first_behind : C8.Cal P w K mg base 1 "first_behind" (sp_first_behind K) []) : CalX P w K mg base 3 "keeper_pats" (sp_keeper_pats K CT) := by
  refine calX D b sc_keeper_pats (fun vs H Q E h => ?_) fun cdv A outer s H vs Q E hr h => ?_
  · obtain ⟨bt, e, R, as, ms, rfl, _⟩ := h; rfl
  · obtain ⟨bt, e, R, as, ms, rfl, q1, q2⟩ := h
    have nd := sc_keeper_pats.nd
    refine ⟨_, (pss_cons (ps_expr (pe_cX g_check_beat hr (by first | decide | exact Nat.le_refl _ | omega) (by rfl) (fun σ => passAt (takes_of rfl rfl rfl rfl) σ) (pa_cons (pv 0) pa_nil)))
      (pss_cons (ps_set (i := 3) nd rfl (Or.inl rfl) (pe_lst pa_nil))
      (pss_cons (ps_set (i := 4) nd rfl (Or.inr rfl) pe_int)
      (pss_cons (ps_setLc (i := 5) (own := [("moments", 6)]) (g := gName 6) (tt := tYes) rfl nd rfl rfl (sw_true rfl rfl rfl (by decide +kernel)) (pi_list (pv 1)) (blkOk_by (N := ["beat", "reports", "end", "pats", "last", "places", "moments", "at", "due"]) (sc := C8.fnScope s_keeper_pats) (by decide +kernel)) (fun _ _ _ _ _ => pg_name (i := 6) nd rfl (Or.inl rfl)) (fun _ _ _ _ _ => pts_nil) (fun _ _ _ _ _ => pe_int))
      (pss_one (ps_while (passes_of rfl) (pt_val pe_bl) (pss_cons (ps_setLc (i := 5) (own := [("moments", 6), ("at", 7)]) (g := (gTup K 2 (gCons (gName 6) (gCons (gName 7) gNil)))) (tt := tYes) rfl nd rfl rfl (sw_true rfl rfl rfl (by decide +kernel)) (pi_zip (by rfl) T.n_zip (pa_cons (pv 1) (pa_cons (pv 5) pa_nil))) (blkOk_by (N := ["beat", "reports", "end", "pats", "last", "places", "moments", "at", "due"]) (sc := C8.fnScope s_keeper_pats) (by decide +kernel)) (fun _ _ _ _ _ => (pg_tup rfl (pgs_cons (pg_name (i := 6) nd rfl (Or.inl rfl)) (pgs_cons (pg_name (i := 7) nd rfl (Or.inl rfl)) pgs_nil)))) (fun _ _ _ _ _ => pts_nil) (fun _ _ _ _ _ => (C8.pe_c g_first_behind hr (by first | decide | exact Nat.le_refl _ | omega) (by rfl) (pa_cons (pv 6) (pa_cons (pv 7) (pa_cons (pv 4) pa_nil))))))
      (pss_cons (ps_set (i := 8) nd rfl (Or.inl rfl) (pe_op op_add (pv 4) pe_int))
      (pss_cons (ps_for (passes_of rfl) rfl (pi_zip (by rfl) T.n_zip (pa_cons (pv 1) (pa_cons (pv 5) pa_nil))) (pg_tup rfl (pgs_cons (pg_name (i := 6) nd rfl (Or.inl rfl)) (pgs_cons (pg_name (i := 7) nd rfl (Or.inl rfl)) pgs_nil))) (pss_cons (ps_if (pt_cmpR op_eq (pv 7) (pe_callB (r := Wd.rLen K) call_len1 (by rfl) T.n_len PySem.boot_len (pa_cons (pv 6) pa_nil)) (nomark _)) (pss_one (ps_ret (pv 3))) pss_nil)
      (pss_one (ps_set (i := 8) nd rfl (Or.inl rfl) (pe_callB (call_max1 rfl) (by rfl) T.n_max (by decide +kernel) (pa_cons (pv 8) (pa_cons (pe_ix (r := rIxL K) ix_list (pv 6) (pv 7) (fun _ _ => rfl)) pa_nil)))))))
      (pss_cons (ps_set (i := 4) nd rfl (Or.inr rfl) (pe_op op_mulW (pe_op op_fdivW (pe_op op_sub (pe_op op_add (pv 8) (pv 0)) pe_int) (pv 0)) (pv 0)))
      (pss_cons (ps_if (pt_cmpR op_gt (pv 4) (pv 2) (nomark _)) (pss_one (ps_ret (pv 3))) pss_nil)
      (pss_one (ps_expr (pe_bmK (K := K) rfl PySem.F.plainAttrs_list PySem.F.slot_list_append PySem.F.type_list_append mt_append (pv 3) (pa_cons (pv 4) pa_nil))))))))))))))), ?_⟩
    walk_at "go"
    refine ⟨bt, rfl, fun ok => ?_, fun bad => q1 bad⟩
    obtain ⟨rp, hlen, hb, e0, e1, q⟩ := q2 ok
    walk_at "go"
    intro L hL
    have s1 := same_new (o := .lst []) hL
    have eL := upd_same (H := H) (a := L) (o := .lst [])
    generalize upd H L (.lst []) = H1 at s1 eL
    walk_at "go"
    refine w_lcList (rp.same s1).at_ (fun D i H' => Same H1 H' ∧ H' D = some (.lst ((List.replicate i 0).map nI))) (fun D hD => ⟨same_new hD, upd_same⟩) (fun D i H' hD _ h => list_same h.1 (rp.same s1).at_) (fun D i y H' hD hy h => ?_) (fun PA H2 hPA h => ?_)
    · walk_at "go"
      refine ⟨rfl, ?_⟩
      walk_at "go"
      have li := (List.getElem?_eq_some_iff.mp hy).1
      rw [List.length_map, rp.len] at li
      exact ⟨_, h.2, by rw [sizeLine_eq, List.length_map, List.length_replicate]; omega, Wd.Same.mut h.1 hD, by rw [upd_same, List.replicate_succ', List.map_append]; rfl⟩
    obtain ⟨s2, eP⟩ := h
    rw [List.length_map, rp.len] at eP
    have hPL : PA ≠ L := fun z => by rw [z, eL] at hPA; cases hPA
    have s02 := s1.trans s2
    have eL2 := s2 _ _ eL
    clear s1 s2
    walk_at "go"
    refine w_loop (KInv H bt e R L ms) (e.toNat + 1) ?_ ?_
    · refine ⟨PA, [], 0, List.replicate ms.length 0, _, _, _, rfl, s02, eL2, eP, hPL, ⟨List.length_replicate, fun i m p _ hp => ?_⟩, by omega, by omega, rfl, by omega, by simp⟩
      have := List.mem_of_getElem? hp
      rw [List.mem_replicate] at this
      omega
    clear eP hPL s02 eL2 eL
    rintro n σ H3 ⟨PA, acc, l, ps, v6, v7, v8, rfl, s3, eL3, eP3, hPL, plc, l0, le, er, fu, al⟩
    match n, fu, er with
    | 0, fu, _ => omega
    | n + 1, fu, er =>
    walk_at "go"
    refine ⟨KInv H bt e R L ms n, fun σ' H' h => ⟨n, Nat.lt_succ_self n, h⟩, ?_⟩
    walk_at "go"
    refine g_zip ?_
    walk_at "go"
    have r3 := rp.same s3
    have lps : (as.map V.ref).length = (ps.map nI).length := by rw [List.length_map, List.length_map, rp.len, plc.1]
    refine w_lcZip lps r3.at_ (SqL.of eP3) (fun D i H' => Same H3 H' ∧ ∃ cs : List Nat, H' D = some (.lst (cs.map nI)) ∧ cs.length = i ∧ ∀ (j : Nat) (m : List Int), j < i → ms[j]? = some m → cs[j]? = some (ix m l)) (fun D hD => ⟨same_new hD, [], upd_same, rfl, fun j m hj => by omega⟩) (fun D i H' hD h => ⟨list_same h.1 r3.at_, list_same h.1 (SqL.of eP3)⟩) (fun D i x y T H' hD hx hy h hT => ?_) (fun PB H4 hPB h => ?_)
    · obtain ⟨a, m, rfl, ha, hm, hA⟩ := r3.get hx
      obtain ⟨p, hp, rfl⟩ := nI_at hy
      obtain ⟨sm, cs, hcs, lc, hc⟩ := h
      have sT := same_new (o := .tup [.ref a, nI p]) hT
      have im := (List.getElem?_eq_some_iff.mp hm).1
      walk_at "go"
      refine g_gtup (SqT.of upd_same) rfl ?_
      walk_at "go"
      refine ⟨rfl, ?_⟩
      walk_at "go"
      refine ⟨a, p, l, m, rfl, list_same (sm.trans sT) hA, plc.2 i m p hm hp, ?_⟩
      refine ⟨cs.map nI, sT _ _ hcs, by rw [sizeLine_eq, List.length_map]; omega, Wd.Same.mut (sm.trans sT) hD, cs ++ [ix m l], by rw [upd_same, List.map_append]; rfl, by rw [List.length_append, lc]; rfl, fun j m' hj hm' => ?_⟩
      by_cases c : j < i
      · rw [List.getElem?_append_left (by omega)]; exact hc j m' c hm'
      · have : j = i := by omega
        subst this
        cases hm.symm.trans hm'
        rw [List.getElem?_append_right (by omega), lc, Nat.sub_self]; rfl
    obtain ⟨s4, cs, hcs, lc, hc⟩ := h
    rw [List.length_map, rp.len] at lc hc
    have hPBL : PB ≠ L := fun z => by rw [z, eL3] at hPB; cases hPB
    have s04 := s3.trans s4
    have r4 := rp.same s04
    have eL4 := s4 _ _ eL3
    have at_c : ∀ (i : Nat) (m : List Int), ms[i]? = some m → cs[i]? = some (ix m l) := fun i m hm => hc i m (List.getElem?_eq_some_iff.mp hm).1 hm
    walk_at "go"
    refine g_zip ?_
    walk_at "go"
    have lcs : (as.map V.ref).length = (cs.map nI).length := by rw [List.length_map, List.length_map, rp.len, lc]
    refine w_zip lcs (fun i σ H' => ∃ (d : Int) (v6 v7 : Option V), σ = [some (.int bt), some (.ref R), some (.int e), some (.ref L), some (.int l), some (.ref PB), v6, v7, some (.int d)] ∧ Same H4 H' ∧ due l ms (l + 1) = due l (ms.drop i) d ∧ l + 1 ≤ d ∧ d ≤ 1000000) ?_ ?_ ?_ ?_
    · exact ⟨l + 1, _, _, rfl, fun _ _ h => h, rfl, by omega, by omega⟩
    · rintro i σ H' ⟨d, v6, v7, _, sm, _⟩
      exact ⟨list_same sm r4.at_, list_same sm (SqL.of hcs)⟩
    · rintro i x y T σ H' hx hy ⟨d, v6, v7, rfl, sm, ed, d0, d1⟩ hT
      obtain ⟨a, m, rfl, ha, hm, hA⟩ := r4.get hx
      obtain ⟨p, hp, rfl⟩ := nI_at hy
      cases (at_c i m hm).symm.trans hp
      have sT := sm.trans (same_new (o := .tup [.ref a, nI (ix m l)]) hT)
      rw [dropI_at hm] at ed
      have hA' := list_same sT hA
      walk_at "go"
      refine g_gtup (SqT.of upd_same) rfl ?_
      walk_at "go"
      refine g_len (.inl hA') ?_
      walk_at "go"
      rw [List.length_map]
      refine g_ite (fun h1 => ?_) (fun h1 => ?_)
      · have no : m[ix m l]? = none := List.getElem?_eq_none (by omega)
        rw [due_no no] at ed
        have en : nx bt ms l = none := by unfold nx; rw [ed]; rfl
        rw [up_none en, List.append_nil] at er
        walk_at "go"
        exact q _ L (s04.trans sT) hL (by rw [← er]; exact sT _ _ eL4)
      · have hl := ix_le m l
        have hix : ix m l < m.length := by omega
        have hz : m[ix m l]? = some m[ix m l] := List.getElem?_eq_getElem hix
        have hzb := hb m (List.mem_of_getElem? hm) _ (List.mem_of_getElem? hz)
        generalize m[ix m l] = z at hz hzb
        rw [due_yes hz] at ed
        walk_at "go"
        refine g_ixL hA' (at_of (j := ix m l) (v := .int z) rfl (by rw [List.getElem?_map, hz]; rfl)) ?_
        walk_at "go"
        exact ⟨_, _, _, rfl, sT, ed, by split <;> omega, by split <;> omega⟩
    · rintro σ H5 ⟨d, v6, v7, rfl, sm, ed, d0, d1⟩
      rw [List.length_map, rp.len, List.drop_length] at ed
      have en : nx bt ms l = some ((d + bt - 1) / bt * bt) := by unfold nx; rw [ed]; rfl
      have ub := up_beat (d := d) ok.1
      have b1 := ok.1
      have b2 := ok.2
      have dv : (d + bt - 1) / bt ≤ d + bt - 1 := Int.ediv_le_self _ (by omega)
      have dv0 : 0 ≤ (d + bt - 1) / bt := Int.ediv_nonneg (by omega) (by omega)
      have s05 := s04.trans sm
      have eL5 := sm _ _ eL4
      walk_at "go"
      refine g_I (divW_small (by omega) (by omega)) ?_
      walk_at "go"
      refine g_I (mulW_small dv0 (by omega) (by omega) (by omega)) ?_
      generalize (d + bt - 1) / bt * bt = z at en ub ⊢
      walk_at "go"
      refine g_ite (fun h1 => ?_) (fun h1 => ?_)
      · rw [up_far en h1, List.append_nil] at er
        walk_at "go"
        exact q _ L s05 hL (by rw [← er]; exact eL5)
      · rw [up_pat en h1] at er
        walk_at "go"
        refine g_tyL eL5 ?_
        walk_at "go"
        refine g_append eL5 (by rw [List.length_map]; omega) ?_
        walk_at "go"
        refine ⟨PB, acc ++ [z], z, cs, _, _, _, rfl, Wd.Same.mut s05 hL, by rw [upd_same, List.map_append]; rfl, by rw [upd_ne hPBL]; exact sm _ _ hcs, hPBL, ⟨lc, fun i m p hm hp => ?_⟩, by omega, by omega, by rw [List.append_assoc]; exact er, by omega, by rw [List.length_append, List.length_singleton]; omega⟩
        cases (at_c i m hm).symm.trans hp
        exact ix_mono m (by omega)
end
end K11
namespace K11
open PySem PySem.Spec PyProof.Rows L2 Wd
section
variable {P : Program} {w : World} {K : PySem.W.Frag} {mg : Str → Option Value} {base : Heap} {CW CT : Addr}
abbrev s_found_at : Stmt := top 24
theorem sc_found_at : FnScope ["window", "beat", "reports", "end"] ["window", "beat", "reports", "end"] (C8.fnScope s_found_at) := C8.fnScope_by (by decide +kernel)
def sp_found_at (K : PySem.W.Frag) (CW CT : Addr) : Sp := fun vs H Q E => ∃ (W R : Addr) (lo hi bt e : Int) (as : List Addr) (ms : List (List Int)), vs = [.ref W, .int bt, .ref R, .int e] ∧ SqT K H W [.int lo, .int hi] ∧ (¬ okW lo hi → E (.ref CW) none H) ∧ (okW lo hi → ¬ okB bt → E (.ref CT) none H) ∧
  (okW lo hi → okB bt → Rep K H R as ms ∧ ms.length ≤ 1000 ∧ (∀ m ∈ ms, ∀ x ∈ m, x ≤ 1000000) ∧ 0 ≤ e ∧ e ≤ 90000 ∧ (∀ H', Same H H' → bite lo hi e (kp bt ms e) = none → Q .non H') ∧ ∀ m wd H' q, bite lo hi e (kp bt ms e) = some (m, wd) → Same H H' → H' q = some (.tup [.int m, .str wd]) → Q (.ref q) H')
theorem ok_found_at (T : TxtK K mg CW CT) {f : Addr} {fd : FuncData} (D : C8.Def K mg "found_at" s_found_at f fd) (b : Binds K fd ["window", "beat", "reports", "end"] []) (g_check_window : CalX P w K mg base 3 "check_window" (sp_check_window K CW))
    (g_keeper_pats : CalX P w K mg base 3 "keeper_pats" (sp_keeper_pats K CT)) (g_bitten_at : CalX P w K mg base 4 "bitten_at" (sp_bitten_at K CW)) : CalX P w K mg base 5 "found_at" (sp_found_at K CW CT) := by
  refine calX D b sc_found_at (fun vs H Q E h => ?_) fun cdv A outer s H vs Q E hr h => ?_
  · obtain ⟨W, R, lo, hi, bt, e, as, ms, rfl, _⟩ := h; rfl
  · obtain ⟨W, R, lo, hi, bt, e, as, ms, rfl, hW, q1, q2, q3⟩ := h
    have nd := sc_found_at.nd
    refine ⟨_, (pss_cons (ps_expr (pe_cX g_check_window hr (by first | decide | exact Nat.le_refl _ | omega) (by rfl) (fun σ => passAt (takes_of rfl rfl rfl rfl) σ) (pa_cons (pv 0) pa_nil)))
      (pss_one (ps_ret (pe_cX g_bitten_at hr (by first | decide | exact Nat.le_refl _ | omega) (by rfl) (fun σ => passAt (takes_of rfl rfl rfl rfl) σ) (pa_cons (pv 0) (pa_cons (pe_cX g_keeper_pats hr (by first | decide | exact Nat.le_refl _ | omega) (by rfl) (fun σ => passAt (takes_of rfl rfl rfl rfl) σ) (pa_cons (pv 1) (pa_cons (pv 2) (pa_cons (pv 3) pa_nil)))) (pa_cons (pv 3) pa_nil))))))), ?_⟩
    walk_at "go"
    refine ⟨W, lo, hi, rfl, hW, fun okw => ?_, fun bad => q1 bad⟩
    walk_at "go"
    refine ⟨bt, e, R, as, ms, rfl, fun bad => q2 okw bad, fun ok => ?_⟩
    obtain ⟨rp, hlen, hb, e0, e1, k1, k2⟩ := q3 okw ok
    refine ⟨rp, hlen, hb, e0, e1, fun H1 L s1 hL eL => ?_⟩
    walk_at "go"
    exact ⟨W, L, lo, hi, e, kp bt ms e, rfl, tup_same s1 hW, fun bad => (bad okw).elim, fun _ => ⟨SqL.of eL, fun H2 s2 hn => k1 H2 (s1.trans s2) hn, fun m wd H2 t hs s2 ht => k2 m wd H2 t hs (s1.trans s2) ht⟩⟩
end
end K11
namespace K11
open PySem PySem.Spec PyProof.Rows L2 Wd
/-- tasks in a list -/
structure TskL (S : Addr) (H : Hp) (L : Addr) (as : List Addr) : Prop where
  at_ : H L = some (.lst (as.map V.ref))
  nS : L ≠ S
  own : ∀ a ∈ as, a ≠ S ∧ ∃ lo hi : Int, H a = some (.tup [.int lo, .int hi]) ∧ 1 ≤ lo ∧ lo ≤ hi ∧ hi ≤ 1000
theorem TskL.frm {S : Addr} {H H' : Hp} {L : Addr} {as : List Addr} (t : TskL S H L as) (f : Frm S H H') : TskL S H' L as :=
  ⟨f _ _ t.nS t.at_, t.nS, fun a ha => by
    obtain ⟨n, lo, hi, h, r⟩ := t.own a ha
    exact ⟨n, lo, hi, f _ _ n h, r⟩⟩
/-- reports in a list: each list's address and its moments -/
structure RepL (S : Addr) (H : Hp) (R : Addr) (zs : List (Addr × List Int)) : Prop where
  at_ : H R = some (.lst (zs.map fun z => V.ref z.1))
  nS : R ≠ S
  own : ∀ z ∈ zs, H z.1 = some (.lst (z.2.map V.int)) ∧ z.1 ≠ S ∧ z.1 ≠ R
theorem RepL.frm {S : Addr} {H H' : Hp} {R : Addr} {zs : List (Addr × List Int)} (t : RepL S H R zs) (f : Frm S H H') : RepL S H' R zs :=
  ⟨f _ _ t.nS t.at_, t.nS, fun z hz => by
    obtain ⟨h, n, r⟩ := t.own z hz
    exact ⟨f _ _ n h, n, r⟩⟩
theorem RepL.rep {K : PySem.W.Frag} {S : Addr} {H : Hp} {R : Addr} {zs : List (Addr × List Int)} (t : RepL S H R zs) : Rep K H R (zs.map (·.1)) (zs.map (·.2)) := by
  refine ⟨SqL.of (by rw [List.map_map]; exact t.at_), by rw [List.length_map, List.length_map], fun i a m h1 h2 => ?_⟩
  rw [List.getElem?_map] at h1 h2
  cases hz : zs[i]? with
  | none => rw [hz] at h1; cases h1
  | some z =>
    rw [hz] at h1 h2
    cases h1
    cases h2
    exact SqL.of (t.own z (List.mem_of_getElem? hz)).1
/-- one more list of moments -/
theorem RepL.put {S : Addr} {H : Hp} {R M : Addr} {zs : List (Addr × List Int)} {m : List Int} (t : RepL S H R zs) (h : H M = some (.lst (m.map V.int))) (n : M ≠ S) (n2 : M ≠ R) : RepL S (upd H R (.lst ((zs.map fun z => V.ref z.1) ++ [.ref M]))) R (zs ++ [(M, m)]) := by
  refine ⟨by rw [upd_same, List.map_append]; rfl, t.nS, fun z hz => ?_⟩
  rw [List.mem_append, List.mem_singleton] at hz
  rcases hz with hz | rfl
  · obtain ⟨h1, h2, h3⟩ := t.own z hz
    exact ⟨by rw [upd_ne h3]; exact h1, h2, h3⟩
  · exact ⟨by rw [upd_ne n2]; exact h, n, n2⟩
/-- moments that rise, from 1 to B -/
def Ris (B : Int) (m : List Int) : Prop := m.Pairwise (· < ·) ∧ ∀ x ∈ m, 0 < x ∧ x ≤ B
def Good (B : Int) (zs : List (Addr × List Int)) : Prop := ∀ z ∈ zs, Ris B z.2
theorem Ris.snoc {B x : Int} {m : List Int} (r : Ris B m) (h : ∀ y ∈ m, y < x) (h0 : 0 < x) (h1 : x ≤ B) : Ris B (m ++ [x]) := by
  refine ⟨List.pairwise_append.mpr ⟨r.1, List.pairwise_singleton _ _, fun a ha b hb => ?_⟩, fun y hy => ?_⟩
  · rw [List.mem_singleton] at hb; subst hb; exact h a ha
  · rw [List.mem_append, List.mem_singleton] at hy
    rcases hy with hy | rfl
    · exact r.2 y hy
    · exact ⟨h0, h1⟩
section
variable {P : Program} {w : World} {K : PySem.W.Frag} {mg : Str → Option Value} {base : Heap} {CW CT : Addr}
abbrev s_law_tasks : Stmt := top 34
theorem sc_law_tasks : FnScope ["_law_state", "_law_most", "_law_gap", "_law_found", "_law_k", "_law_least"] ["_law_state", "_law_most", "_law_gap"] (C8.fnScope s_law_tasks) := C8.fnScope_by (by decide +kernel)
def sp_tasks (K : PySem.W.Frag) : Sp := fun vs H Q _ => ∃ (B : Hp) (S : Addr) (mo gap : Int), vs = [.ref S, .int mo, .int gap] ∧ Dst K B H S ∧ 1 ≤ mo ∧ mo ≤ 100 ∧ 1 ≤ gap ∧ gap ≤ 1000 ∧
  ∀ H' L as, Frm S H H' → Dst K B H' S → TskL S H' L as → (as.length : Int) ≤ mo → 0 < as.length → Q (.ref L) H'
theorem ok_tasks (T : TxtK K mg CW CT) {f : Addr} {fd : FuncData} (D : C8.Def K mg "_law_tasks" s_law_tasks f fd) (b : Binds K fd ["_law_state", "_law_most", "_law_gap"] []) (g_law_drawn : C8.Cal P w K mg base 1 "_law_drawn" (sp_drawn K) []) : C8.Cal P w K mg base 2 "_law_tasks" (sp_tasks K) [] := by
  refine C8.cal0 D b .nil sc_law_tasks (fun vs H Q E h => ?_) fun cdv A outer s H vs Q E hr h => ?_
  · obtain ⟨B, S, mo, gap, rfl, _⟩ := h; rfl
  · obtain ⟨B, S, mo, gap, rfl, d, m0, m1, g0, g1, q⟩ := h
    have nd := sc_law_tasks.nd
    refine ⟨_, (pss_cons (ps_set (i := 3) nd rfl (Or.inl rfl) (pe_lst pa_nil))
      (pss_cons (ps_for PassesOwn.never rfl (pi_range1 rfl T.n_range (pa_cons (pe_op op_add pe_int (C8.pe_c g_law_drawn hr (by first | decide | exact Nat.le_refl _ | omega) (by rfl) (pa_cons (pv 0) (pa_cons (pv 1) pa_nil)))) pa_nil)) (pg_name (i := 4) nd rfl (Or.inl rfl)) (pss_cons (ps_set (i := 5) nd rfl (Or.inl rfl) (pe_op op_add pe_int (C8.pe_c g_law_drawn hr (by first | decide | exact Nat.le_refl _ | omega) (by rfl) (pa_cons (pv 0) (pa_cons (pv 2) pa_nil)))))
      (pss_one (ps_expr (pe_bmK (K := K) rfl PySem.F.plainAttrs_list PySem.F.slot_list_append PySem.F.type_list_append mt_append (pv 3) (pa_cons (pe_tup (pa_cons (pv 5) (pa_cons (pe_op op_add (pv 5) (C8.pe_c g_law_drawn hr (by first | decide | exact Nat.le_refl _ | omega) (by rfl) (pa_cons (pv 0) (pa_cons (pe_op op_add (pe_op op_sub (pv 2) (pv 5)) pe_int) pa_nil)))) pa_nil))) pa_nil))))))
      (pss_one (ps_ret (pv 3))))), ?_⟩
    walk_at "go"
    intro L hL
    have d1 := d.same (same_new (o := .lst []) hL)
    have nL := d.ne hL
    have bL := d.fresh hL
    walk_at "go"
    refine use_drawn d1 (by omega) (by omega) fun H2 v f2 d2 v0 v1 => ?_
    walk_at "go"
    have eL : H2 L = some (.lst []) := f2 _ _ nL upd_same
    refine w_range (by omega) (by omega) (fun i σ H' => ∃ (v4 v5 : Option V) (as : List Addr), σ = [some (.ref S), some (.int mo), some (.int gap), some (.ref L), v4, v5] ∧ Frm S H H' ∧ Dst K B H' S ∧ TskL S H' L as ∧ as.length = i) ?_ ?_ ?_
    · exact ⟨_, _, [], rfl, (Frm.new hL).trans f2, d2, ⟨eL, nL, fun a ha => nomatch ha⟩, rfl⟩
    · rintro i σ H3 hi ⟨v4, v5, as, rfl, f3, d3, tk, la⟩
      walk_at "go"
      refine use_drawn d3 (by omega) (by omega) fun H4 x f4 d4 x0 x1 => ?_
      have tk4 := tk.frm f4
      walk_at "go"
      refine g_tyL tk4.at_ ?_
      walk_at "go"
      refine use_drawn d4 (by omega) (by omega) fun H5 y f5 d5 y0 y1 => ?_
      walk_at "go"
      intro t ht
      have st := same_new (o := .tup [.int (1 + x), .int (1 + x + y)]) ht
      have tk6 := (tk4.frm f5).frm (.of st)
      have nt := d5.ne ht
      walk_at "go"
      refine g_append tk6.at_ (by rw [List.length_map]; omega) ?_
      walk_at "go"
      have ntL : t ≠ L := (ne_of_none (tk4.frm f5).at_ ht).symm
      refine ⟨_, _, as ++ [t], rfl, Frm.mut (((f3.trans f4).trans f5).trans (.of st)) hL, (d5.same st).mut nL bL, ⟨by rw [upd_same, List.map_append]; rfl, nL, fun a ha => ?_⟩, by rw [List.length_append, la]; rfl⟩
      rw [List.mem_append, List.mem_singleton] at ha
      rcases ha with ha | rfl
      · obtain ⟨n, lo, hi, h, r⟩ := tk6.own a ha
        exact ⟨n, lo, hi, by rw [upd_ne (ne_of h tk6.at_ (fun z => nomatch z))]; exact h, r⟩
      · exact ⟨nt, _, _, by rw [upd_ne ntL]; exact upd_same, by omega, by omega, by omega⟩
    · rintro σ H3 ⟨v4, v5, as, rfl, f3, d3, tk, la⟩
      walk_at "go"
      exact q _ L as f3 d3 tk (by omega) (by omega)

abbrev s_law_reports : Stmt := top 35
theorem sc_law_reports : FnScope ["_law_state", "_law_tasks_here", "_law_end", "_law_found", "_law_least", "_law_most", "_law_moments", "_law_now"] ["_law_state", "_law_tasks_here", "_law_end"] (C8.fnScope s_law_reports) := C8.fnScope_by (by decide +kernel)
def sp_reports (K : PySem.W.Frag) : Sp := fun vs H Q _ => ∃ (B : Hp) (S L : Addr) (e : Int) (as : List Addr), vs = [.ref S, .ref L, .int e] ∧ Dst K B H S ∧ TskL S H L as ∧ as.length ≤ 100 ∧ 0 ≤ e ∧ e ≤ 10000 ∧
  ∀ H' R zs, Frm S H H' → Dst K B H' S → H R = none → RepL S H' R zs → Good e zs → zs.length = as.length → Q (.ref R) H'
def MInv (K : PySem.W.Frag) (B H1 : Hp) (S L F M : Addr) (e lo hi : Int) (v2 : Option V) (n : Nat) (σ : L2.St) (H' : Hp) : Prop := ∃ (acc : List Int) (now : Int), σ = [some (.ref S), some (.ref L), v2, some (.ref F), some (.int lo), some (.int hi), some (.ref M), some (.int now)] ∧ Frm S H1 H' ∧ Dst K B H' S ∧ H' M = some (.lst (acc.map V.int)) ∧
  Ris e acc ∧ (∀ x ∈ acc, x < now) ∧ 0 < now ∧ (e + 1 - now).toNat ≤ n ∧ (acc.length : Int) < now
theorem ok_reports (T : TxtK K mg CW CT) {f : Addr} {fd : FuncData} (D : C8.Def K mg "_law_reports" s_law_reports f fd) (b : Binds K fd ["_law_state", "_law_tasks_here", "_law_end"] []) (g_law_drawn : C8.Cal P w K mg base 1 "_law_drawn" (sp_drawn K) []) : C8.Cal P w K mg base 2 "_law_reports" (sp_reports K) [] := by
  refine C8.cal0 D b .nil sc_law_reports (fun vs H Q E h => ?_) fun cdv A outer s H vs Q E hr h => ?_
  · obtain ⟨B, S, L, e, as, rfl, _⟩ := h; rfl
  · obtain ⟨B, S, L, e, as, rfl, d, tk, la, e0, e1, q⟩ := h
    have nd := sc_law_reports.nd
    refine ⟨_, (pss_cons (ps_set (i := 3) nd rfl (Or.inl rfl) (pe_lst pa_nil))
      (pss_cons (ps_for PassesOwn.never rfl (pi_list (pv 1)) (pg_tup rfl (pgs_cons (pg_name (i := 4) nd rfl (Or.inl rfl)) (pgs_cons (pg_name (i := 5) nd rfl (Or.inl rfl)) pgs_nil))) (pss_cons (ps_set (i := 6) nd rfl (Or.inl rfl) (pe_lst pa_nil))
      (pss_cons (ps_set (i := 7) nd rfl (Or.inl rfl) (pe_op op_add (pv 4) (C8.pe_c g_law_drawn hr (by first | decide | exact Nat.le_refl _ | omega) (by rfl) (pa_cons (pv 0) (pa_cons (pe_op op_add (pe_op op_sub (pv 5) (pv 4)) pe_int) pa_nil)))))
      (pss_cons (ps_while PassesOwn.never (pt_cmpR op_le (pv 7) (pv 2) (nomark _)) (pss_cons (ps_expr (pe_bmK (K := K) rfl PySem.F.plainAttrs_list PySem.F.slot_list_append PySem.F.type_list_append mt_append (pv 6) (pa_cons (pv 7) pa_nil)))
      (pss_one (ps_set (i := 7) nd rfl (Or.inl rfl) (pe_op op_add (pe_op op_add (pv 7) (pv 4)) (C8.pe_c g_law_drawn hr (by first | decide | exact Nat.le_refl _ | omega) (by rfl) (pa_cons (pv 0) (pa_cons (pe_op op_add (pe_op op_sub (pv 5) (pv 4)) pe_int) pa_nil))))))))
      (pss_one (ps_expr (pe_bmK (K := K) rfl PySem.F.plainAttrs_list PySem.F.slot_list_append PySem.F.type_list_append mt_append (pv 3) (pa_cons (pv 6) pa_nil))))))))
      (pss_one (ps_ret (pv 3))))), ?_⟩
    walk_at "go"
    intro F hF
    have d1 := d.same (same_new (o := .lst []) hF)
    have nF := d.ne hF
    have bF := d.fresh hF
    have f1 : Frm S H _ := .new (o := .lst []) hF
    have eF := upd_same (H := H) (a := F) (o := .lst [])
    generalize upd H F (.lst []) = H1 at d1 f1 eF
    walk_at "go"
    refine w_list (xs := as.map V.ref) (fun i σ H' => ∃ (v4 v5 v6 v7 : Option V) (zs : List (Addr × List Int)), σ = [some (.ref S), some (.ref L), some (.int e), some (.ref F), v4, v5, v6, v7] ∧ Frm S H H' ∧ Dst K B H' S ∧ RepL S H' F zs ∧ Good e zs ∧ zs.length = i) ?_ ?_ ?_ ?_
    · exact ⟨_, _, _, _, [], rfl, f1, d1, ⟨eF, nF, fun a ha => nomatch ha⟩, (fun z hz => nomatch hz), rfl⟩
    · rintro i σ H' _ ⟨v4, v5, v6, v7, zs, rfl, f2, d2, _⟩
      exact SqL.of (tk.frm f2).at_
    · rintro i x σ H2 hx ⟨v4, v5, v6, v7, zs, rfl, f2, d2, rp, gd, lz⟩
      obtain ⟨a, ha, rfl⟩ : ∃ a, as[i]? = some a ∧ x = V.ref a := by
        rw [List.getElem?_map] at hx
        cases hq : as[i]? with
        | none => rw [hq] at hx; cases hx
        | some z => rw [hq] at hx; exact ⟨z, rfl, (Option.some.inj hx).symm⟩
      have il := (List.getElem?_eq_some_iff.mp ha).1
      obtain ⟨na, lo, hi, hT, l1, l2, l3⟩ := (tk.frm f2).own a (List.mem_of_getElem? ha)
      walk_at "go"
      refine g_gtup (SqT.of hT) rfl ?_
      walk_at "go"
      intro M hM
      have d3 := d2.same (same_new (o := .lst []) hM)
      have nM := d2.ne hM
      have bM := d2.fresh hM
      walk_at "go"
      refine use_drawn d3 (by omega) (by omega) fun H4 y f4 d4 y0 y1 => ?_
      walk_at "go"
      have eM : H4 M = some (.lst []) := f4 _ _ nM upd_same
      refine w_loop (MInv K B H2 S L F M e lo hi (some (.int e))) (e + 1 - (lo + y)).toNat ⟨[], lo + y, rfl, (Frm.new hM).trans f4, d4, eM, ⟨List.Pairwise.nil, fun x hx => nomatch hx⟩, (fun x hx => nomatch hx), by omega, Nat.le_refl _, by simp only [List.length_nil]; omega⟩ ?_
      rintro n σ H5 ⟨acc, now, rfl, f5, d5, eM5, ri, lt, n0, nn, al⟩
      walk_at "go"
      refine g_ite (fun hle => ?_) (fun hgt => ?_)
      · refine ⟨MInv K B H2 S L F M e lo hi (some (.int e)) (n - 1), fun σ' H' h => ⟨n - 1, by omega, h⟩, ?_⟩
        walk_at "go"
        refine g_tyL eM5 ?_
        walk_at "go"
        refine g_append eM5 (by rw [List.length_map]; omega) ?_
        walk_at "go"
        have d6 := d5.mut (o := .lst (acc.map V.int ++ [.int now])) nM bM
        refine use_drawn d6 (by omega) (by omega) fun H7 c f7 d7 c0 c1 => ?_
        walk_at "go"
        refine ⟨acc ++ [now], now + lo + c, rfl, (Frm.mut f5 hM).trans f7, d7, by rw [List.map_append]; exact f7 _ _ nM upd_same, ri.snoc lt n0 hle, fun x hx => ?_, by omega, by omega, by rw [List.length_append, List.length_singleton]; omega⟩
        rw [List.mem_append, List.mem_singleton] at hx
        rcases hx with hx | rfl
        · have := lt x hx; omega
        · omega
      · walk_at "go"
        have rp5 := rp.frm f5
        have nMF : M ≠ F := (ne_of_none rp.at_ hM).symm
        refine g_tyL rp5.at_ ?_
        walk_at "go"
        refine g_append rp5.at_ (by rw [List.length_map]; omega) ?_
        walk_at "go"
        refine ⟨_, _, _, _, zs ++ [(M, acc)], rfl, Frm.mut (f2.trans f5) hF, d5.mut nF bF, rp5.put eM5 nM nMF, fun z hz => ?_, by rw [List.length_append, lz]; rfl⟩
        rw [List.mem_append, List.mem_singleton] at hz
        rcases hz with hz | rfl
        · exact gd z hz
        · exact ri
    · rintro σ H' ⟨v4, v5, v6, v7, zs, rfl, f2, d2, rp, gd, lz⟩
      walk_at "go"
      exact q _ F zs f2 d2 hF rp gd (by rw [lz, List.length_map])
end
end K11
namespace K11
open PySem PySem.Spec PyProof.Rows L2 Wd
section
variable {P : Program} {w : World} {K : PySem.W.Frag} {mg : Str → Option Value} {base : Heap} {CW : Addr}
/-- rising, from a on -/
def Asc : Int → List Int → Prop
  | _, [] => True
  | a, p :: ps => a ≤ p ∧ Asc p ps
theorem Asc.le {a b : Int} : ∀ {ps : List Int}, Asc a ps → b ≤ a → Asc b ps
  | [], _, _ => trivial
  | p :: ps, h, hb => ⟨by have := h.1; omega, h.2⟩
theorem fb_ge {lo hi : Int} (h0 : 0 ≤ hi) : ∀ {ls : List Int} {n last : Int}, Asc n ls → n ≤ last + hi + 1 → n ≤ (fb lo hi last ls).1
  | [], n, last, _, h => h
  | p :: ps, n, last, a, h => by
    by_cases c : p > last + hi
    · rw [fb_late c]; exact h
    · by_cases c2 : p < last + lo
      · rw [fb_early c c2]; exact a.1
      · rw [fb_next c c2]
        exact fb_ge h0 (a.2.le a.1) (by have := a.1; omega)
theorem fb_is_late {lo hi : Int} : ∀ {ls : List Int} {last : Int}, Asc (last + hi + 1) ls → fb lo hi last ls = (last + hi + 1, ("late" : Str))
  | [], last, _ => rfl
  | p :: ps, last, a => fb_late (by have := a.1; omega)

abbrev s_law_bite : Stmt := top 32
theorem sc_law_bite : FnScope ["_law_window_here", "_law_pats", "_law_end", "_law_last", "_law_left", "_law_now"] ["_law_window_here", "_law_pats", "_law_end"] (C8.fnScope s_law_bite) := C8.fnScope_by (by decide +kernel)
def sp_bite (K : PySem.W.Frag) : Sp := fun vs H Q _ => ∃ (W S : Addr) (lo hi e : Int) (ps : List Int), vs = [.ref W, .ref S, .int e] ∧ SqT K H W [.int lo, .int hi] ∧ SqL K H S (ps.map V.int) ∧ 0 ≤ lo ∧ lo ≤ hi ∧ -10 ≤ e ∧ e < 2 ^ 60 ∧ Asc 0 ps ∧
  (∀ H', Same H H' → bite lo hi e ps = none → Q .non H') ∧ ∀ m wd H' q, bite lo hi e ps = some (m, wd) → Same H H' → H' q = some (.tup [.int m, .str wd]) → Q (.ref q) H'
theorem ok_bite (T : Txt K mg CW) {f : Addr} {fd : FuncData} (D : C8.Def K mg "_law_bite" s_law_bite f fd) (b : Binds K fd ["_law_window_here", "_law_pats", "_law_end"] []) : C8.Cal P w K mg base 1 "_law_bite" (sp_bite K) [] := by
  refine C8.cal0 D b .nil sc_law_bite (fun vs H Q E h => ?_) fun cdv A outer s H vs Q E hr h => ?_
  · obtain ⟨W, S, lo, hi, e, ps, rfl, _⟩ := h; rfl
  · obtain ⟨W, S, lo, hi, e, ps, rfl, hW, hS, h0, h1, e0, e1, asc, k1, k2⟩ := h
    have nd := sc_law_bite.nd
    refine ⟨_, (pss_cons (ps_set (i := 3) nd rfl (Or.inl rfl) pe_int)
      (pss_cons (ps_set (i := 4) nd rfl (Or.inl rfl) (pe_callTy (r := rListOf K) call_list1 (by rfl) T.n_list (by decide +kernel) (pa_cons (pv 1) pa_nil)))
      (pss_cons (ps_for PassesOwn.never rfl (pi_range1 rfl T.n_range (pa_cons (pe_op op_add (pv 2) pe_int) pa_nil)) (pg_name (i := 5) nd rfl (Or.inl rfl)) (pss_cons (ps_if (pt_cmpR op_eq (pv 5) (pe_op op_add (pe_op op_add (pv 3) (pe_ix (r := rIxT K) ix_tup (pv 0) pe_int (fun _ _ => rfl))) pe_int) (nomark _)) (pss_one (ps_ret (pe_tup (pa_cons (pv 5) (pa_cons pe_str pa_nil))))) pss_nil)
      (pss_one (ps_while PassesOwn.never (PW.pt (pw_and (pt_cmpR (r := rNeD K) (op_neD hr.units) (pv 4) (pe_lst pa_nil) (nomark _)) (pw_and1 (pt_cmpR op_eq (pe_ix (r := rIxL K) ix_list (pv 4) pe_int (fun _ _ => rfl)) (pv 5) (nomark _))))) (pss_cons (ps_if (pt_cmpR op_lt (pv 5) (pe_op op_add (pv 3) (pe_ix (r := rIxT K) ix_tup (pv 0) pe_int (fun _ _ => rfl))) (nomark _)) (pss_one (ps_ret (pe_tup (pa_cons (pv 5) (pa_cons pe_str pa_nil))))) pss_nil)
      (pss_cons (ps_set (i := 3) nd rfl (Or.inl rfl) (pv 5))
      (pss_one (ps_set (i := 4) nd rfl (Or.inl rfl) (pe_slice (r := rSlL K) sl_list (pv 4) (po_some pe_int) po_none)))))))))
      (pss_one (ps_ret pe_non))))), ?_⟩
    walk_at "go"
    refine g_listOf hS ?_
    intro L hL
    walk_at "go"
    refine w_range (by omega) (by omega) (fun i σ H' => ∃ (last : Int) (ls : List Int) (L : Addr) (v : Option V), σ = [some (.ref W), some (.ref S), some (.int e), some (.int last), some (.ref L), v] ∧ Same H H' ∧ H' L = some (.lst (ls.map V.int)) ∧
      fb lo hi 0 ps = fb lo hi last ls ∧ Asc i ls ∧ last ≤ i ∧ (i : Int) ≤ last + hi + 1) ?_ ?_ ?_
    · exact ⟨0, ps, L, none, rfl, same_new hL, upd_same, rfl, asc, by omega, by omega⟩
    · rintro i σ H' hik ⟨last, ls, L, v, rfl, sm, eL, ef, al, c1, c2⟩
      have hW' : SqT K H' W [.int lo, .int hi] := tup_same sm hW
      walk_at "go"
      refine g_ixT hW' rfl ?_
      walk_at "go"
      refine g_ite (fun hl => ?_) (fun hl => ?_)
      · walk_at "go"
        intro q hq
        rw [hl] at al
        rw [fb_is_late al] at ef
        refine k2 _ _ _ q ?_ (sm.trans (same_new hq)) upd_same
        unfold bite
        rw [ef, if_neg (by show ¬ (last + hi + 1) > e; omega), hl]
      · walk_at "go"
        refine w_loop (fun m σ H' => ∃ (last : Int) (ls : List Int) (L : Addr), m = ls.length ∧ σ = [some (.ref W), some (.ref S), some (.int e), some (.int last), some (.ref L), some (.int i)] ∧ Same H H' ∧ H' L = some (.lst (ls.map V.int)) ∧
          fb lo hi 0 ps = fb lo hi last ls ∧ Asc i ls ∧ last ≤ i ∧ (i : Int) ≤ last + hi) ls.length ?_ ?_
        · exact ⟨last, ls, L, rfl, rfl, sm, eL, ef, al, c1, by omega⟩
        · rintro m σ H2 ⟨last, ls, L, rfl, rfl, sm, eL, ef, al, c1, c2⟩
          walk_at "go"
          intro n hn
          have sm3 := sm.trans (same_new (o := .lst ([] : List V)) hn)
          have eL3 := same_new (o := .lst ([] : List V)) hn _ _ eL
          walk_at "go"
          refine g_neLI (ns := ls) (ms := []) (SqL.of eL3) (SqL.of upd_same) ?_
          walk_at "go"
          refine g_iteN (fun hne => ?_) (fun he => ?_)
          · cases ls with
            | nil => exact absurd rfl hne
            | cons p ls =>
              walk_at "go"
              refine g_ixL (v := V.int p) (SqL.of eL3) (at_of (j := 0) rfl rfl) ?_
              walk_at "go"
              refine g_ite (fun hp => ?_) (fun hp => ?_)
              · subst hp
                refine ⟨fun σ' H' => ∃ m', m' < (((i : Int)) :: ls).length ∧ _, fun σ' H' h => h, ?_⟩
                walk_at "go"
                refine g_ixT (tup_same sm3 hW) rfl ?_
                walk_at "go"
                refine g_ite (fun he => ?_) (fun he => ?_)
                · walk_at "go"
                  intro q hq
                  rw [fb_early (by omega) he] at ef
                  refine k2 _ _ _ q ?_ (sm3.trans (same_new hq)) upd_same
                  unfold bite
                  rw [ef, if_neg (by show ¬ (i : Int) > e; omega)]
                · walk_at "go"
                  refine g_slL (SqL.of eL3) ?_
                  intro q hq
                  walk_at "go"
                  rw [fb_next (by omega) he] at ef
                  refine ⟨ls.length, by simp, i, ls, q, rfl, rfl, sm3.trans (same_new hq), ?_, ef, al.2, by omega, by omega⟩
                  rw [upd_same, cut1]; rfl
              · -- the first is another moment
                walk_at "go"
                have := al.1
                exact ⟨last, p :: ls, L, _, rfl, sm3, eL3, ef, ⟨by omega, al.2⟩, by omega, by omega⟩
          · subst he
            walk_at "go"
            exact ⟨last, [], L, _, rfl, sm3, eL3, ef, trivial, by omega, by omega⟩
    · rintro σ H' ⟨last, ls, L, v, rfl, sm, eL, ef, al, c1, c2⟩
      walk_at "go"
      refine k1 _ sm ?_
      unfold bite
      have := fb_ge (lo := lo) (by omega : 0 ≤ hi) al c2
      rw [ef, if_pos (by omega)]
end
end K11
namespace K11
open PySem PySem.Spec PyProof.Rows L2 Wd
section
variable {P : Program} {w : World} {K : PySem.W.Frag} {mg : Str → Option Value} {base : Heap} {CW : Addr}
abbrev s_law_same : Stmt := top 28
theorem sc_law_same : FnScope ["_law_found", "_law_due", "_law_k"] ["_law_found", "_law_due"] (C8.fnScope s_law_same) := C8.fnScope_by (by decide +kernel)
/-- two things of the same data: told to be the same -/
def sp_same (K : PySem.W.Frag) : Nat → Sp
  | 0 => fun _ _ _ _ => False
  | n + 1 => fun vs H Q _ => ∃ (x y : V) (d : PyData), vs = [x, y] ∧ Dp K H x d ∧ Dp K H y d ∧ OkD n d ∧ ∀ H', Same H H' → Q (.bl true) H'
theorem same_step (T : Txt K mg CW) {n : Nat} {f : Addr} {fd : FuncData} (D : C8.Def K mg "_law_same" s_law_same f fd) (b : Binds K fd ["_law_found", "_law_due"] []) (g_law_same : C8.Cal P w K mg base n "_law_same" (sp_same K n) []) : C8.Cal P w K mg base (n + 1) "_law_same" (sp_same K (n + 1)) [] := by
  refine C8.cal0 D b .nil sc_law_same (fun vs H Q E h => ?_) fun cdv A outer s H vs Q E hr h => ?_
  · obtain ⟨x, y, d, rfl, _⟩ := h; rfl
  · obtain ⟨x, y, d, rfl, hx, hy, ok, q⟩ := h
    have nd := sc_law_same.nd
    have hr : Room n _ := hr
    refine ⟨_, (pss_cons (ps_if (pt_val (pe_callB (r := rIsiT K) call_isiT (by rfl) T.n_isinstance (by decide +kernel) (pa_cons (pv 1) (pa_cons (pe_tup (pa_cons (pe_bltn (v := .ty "tuple") (by rfl) T.n_tuple (by decide +kernel) rfl) (pa_cons (pe_bltn (v := .ty "list") (by rfl) T.n_list (by decide +kernel) rfl) pa_nil))) pa_nil)))) (pss_cons (ps_if (PW.pt (pw_or (pt_not (pt_val (pe_callB (r := rIsiT K) call_isiT (by rfl) T.n_isinstance (by decide +kernel) (pa_cons (pv 0) (pa_cons (pe_tup (pa_cons (pe_bltn (v := .ty "tuple") (by rfl) T.n_tuple (by decide +kernel) rfl) (pa_cons (pe_bltn (v := .ty "list") (by rfl) T.n_list (by decide +kernel) rfl) pa_nil))) pa_nil))))) (pw_or1 (pt_cmpR op_ne (pe_callB (r := rIsi K) call_isi (by rfl) T.n_isinstance (by decide +kernel) (pa_cons (pv 0) (pa_cons (pe_bltn (v := .ty "list") (by rfl) T.n_list (by decide +kernel) rfl) pa_nil))) (pe_callB (r := rIsi K) call_isi (by rfl) T.n_isinstance (by decide +kernel) (pa_cons (pv 1) (pa_cons (pe_bltn (v := .ty "list") (by rfl) T.n_list (by decide +kernel) rfl) pa_nil))) (nomark _))))) (pss_one (ps_ret pe_bl)) pss_nil)
      (pss_cons (ps_if (pt_cmpR op_ne (pe_callB (r := Wd.rLen K) call_len1 (by rfl) T.n_len PySem.boot_len (pa_cons (pv 0) pa_nil)) (pe_callB (r := Wd.rLen K) call_len1 (by rfl) T.n_len PySem.boot_len (pa_cons (pv 1) pa_nil)) (nomark _)) (pss_one (ps_ret pe_bl)) pss_nil)
      (pss_one (ps_ret (pe_cmpR (r := rEqD K) (op_eqD hr.units) (pe_lc (own := [("_law_k", 2)]) (g := gName 2) rfl nd (pi_range1 rfl T.n_range (pa_cons (pe_callB (r := Wd.rLen K) call_len1 (by rfl) T.n_len PySem.boot_len (pa_cons (pv 1) pa_nil)) pa_nil)) (blkOk_by (N := ["_law_found", "_law_due", "_law_k"]) (sc := C8.fnScope s_law_same) (by decide +kernel)) (fun _ _ _ _ _ => pg_name (i := 2) nd rfl (Or.inl rfl)) (fun _ _ _ _ _ => pts_one (pt_not (pt_val (C8.pe_c g_law_same hr (by first | decide | exact Nat.le_refl _ | omega) (by rfl) (pa_cons (pe_ix (r := rIx K) ix_seq (pv 0) (pv 2) (fun _ _ => rfl)) (pa_cons (pe_ix (r := rIx K) ix_seq (pv 1) (pv 2) (fun _ _ => rfl)) pa_nil)))))) (fun _ _ _ _ _ => (pv 2))) (pe_lst pa_nil) (nomark _)))))) pss_nil)
      (pss_cons (ps_if (pt_cmpR op_isN1 (pv 1) pe_non (nomark _)) (pss_one (ps_ret (pe_cmpR op_isN1 (pv 0) pe_non (nomark _)))) pss_nil)
      (pss_cons (ps_if (pt_val (pe_callB (r := rIsi K) call_isi (by rfl) T.n_isinstance (by decide +kernel) (pa_cons (pv 1) (pa_cons (pe_bltn (v := .ty "str") (by rfl) T.n_str (by decide +kernel) rfl) pa_nil)))) (pss_one (ps_ret (pe_and (pe_callB (r := rIsi K) call_isi (by rfl) T.n_isinstance (by decide +kernel) (pa_cons (pv 0) (pa_cons (pe_bltn (v := .ty "str") (by rfl) T.n_str (by decide +kernel) rfl) pa_nil))) (pe_one (pe_cmpR op_eq (pv 0) (pv 1) (nomark _)))))) pss_nil)
      (pss_cons (ps_if (PW.pt (pw_or (pt_val (pe_callB (r := rIsi K) call_isi (by rfl) T.n_isinstance (by decide +kernel) (pa_cons (pv 1) (pa_cons (pe_bltn (v := .ty "bool") (by rfl) T.n_bool (by decide +kernel) rfl) pa_nil)))) (pw_or1 (pt_val (pe_callB (r := rIsi K) call_isi (by rfl) T.n_isinstance (by decide +kernel) (pa_cons (pv 0) (pa_cons (pe_bltn (v := .ty "bool") (by rfl) T.n_bool (by decide +kernel) rfl) pa_nil))))))) (pss_one (ps_ret (pe_and (pe_callB (r := rIsi K) call_isi (by rfl) T.n_isinstance (by decide +kernel) (pa_cons (pv 1) (pa_cons (pe_bltn (v := .ty "bool") (by rfl) T.n_bool (by decide +kernel) rfl) pa_nil))) (pe_and (pe_callB (r := rIsi K) call_isi (by rfl) T.n_isinstance (by decide +kernel) (pa_cons (pv 0) (pa_cons (pe_bltn (v := .ty "bool") (by rfl) T.n_bool (by decide +kernel) rfl) pa_nil))) (pe_one (pe_cmpR op_eq (pv 0) (pv 1) (nomark _))))))) pss_nil)
      (pss_one (ps_ret (pe_and (pe_callB (r := rIsi K) call_isi (by rfl) T.n_isinstance (by decide +kernel) (pa_cons (pv 0) (pa_cons (pe_bltn (v := .ty "int") (by rfl) T.n_int (by decide +kernel) rfl) pa_nil))) (pe_one (pe_cmpR op_eq (pv 0) (pv 1) (nomark _)))))))))), ?_⟩
    walk_at "go"
    intro t1 ht1
    walk_at "go"
    have s1 := same_new (o := .tup [.ty "tuple", .ty "list"]) ht1
    have cls : Paired ClsV [.ty "tuple", .ty "list"] [.type "tuple", .type "list"] := .cons (.ty _) (.cons (.ty _) .nil)
    have hy1 := Dp_same s1 d y hy
    have hx1 := Dp_same s1 d x hx
    cases ok with
    | non =>
      cases hy1; cases hx1
      refine g_isiT upd_same cls (.base .non) (kit2 (r1 := false) (r2 := false) (by decide +kernel) (by decide +kernel)) ?_
      walk_at "go"
      exact q _ s1
    | str z =>
      cases hy1; cases hx1
      refine g_isiT upd_same cls (.base (.str _)) (kit2 (r1 := false) (r2 := false) (by decide +kernel) (by decide +kernel)) ?_
      walk_at "go"
      refine g_isiB (.ty _) (.base (.str _)) (b := true) (by decide +kernel) ?_
      walk_at "go"
      refine g_isiB (.ty _) (.base (.str _)) (b := true) (by decide +kernel) ?_
      walk_at "go"
      rw [decide_eq_true rfl]
      exact q _ s1
    | bl z =>
      cases hy1; cases hx1
      refine g_isiT upd_same cls (.base (.bl _)) (kit2 (r1 := false) (r2 := false) (by decide +kernel) (by decide +kernel)) ?_
      walk_at "go"
      refine g_isiB (.ty _) (.base (.bl _)) (b := false) (by decide +kernel) ?_
      walk_at "go"
      refine g_isiB (.ty _) (.base (.bl _)) (b := true) (by decide +kernel) ?_
      walk_at "go"
      refine g_isiB (.ty _) (.base (.bl _)) (b := true) (by decide +kernel) ?_
      walk_at "go"
      refine g_isiB (.ty _) (.base (.bl _)) (b := true) (by decide +kernel) ?_
      walk_at "go"
      rw [beq_self_eq_true]
      exact q _ s1
    | int z =>
      cases hy1; cases hx1
      refine g_isiT upd_same cls (.base (.int _)) (kit2 (r1 := false) (r2 := false) (by decide +kernel) (by decide +kernel)) ?_
      walk_at "go"
      refine g_isiB (.ty _) (.base (.int _)) (b := false) (by decide +kernel) ?_
      walk_at "go"
      refine g_isiB (.ty _) (.base (.int _)) (b := false) (by decide +kernel) ?_
      walk_at "go"
      refine g_isiB (.ty _) (.base (.int _)) (b := false) (by decide +kernel) ?_
      walk_at "go"
      refine g_isiB (.ty _) (.base (.int _)) (b := true) (by decide +kernel) ?_
      walk_at "go"
      rw [decide_eq_true rfl]
      exact q _ s1
    | @lst m ds hl hd =>
      cases hy1 with
      | @lst ay ys _ sy py =>
      cases hx1 with
      | @lst ax xs _ sx px =>
      refine g_isiT upd_same cls (ty_list sy) (kit2 (r1 := false) (r2 := true) (by decide +kernel) (by decide +kernel)) ?_
      walk_at "go"
      intro t2 ht2
      have s2 := s1.trans (same_new (o := .tup [.ty "tuple", .ty "list"]) ht2)
      have e2 := same_new (o := .tup [.ty "tuple", .ty "list"]) ht2
      walk_at "go"
      refine g_isiT upd_same cls (ty_list (list_same e2 sx)) (kit2 (r1 := false) (r2 := true) (by decide +kernel) (by decide +kernel)) ?_
      walk_at "go"
      refine g_isiB (.ty _) (ty_list (list_same e2 sx)) (b := true) (by decide +kernel) ?_
      walk_at "go"
      refine g_isiB (.ty _) (ty_list (list_same e2 sy)) (b := true) (by decide +kernel) ?_
      walk_at "go"
      refine g_len (.inl (list_same e2 sx)) ?_
      walk_at "go"
      refine g_len (.inl (list_same e2 sy)) ?_
      walk_at "go"
      rw [DpAll.len px, DpAll.len py]
      refine g_iteN (fun hh => absurd rfl hh) (fun _ => ?_)
      walk_at "go"
      refine g_len (.inl (list_same e2 sy)) ?_
      walk_at "go"
      rw [DpAll.len py]
      refine w_lcRange (by omega) (by omega) (fun D i H' => Same (upd H t1 (.tup [.ty "tuple", .ty "list"])) H' ∧ H' D = some (.lst [])) ?_ ?_ ?_
      · intro D hD
        exact ⟨e2.trans (same_new hD), upd_same⟩
      · rintro D i H' hD hi ⟨sm, eD⟩
        have hi' : i < ds.length := by omega
        have hdi : ds[i]? = some ds[i] := List.getElem?_eq_getElem hi'
        obtain ⟨vx, hvx, dvx⟩ := DpAll.at px hdi
        obtain ⟨vy, hvy, dvy⟩ := DpAll.at py hdi
        walk_at "go"
        refine ⟨rfl, ?_⟩
        walk_at "go"
        refine .inl ⟨ax, xs, _, vx, rfl, rfl, list_same sm sx, at_of (j := i) rfl hvx, ?_⟩
        walk_at "go"
        refine .inl ⟨ay, ys, _, vy, rfl, rfl, list_same sm sy, at_of (j := i) rfl hvy, ?_⟩
        walk_at "go"
        refine ⟨vx, vy, ds[i], rfl, Dp_same sm _ _ dvx, Dp_same sm _ _ dvy, hd _ (List.getElem_mem hi'), fun H3 s3 => ?_⟩
        walk_at "go"
        exact ⟨sm.trans s3, s3 _ _ eD⟩
      · rintro D H' hD ⟨sm, eD⟩
        walk_at "go"
        intro z hz
        walk_at "go"
        refine g_eqLI (ns := []) (ms := []) (SqL.of (same_new hz _ _ eD)) (SqL.of upd_same) ?_
        walk_at "go"
        exact q _ ((s1.trans sm).trans (same_new hz))
    | @tup m ds hl hd =>
      cases hy1 with
      | @tup ay ys _ sy py =>
      cases hx1 with
      | @tup ax xs _ sx px =>
      refine g_isiT upd_same cls (ty_tup sy) (kit2 (r1 := true) (r2 := false) (by decide +kernel) (by decide +kernel)) ?_
      walk_at "go"
      intro t2 ht2
      have s2 := s1.trans (same_new (o := .tup [.ty "tuple", .ty "list"]) ht2)
      have e2 := same_new (o := .tup [.ty "tuple", .ty "list"]) ht2
      walk_at "go"
      refine g_isiT upd_same cls (ty_tup (tup_same e2 sx)) (kit2 (r1 := true) (r2 := false) (by decide +kernel) (by decide +kernel)) ?_
      walk_at "go"
      refine g_isiB (.ty _) (ty_tup (tup_same e2 sx)) (b := false) (by decide +kernel) ?_
      walk_at "go"
      refine g_isiB (.ty _) (ty_tup (tup_same e2 sy)) (b := false) (by decide +kernel) ?_
      walk_at "go"
      refine g_len (.inr (tup_same e2 sx)) ?_
      walk_at "go"
      refine g_len (.inr (tup_same e2 sy)) ?_
      walk_at "go"
      rw [DpAll.len px, DpAll.len py]
      refine g_iteN (fun hh => absurd rfl hh) (fun _ => ?_)
      walk_at "go"
      refine g_len (.inr (tup_same e2 sy)) ?_
      walk_at "go"
      rw [DpAll.len py]
      refine w_lcRange (by omega) (by omega) (fun D i H' => Same (upd H t1 (.tup [.ty "tuple", .ty "list"])) H' ∧ H' D = some (.lst [])) ?_ ?_ ?_
      · intro D hD
        exact ⟨e2.trans (same_new hD), upd_same⟩
      · rintro D i H' hD hi ⟨sm, eD⟩
        have hi' : i < ds.length := by omega
        have hdi : ds[i]? = some ds[i] := List.getElem?_eq_getElem hi'
        obtain ⟨vx, hvx, dvx⟩ := DpAll.at px hdi
        obtain ⟨vy, hvy, dvy⟩ := DpAll.at py hdi
        walk_at "go"
        refine ⟨rfl, ?_⟩
        walk_at "go"
        refine .inr (.inl ⟨ax, xs, _, vx, rfl, rfl, tup_same sm sx, at_of (j := i) rfl hvx, ?_⟩)
        walk_at "go"
        refine .inr (.inl ⟨ay, ys, _, vy, rfl, rfl, tup_same sm sy, at_of (j := i) rfl hvy, ?_⟩)
        walk_at "go"
        refine ⟨vx, vy, ds[i], rfl, Dp_same sm _ _ dvx, Dp_same sm _ _ dvy, hd _ (List.getElem_mem hi'), fun H3 s3 => ?_⟩
        walk_at "go"
        exact ⟨sm.trans s3, s3 _ _ eD⟩
      · rintro D H' hD ⟨sm, eD⟩
        walk_at "go"
        intro z hz
        walk_at "go"
        refine g_eqLI (ns := []) (ms := []) (SqL.of (same_new hz _ _ eD)) (SqL.of upd_same) ?_
        walk_at "go"
        exact q _ ((s1.trans sm).trans (same_new hz))
/-- at every depth -/
theorem ok_same (T : Txt K mg CW) {f : Addr} {fd : FuncData} (D : C8.Def K mg "_law_same" s_law_same f fd) (b : Binds K fd ["_law_found", "_law_due"] []) : ∀ n : Nat, C8.Cal P w K mg base n "_law_same" (sp_same K n) []
  | 0 => ⟨f, fd, ["_law_found", "_law_due"], [], ⟨fun _ _ _ _ h => h.elim, fun _ _ _ _ _ _ _ _ _ _ _ _ _ h => h.elim⟩, D.mgf, D.kp, b, .nil⟩
  | n + 1 => same_step T D b (ok_same T D b n)
end
end K11
namespace K11
open PySem PySem.Spec PyProof.Rows L2 Wd
section
variable {P : Program} {w : World} {K : PySem.W.Frag} {mg : Str → Option Value} {base : Heap} {CW : Addr}
/-- the classes of the refusals, at their places -/
structure Refs (K : PySem.W.Frag) (mg : Str → Option Value) (CD : Addr) (cs : List Addr) : Prop where
  n_isinstance : mg "isinstance" = none
  n_ValueError : mg "ValueError" = none
  g_DogError : mg "DogError" = some (.ref CD)
  g_BadWindow : ∃ C, cs[0]? = some C ∧ mg "BadWindow" = some (.ref C)
  g_BadPlan : ∃ C, cs[1]? = some C ∧ mg "BadPlan" = some (.ref C)
  g_BadDelays : ∃ C, cs[2]? = some C ∧ mg "BadDelays" = some (.ref C)
  g_BadWorks : ∃ C, cs[3]? = some C ∧ mg "BadWorks" = some (.ref C)
  g_NoPats : ∃ C, cs[4]? = some C ∧ mg "NoPats" = some (.ref C)
  g_NoPlace : ∃ C, cs[5]? = some C ∧ mg "NoPlace" = some (.ref C)
  g_BadTasks : ∃ C, cs[6]? = some C ∧ mg "BadTasks" = some (.ref C)
  g_BadBeat : ∃ C, cs[7]? = some C ∧ mg "BadBeat" = some (.ref C)
  g_TooMuch : ∃ C, cs[8]? = some C ∧ mg "TooMuch" = some (.ref C)
/-- a refusal without a dict of its own, of the i-th class: an error of DogError's, a ValueError, and of none of the others -/
structure IsRef (K : PySem.W.Frag) (CD : Addr) (cs : List Addr) (i : Nat) (C : Addr) : Prop where
  cls : cs[i]? = some C
  exc : ExcC K C
  dog : PySem.W.exmOne K (.ref C) (.ref CD) = some true
  val : PySem.W.kitOne K (.ref C) (.type "ValueError") = some true
  own : ∀ (j : Nat) (C' : Addr), cs[j]? = some C' → PySem.W.kitOne K (.ref C) (.ref C') = some (decide (i = j))
def kindW : List Str := ["BadWindow", "BadPlan", "BadDelays", "BadWorks", "NoPats", "NoPlace", "BadTasks", "BadBeat", "TooMuch"]
/-- what is wished of an exception: a refusal, whose word is told -/
def EKind (K : PySem.W.Frag) (CD : Addr) (cs : List Addr) (Q : VK) : XK := fun cls d H => ∃ (i : Nat) (C : Addr) (x : Str), cls = .ref C ∧ d = none ∧ IsRef K CD cs i C ∧ kindW[i]? = some x ∧ ∀ H', Same H H' → Q (.str x) H'
def TKind (K : PySem.W.Frag) (CD : Addr) (cs : List Addr) : (XK → Hp → VK → Prop) → Hp → VK → Prop := fun tl H Q => tl (EKind K CD cs Q) H Q
abbrev s_law_kind : Stmt := top 29
theorem sc_law_kind : FnScope ["_law_work", "e", "_law_kinds", "_law_words"] ["_law_work"] (C8.fnScope s_law_kind) := C8.fnScope_by (by decide +kernel)
theorem kind_gives {X : Cx} {g CD : Addr} {cs : List Addr} {cdg : Value} {q : Str} (T : Refs X.K X.mg CD cs) :
    LamX.GivesTo X ["_law_work", "e", "_law_kinds", "_law_words"] "_law_kind" (C8.fnScope s_law_kind) g cdg (C8.fnBody s_law_kind) "_law_work" q (TKind X.K CD cs) := by
  intro f c' s H Q tl act hc h
  have nd := sc_law_kind.nd
  obtain ⟨C0, e0, m0⟩ := T.g_BadWindow
  obtain ⟨C1, e1, m1⟩ := T.g_BadPlan
  obtain ⟨C2, e2, m2⟩ := T.g_BadDelays
  obtain ⟨C3, e3, m3⟩ := T.g_BadWorks
  obtain ⟨C4, e4, m4⟩ := T.g_NoPats
  obtain ⟨C5, e5, m5⟩ := T.g_NoPlace
  obtain ⟨C6, e6, m6⟩ := T.g_BadTasks
  obtain ⟨C7, e7, m7⟩ := T.g_BadBeat
  obtain ⟨C8', e8, m8⟩ := T.g_TooMuch
  refine ⟨_, pss_one (ps_try_as (X := (cxOf C8.CX0 X.prog X.w X.K X.mg X.base ["_law_work", "e", "_law_kinds", "_law_words"] "_law_kind" (C8.fnScope s_law_kind) g cdg X.A X.stack s H C8.E0).nox) (c := .ref CD) (i := 1)
      (tb := fun W D σ H => ∃ Ech : XK, (∀ cls d σ' H', Ech cls d H' → σ'.length = 4 → W cls d σ' H') ∧ σ[0]? = some (some (.ref f)) ∧ H c' = some (LamX.CodeO c' q) ∧ tl Ech H D.rt) (Wout := fun _ _ _ _ => False)
      rfl rfl nd rfl rfl ⟨rfl, by decide, .inl T.g_DogError⟩ LamX.takes0 (fun W pn xe tk _ => ?_) (fun a oe cls d pn hz hf => (pss_cons (ps_set (i := 2) nd rfl (Or.inl rfl) (pe_lst (pa_cons (pe_callB (r := rIsE2 X.K cls d a) (call_isE2 hz hf) (by rfl) T.n_isinstance (by decide +kernel) (pa_cons (pv 1) (pa_cons (pe_glob (v := .ref C0) rfl m0 rfl) pa_nil))) (pa_cons (pe_callB (r := rIsE2 X.K cls d a) (call_isE2 hz hf) (by rfl) T.n_isinstance (by decide +kernel) (pa_cons (pv 1) (pa_cons (pe_glob (v := .ref C1) rfl m1 rfl) pa_nil))) (pa_cons (pe_callB (r := rIsE2 X.K cls d a) (call_isE2 hz hf) (by rfl) T.n_isinstance (by decide +kernel) (pa_cons (pv 1) (pa_cons (pe_glob (v := .ref C2) rfl m2 rfl) pa_nil))) (pa_cons (pe_callB (r := rIsE2 X.K cls d a) (call_isE2 hz hf) (by rfl) T.n_isinstance (by decide +kernel) (pa_cons (pv 1) (pa_cons (pe_glob (v := .ref C3) rfl m3 rfl) pa_nil))) pa_nil))))))
      (pss_cons (ps_set (i := 2) nd rfl (Or.inl rfl) (pe_op op_cat (pv 2) (pe_lst (pa_cons (pe_callB (r := rIsE2 X.K cls d a) (call_isE2 hz hf) (by rfl) T.n_isinstance (by decide +kernel) (pa_cons (pv 1) (pa_cons (pe_glob (v := .ref C4) rfl m4 rfl) pa_nil))) (pa_cons (pe_callB (r := rIsE2 X.K cls d a) (call_isE2 hz hf) (by rfl) T.n_isinstance (by decide +kernel) (pa_cons (pv 1) (pa_cons (pe_glob (v := .ref C5) rfl m5 rfl) pa_nil))) (pa_cons (pe_callB (r := rIsE2 X.K cls d a) (call_isE2 hz hf) (by rfl) T.n_isinstance (by decide +kernel) (pa_cons (pv 1) (pa_cons (pe_glob (v := .ref C6) rfl m6 rfl) pa_nil))) (pa_cons (pe_callB (r := rIsE2 X.K cls d a) (call_isE2 hz hf) (by rfl) T.n_isinstance (by decide +kernel) (pa_cons (pv 1) (pa_cons (pe_glob (v := .ref C7) rfl m7 rfl) pa_nil))) pa_nil)))))))
      (pss_cons (ps_expr (pe_bmK (K := X.K) rfl PySem.F.plainAttrs_list PySem.F.slot_list_append PySem.F.type_list_append mt_append (pv 2) (pa_cons (pe_callB (r := rIsE2 X.K cls d a) (call_isE2 hz hf) (by rfl) T.n_isinstance (by decide +kernel) (pa_cons (pv 1) (pa_cons (pe_glob (v := .ref C8') rfl m8 rfl) pa_nil))) pa_nil)))
      (pss_cons (ps_set (i := 3) nd rfl (Or.inl rfl) (pe_lst (pa_cons pe_str (pa_cons pe_str (pa_cons pe_str (pa_cons pe_str (pa_cons pe_str (pa_cons pe_str (pa_cons pe_str (pa_cons pe_str (pa_cons pe_str pa_nil)))))))))))
      (pss_cons (ps_if (PW.pt (pw_or (pt_cmpR op_ne (pe_bmK (K := X.K) rfl PySem.F.plainAttrs_list PySem.F.slot_list_count PySem.F.type_list_count (r := rCntV X.K) mt_lcountV (pv 2) (pa_cons pe_bl pa_nil)) pe_int (nomark _)) (pw_or1 (pt_not (pt_val (pe_callB (r := rIsE2 X.K cls d a) (call_isE2 hz hf) (by rfl) T.n_isinstance (by decide +kernel) (pa_cons (pv 1) (pa_cons (pe_bltn (v := .ty "ValueError") (by rfl) T.n_ValueError (by decide +kernel) rfl) pa_nil)))))))) (pss_one (ps_ret pe_str)) pss_nil)
      (pss_one (ps_ret (pe_ix (r := rIxL X.K) ix_list (pv 3) (pe_bmK (K := X.K) rfl PySem.F.plainAttrs_list PySem.F.slot_list_index PySem.F.type_list_index (r := rIndex X.K) mt_index (pv 2) (pa_cons pe_bl pa_nil)) (fun _ _ => rfl))))))))))), ?_⟩
  · refine ⟨fun pins s' σ H' D I h' => ?_⟩
    obtain ⟨Ech, hW, h1, h2, h3⟩ := h'
    exact (pss_one (ps_ret (act _ pn xe Ech _ _ (takes_len tk) hW))).run pins s' σ H' D I ⟨h1, h2, h3⟩
  · refine ⟨EKind X.K CD cs Q, fun cls d σ' H' hE hlen => ?_, rfl, hc, h⟩
    obtain ⟨i, C, x, rfl, rfl, R, hx, k⟩ := hE
    obtain ⟨v0, v1, v2, v3, rfl⟩ : ∃ v0 v1 v2 v3, σ' = [v0, v1, v2, v3] := by
      match σ', hlen with
      | [v0, v1, v2, v3], _ => exact ⟨v0, v1, v2, v3, rfl⟩
    refine ⟨true, R.dog, fun _ a ha => ?_, fun q => nomatch q⟩
    show tSeq _ _ _ _ _
    have isC : ∀ (j : Nat) (C' : Addr) (H : Hp) (Q : VK), cs[j]? = some C' → Q (.bl (decide (i = j))) H → rIsE2 X.K (.ref C) none a [.ref a, .ref C'] H Q := fun j C' H Q e q => ⟨C, .ref C', .ref C', _, rfl, rfl, R.exc, rfl, fun u r => r, R.own j C' e, q⟩
    walk_at "go"
    refine isC 0 _ _ _ e0 ?_
    walk_at "go"
    refine isC 1 _ _ _ e1 ?_
    walk_at "go"
    refine isC 2 _ _ _ e2 ?_
    walk_at "go"
    refine isC 3 _ _ _ e3 ?_
    walk_at "go"
    intro l1 hl1
    walk_at "go"
    refine isC 4 _ _ _ e4 ?_
    walk_at "go"
    refine isC 5 _ _ _ e5 ?_
    walk_at "go"
    refine isC 6 _ _ _ e6 ?_
    walk_at "go"
    refine isC 7 _ _ _ e7 ?_
    walk_at "go"
    intro l2 hl2
    have n12 : l1 ≠ l2 := fun e => by rw [← e, upd_same] at hl2; cases hl2
    walk_at "go"
    refine ⟨l1, l2, _, _, rfl, rfl, by rw [upd_ne n12, upd_same], upd_same, (by show 8 ≤ sizeLine; decide), fun l3 hl3 => ?_⟩
    walk_at "go"
    refine g_tyL upd_same ?_
    walk_at "go"
    refine isC 8 _ _ _ e8 ?_
    walk_at "go"
    refine g_append upd_same (by show 8 < 100000; decide) ?_
    walk_at "go"
    intro l4 hl4
    have n34 : l3 ≠ l4 := fun e => by rw [← e, upd_same] at hl4; cases hl4
    have S5 := ((((same_new (o := .lst [V.bl (decide (i = 0)), V.bl (decide (i = 1)), V.bl (decide (i = 2)), V.bl (decide (i = 3))]) hl1).trans (same_new (o := .lst [V.bl (decide (i = 4)), V.bl (decide (i = 5)), V.bl (decide (i = 6)), V.bl (decide (i = 7))]) hl2)).trans
      (Same.mut (same_new (o := .lst ([V.bl (decide (i = 0)), V.bl (decide (i = 1)), V.bl (decide (i = 2)), V.bl (decide (i = 3))] ++ [V.bl (decide (i = 4)), V.bl (decide (i = 5)), V.bl (decide (i = 6)), V.bl (decide (i = 7))])) hl3)
        (o := .lst ([V.bl (decide (i = 0)), V.bl (decide (i = 1)), V.bl (decide (i = 2)), V.bl (decide (i = 3))] ++ [V.bl (decide (i = 4)), V.bl (decide (i = 5)), V.bl (decide (i = 6)), V.bl (decide (i = 7))] ++ [V.bl (decide (i = 8))])) hl3)).trans (same_new (o := .lst (kindW.map V.str)) hl4))
    have S6 := same_new (o := .lst (kindW.map V.str)) hl4
    have a3 := S6 l3 _ upd_same
    have a4 : upd _ l4 (.lst (kindW.map V.str)) l4 = some (.lst (kindW.map V.str)) := upd_same (H := upd (upd (upd (upd H' l1 (.lst [V.bl (decide (i = 0)), V.bl (decide (i = 1)), V.bl (decide (i = 2)), V.bl (decide (i = 3))])) l2 (.lst [V.bl (decide (i = 4)), V.bl (decide (i = 5)), V.bl (decide (i = 6)), V.bl (decide (i = 7))])) l3
      (.lst ([V.bl (decide (i = 0)), V.bl (decide (i = 1)), V.bl (decide (i = 2)), V.bl (decide (i = 3))] ++ [V.bl (decide (i = 4)), V.bl (decide (i = 5)), V.bl (decide (i = 6)), V.bl (decide (i = 7))]))) l3
        (.lst ([V.bl (decide (i = 0)), V.bl (decide (i = 1)), V.bl (decide (i = 2)), V.bl (decide (i = 3))] ++ [V.bl (decide (i = 4)), V.bl (decide (i = 5)), V.bl (decide (i = 6)), V.bl (decide (i = 7))] ++ [V.bl (decide (i = 8))])))
    have hi : i < 9 := (List.getElem?_eq_some_iff.mp hx).1
    have c9 : i = 0 ∨ i = 1 ∨ i = 2 ∨ i = 3 ∨ i = 4 ∨ i = 5 ∨ i = 6 ∨ i = 7 ∨ i = 8 := by omega
    -- of the nine answers one is True, at i
    have fA : ([V.bl (decide (i = 0)), V.bl (decide (i = 1)), V.bl (decide (i = 2)), V.bl (decide (i = 3))] ++ [V.bl (decide (i = 4)), V.bl (decide (i = 5)), V.bl (decide (i = 6)), V.bl (decide (i = 7))] ++ [V.bl (decide (i = 8))]).all flatV = true := rfl
    have nA : ([V.bl (decide (i = 0)), V.bl (decide (i = 1)), V.bl (decide (i = 2)), V.bl (decide (i = 3))] ++ [V.bl (decide (i = 4)), V.bl (decide (i = 5)), V.bl (decide (i = 6)), V.bl (decide (i = 7))] ++ [V.bl (decide (i = 8))]).countP (fun z => eqV z (.bl true)) = 1 := by
      rcases c9 with rfl | rfl | rfl | rfl | rfl | rfl | rfl | rfl | rfl <;> rfl
    have iA : ([V.bl (decide (i = 0)), V.bl (decide (i = 1)), V.bl (decide (i = 2)), V.bl (decide (i = 3))] ++ [V.bl (decide (i = 4)), V.bl (decide (i = 5)), V.bl (decide (i = 6)), V.bl (decide (i = 7))] ++ [V.bl (decide (i = 8))])[i]? = some (V.bl true) := by
      rcases c9 with rfl | rfl | rfl | rfl | rfl | rfl | rfl | rfl | rfl <;> rfl
    have mA : ∀ (m : Nat) (z' : V), m < i → ([V.bl (decide (i = 0)), V.bl (decide (i = 1)), V.bl (decide (i = 2)), V.bl (decide (i = 3))] ++ [V.bl (decide (i = 4)), V.bl (decide (i = 5)), V.bl (decide (i = 6)), V.bl (decide (i = 7))] ++ [V.bl (decide (i = 8))])[m]? = some z' → eqV z' (.bl true) = false := by
      intro m z' hm e
      have c8 : m = 0 ∨ m = 1 ∨ m = 2 ∨ m = 3 ∨ m = 4 ∨ m = 5 ∨ m = 6 ∨ m = 7 := by omega
      rcases c8 with rfl | rfl | rfl | rfl | rfl | rfl | rfl | rfl <;> (cases (Option.some.inj e); rw [decide_eq_false (by omega)]; rfl)
    generalize ([V.bl (decide (i = 0)), V.bl (decide (i = 1)), V.bl (decide (i = 2)), V.bl (decide (i = 3))] ++ [V.bl (decide (i = 4)), V.bl (decide (i = 5)), V.bl (decide (i = 6)), V.bl (decide (i = 7))] ++ [V.bl (decide (i = 8))]) = A at S5 S6 a3 a4 fA nA iA mA ⊢
    walk_at "go"
    refine g_tyL a3 ?_
    walk_at "go"
    refine ⟨l3, A, .bl true, rfl, rfl, SqL.of a3, rfl, fA, ?_⟩
    rw [nA]
    walk_at "go"
    refine ⟨C, .ty "ValueError", .type "ValueError", true, rfl, rfl, R.exc, rfl, fun u r => r, R.val, ?_⟩
    walk_at "go"
    refine g_tyL a3 ?_
    walk_at "go"
    refine ⟨l3, A, .bl true, i, .bl true, rfl, rfl, SqL.of a3, rfl, fA, iA, rfl, mA, ?_⟩
    refine g_ixL (v := .str x) (SqL.of a4) (at_of (j := i) rfl (by rw [List.getElem?_map, hx]; rfl)) ?_
    exact k _ S5
end
end K11
namespace K11
open PySem PySem.Spec PyProof.Rows L2 Wd
/-! ### the keeper, moment by moment -/
def told (l t : Int) (m : List Int) : Bool := m.any fun x => decide (l < x ∧ x ≤ t)
theorem told_iff {l t : Int} {m : List Int} : told l t m = true ↔ ∃ x ∈ m, l < x ∧ x ≤ t := by
  unfold told
  rw [List.any_eq_true]
  exact ⟨fun ⟨x, h, e⟩ => ⟨x, h, of_decide_eq_true e⟩, fun ⟨x, h, e⟩ => ⟨x, h, decide_eq_true e⟩⟩
theorem told_none {l t : Int} {m : List Int} (h : t ≤ l) : told l t m = false := by
  cases e : told l t m with
  | false => rfl
  | true => obtain ⟨x, _, h1, h2⟩ := told_iff.mp e; omega
theorem told_map {l t : Int} (h : t ≤ l) : ∀ ms : List (List Int), ms.map (told l t) = List.replicate ms.length false
  | [] => rfl
  | m :: ms => by rw [List.map_cons, told_none h, told_map h ms, List.length_cons, List.replicate_succ]
theorem told_step {l t : Int} {m : List Int} (h : l < t) : told l t m = (told l (t - 1) m || decide (t ∈ m)) := by
  cases e : told l (t - 1) m || decide (t ∈ m) with
  | true =>
    rw [Bool.or_eq_true] at e
    rcases e with e | e
    · obtain ⟨x, hx, h1, h2⟩ := told_iff.mp e
      exact told_iff.mpr ⟨x, hx, h1, by omega⟩
    · exact told_iff.mpr ⟨t, of_decide_eq_true e, h, Int.le_refl _⟩
  | false =>
    rw [Bool.or_eq_false_iff] at e
    cases e2 : told l t m with
    | false => rfl
    | true =>
      obtain ⟨x, hx, h1, h2⟩ := told_iff.mp e2
      by_cases c : x = t
      · subst c
        have := of_decide_eq_false e.2
        exact absurd hx this
      · have := told_iff.mpr ⟨x, hx, h1, show x ≤ t - 1 by omega⟩
        rw [e.1] at this; cases this
/-- the first moment behind l is no later than any other -/
theorem ix_first : ∀ {m : List Int} {l x : Int}, m.Pairwise (· < ·) → x ∈ m → l < x → ∃ y, m[ix m l]? = some y ∧ y ≤ x
  | [], _, _, _, h, _ => nomatch h
  | z :: zs, l, x, p, h, hx => by
    rw [List.pairwise_cons] at p
    unfold ix
    rw [List.mem_cons] at h
    by_cases c : l < z
    · rw [if_pos c]
      refine ⟨z, rfl, ?_⟩
      rcases h with rfl | h
      · omega
      · have := p.1 x h; omega
    · rw [if_neg c]
      rcases h with rfl | h
      · omega
      · obtain ⟨y, e, hy⟩ := ix_first p.2 h hx
        exact ⟨y, e, hy⟩
theorem due_of_told {l t : Int} : ∀ {ms : List (List Int)} {d : Int}, (∀ m ∈ ms, m.Pairwise (· < ·)) → (∀ m ∈ ms, told l t m = true) → d ≤ t → ∃ r, due l ms d = some r ∧ r ≤ t
  | [], d, _, _, hd => ⟨d, rfl, hd⟩
  | m :: ms, d, hp, h, hd => by
    obtain ⟨x, hx, h1, h2⟩ := told_iff.mp (h m List.mem_cons_self)
    obtain ⟨y, e, hy⟩ := ix_first (hp m List.mem_cons_self) hx h1
    obtain ⟨r, er, hr⟩ := due_of_told (l := l) (t := t) (ms := ms) (d := if y > d then y else d) (fun k hk => hp k (List.mem_cons_of_mem _ hk)) (fun k hk => h k (List.mem_cons_of_mem _ hk)) (by split <;> omega)
    exact ⟨r, by rw [due_yes e]; exact er, hr⟩
theorem told_of_due {l t : Int} : ∀ {ms : List (List Int)} {d r : Int}, due l ms d = some r → r ≤ t → ∀ m ∈ ms, told l t m = true
  | [], _, _, _, _, _, h => nomatch h
  | k :: ms, d, r, h, hr, m, hm => by
    cases e : k[ix k l]? with
    | none => rw [due_no e] at h; cases h
    | some x =>
      rw [due_yes e] at h
      rw [List.mem_cons] at hm
      rcases hm with rfl | hm
      · have := due_ge h
        refine told_iff.mpr ⟨x, List.mem_of_getElem? e, ix_at e, ?_⟩
        split at this <;> omega
      · exact told_of_due h hr m hm
theorem least_beat {d b t : Int} (hb : 1 ≤ b) (hd : d ≤ t) (ht : t % b = 0) : (d + b - 1) / b * b ≤ t := by
  have h1 := (up_beat (d := d) hb).2
  have e := Int.mul_ediv_add_emod t b
  rw [ht, Int.add_zero] at e
  have h2 : (d + b - 1) / b * b < (t / b + 1) * b := by rw [Int.add_mul, Int.one_mul, Int.mul_comm (t / b) b, e]; omega
  have h3 := Int.lt_of_mul_lt_mul_right h2 (by omega)
  have h4 : (d + b - 1) / b * b ≤ t / b * b := Int.mul_le_mul_of_nonneg_right (by omega) (by omega)
  rw [Int.mul_comm (t / b) b, e] at h4
  exact h4
theorem nx_now {b l t : Int} {ms : List (List Int)} (hb : 1 ≤ b) (hp : ∀ m ∈ ms, m.Pairwise (· < ·)) (hl : l < t) (hq : ∀ q, nx b ms l = some q → t ≤ q) : (t % b = 0 ∧ ∀ m ∈ ms, told l t m = true) ↔ nx b ms l = some t := by
  constructor
  · rintro ⟨h1, h2⟩
    obtain ⟨r, er, hr⟩ := due_of_told hp h2 (show l + 1 ≤ t by omega)
    have e : nx b ms l = some ((r + b - 1) / b * b) := by unfold nx; rw [er]; rfl
    have := hq _ e
    have := least_beat hb hr h1
    rw [e]
    congr 1
    omega
  · intro h
    unfold nx at h
    cases er : due l ms (l + 1) with
    | none => rw [er] at h; cases h
    | some r =>
      rw [er] at h
      have e : (r + b - 1) / b * b = t := Option.some.inj h
      have := (up_beat (d := r) hb).1
      exact ⟨by rw [← e]; exact Int.mul_emod_left _ _, told_of_due er (by omega)⟩
theorem inV_int (x : Int) : ∀ m : List Int, inV (.int x) (m.map V.int) = decide (x ∈ m)
  | [] => rfl
  | y :: ys => by
    have ih := inV_int x ys
    unfold inV at ih ⊢
    rw [List.map_cons, List.any_cons, ih]
    show ((y == x) || decide (x ∈ ys)) = decide (x ∈ y :: ys)
    by_cases c : y = x
    · subst c; simp
    · have : (y == x) = false := by simpa using c
      rw [this, Bool.false_or]
      have c' : ¬ x = y := fun z => c z.symm
      simp [c']
theorem flat_ints (m : List Int) : (m.map V.int).all flatV = true := by rw [List.all_eq_true]; intro y hy; obtain ⟨z, _, rfl⟩ := List.mem_map.mp hy; rfl
theorem flat_bls (m : List Bool) : (m.map V.bl).all flatV = true := by rw [List.all_eq_true]; intro y hy; obtain ⟨z, _, rfl⟩ := List.mem_map.mp hy; rfl
theorem inV_no : ∀ bs : List Bool, inV (.bl false) (bs.map V.bl) = decide (∃ b ∈ bs, b = false)
  | [] => by simp [inV]
  | c :: cs => by
    have ih := inV_no cs
    unfold inV at ih ⊢
    rw [List.map_cons, List.any_cons, ih]
    show ((c == false) || _) = _
    cases c <;> simp
theorem w_range2 {σ : L2.St} {H : Hp} {a : L2.St → Hp → Prop} {b : VK} {g : TG} {tb : TS} {lo n : Int} (h1 : -(2 ^ 62) ≤ lo ∧ lo < 2 ^ 62 ∧ -(2 ^ 62) ≤ n ∧ n < 2 ^ 62) (Pv : Nat → L2.St → Hp → Prop) (h0 : Pv 0 σ H)
    (hs : ∀ i σ H, i < (n - lo).toNat → Pv i σ H → g (.int (lo + i)) σ H fun σ2 H2 => tb ⟨Pv (i + 1), b, a, Pv (i + 1)⟩ σ2 H2) (hd : ∀ σ H, Pv (n - lo).toNat σ H → a σ H) :
    ∃ i j : Int, [V.int lo, .int n] = [.int i, .int j] ∧ (-(2 ^ 62) ≤ i ∧ i < 2 ^ 62 ∧ -(2 ^ 62) ≤ j ∧ j < 2 ^ 62) ∧ ForEnd g tb a b σ (Itr i (j - i).toNat) H :=
  ⟨lo, n, rfl, h1, for_range (D := ⟨a, b, fun _ _ => False, fun _ _ => False⟩) Pv h0 hs hd⟩
section
variable {P : Program} {w : World} {K : PySem.W.Frag} {mg : Str → Option Value} {base : Heap} {CW CT : Addr}
abbrev s_law_keeper : Stmt := top 33
theorem sc_law_keeper : FnScope ["_law_beat", "_law_reports_here", "_law_end", "_law_found", "_law_told", "_law_moments", "_law_now", "_law_k"] ["_law_beat", "_law_reports_here", "_law_end"] (C8.fnScope s_law_keeper) := C8.fnScope_by (by decide +kernel)
def sp_keeper (K : PySem.W.Frag) : Sp := fun vs H Q _ => ∃ (b e : Int) (R : Addr) (as : List Addr) (ms : List (List Int)), vs = [.int b, .ref R, .int e] ∧ 1 ≤ b ∧ Rep K H R as ms ∧ (∀ m ∈ ms, m.Pairwise (· < ·)) ∧ ms.length ≤ 1000 ∧ 0 ≤ e ∧ e ≤ 90000 ∧ ∀ H' L, Same H H' → H L = none → H' L = some (.lst ((kp b ms e).map V.int)) → Q (.ref L) H'
def LInv (H : Hp) (b e : Int) (R F : Addr) (ms : List (List Int)) (i : Nat) (σ : L2.St) (H' : Hp) : Prop := ∃ (TA : Addr) (acc : List Int) (l : Int) (n : Nat) (v5 v6 v7 : Option V),
  σ = [some (.int b), some (.ref R), some (.int e), some (.ref F), some (.ref TA), v5, v6, v7] ∧ Same H H' ∧ H' F = some (.lst (acc.map V.int)) ∧ H' TA = some (.lst ((ms.map (told l i)).map V.bl)) ∧ TA ≠ F ∧ 0 ≤ l ∧ l ≤ i ∧ acc ++ up (nx b ms) e n l = kp b ms e ∧ (e - l).toNat < n ∧ (acc.length : Int) ≤ l ∧ ∀ q, nx b ms l = some q → (i : Int) + 1 ≤ q
theorem ok_keeper (T : TxtK K mg CW CT) {f : Addr} {fd : FuncData} (D : C8.Def K mg "_law_keeper" s_law_keeper f fd) (b : Binds K fd ["_law_beat", "_law_reports_here", "_law_end"] []) : C8.Cal P w K mg base 1 "_law_keeper" (sp_keeper K) [] := by
  refine C8.cal0 D b .nil sc_law_keeper (fun vs H Q E h => ?_) fun cdv A outer s H vs Q E hr h => ?_
  · obtain ⟨b, e, R, as, ms, rfl, _⟩ := h; rfl
  · obtain ⟨b, e, R, as, ms, rfl, hb, rp, hp, hlen, e0, e1, q⟩ := h
    have nd := sc_law_keeper.nd
    refine ⟨_, (pss_cons (ps_set (i := 3) nd rfl (Or.inl rfl) (pe_lst pa_nil))
      (pss_cons (ps_set (i := 4) nd rfl (Or.inr rfl) (pe_lc (own := [("_law_moments", 5)]) (g := gName 5) (tt := tYes) rfl nd (pi_list (pv 1)) (blkOk_by (N := ["_law_beat", "_law_reports_here", "_law_end", "_law_found", "_law_told", "_law_moments", "_law_now", "_law_k"]) (sc := C8.fnScope s_law_keeper) (by decide +kernel)) (fun _ _ _ _ _ => pg_name (i := 5) nd rfl (Or.inl rfl)) (fun _ _ _ _ _ => pts_nil) (fun _ _ _ _ _ => pe_bl)))
      (pss_cons (ps_for PassesOwn.never rfl (pi_range2 rfl T.n_range (pa_cons pe_int (pa_cons (pe_op op_add (pv 2) pe_int) pa_nil))) (pg_name (i := 6) nd rfl (Or.inr rfl)) (pss_cons (ps_set (i := 4) nd rfl (Or.inr rfl) (pe_lc (own := [("_law_k", 7)]) (g := gName 7) (tt := tYes) rfl nd (pi_range1 rfl T.n_range (pa_cons (pe_callB (r := Wd.rLen K) call_len1 (by rfl) T.n_len PySem.boot_len (pa_cons (pv 1) pa_nil)) pa_nil)) (blkOk_by (N := ["_law_beat", "_law_reports_here", "_law_end", "_law_found", "_law_told", "_law_moments", "_law_now", "_law_k"]) (sc := C8.fnScope s_law_keeper) (by decide +kernel)) (fun _ _ _ _ _ => pg_name (i := 7) nd rfl (Or.inl rfl)) (fun _ _ _ _ _ => pts_nil) (fun _ _ _ _ _ => (pe_or (pe_ix (r := rIxL K) ix_list (pv 4) (pv 7) (fun _ _ => rfl)) (pe_one (pe_cmpR (r := rIn K false) op_in_seq (pv 6) (pe_ix (r := rIxL K) ix_list (pv 1) (pv 7) (fun _ _ => rfl)) (by with_unfolding_all rfl)))))))
      (pss_one (ps_if (PW.pt (pw_and (pt_cmpR op_eq (pe_op op_mod (pv 6) (pv 0)) pe_int (nomark _)) (pw_and1 (pt_cmpR (r := rIn K true) op_notIn_seq pe_bl (pv 4) (by with_unfolding_all rfl))))) (pss_cons (ps_expr (pe_bmK (K := K) rfl PySem.F.plainAttrs_list PySem.F.slot_list_append PySem.F.type_list_append mt_append (pv 3) (pa_cons (pv 6) pa_nil)))
      (pss_one (ps_set (i := 4) nd rfl (Or.inr rfl) (pe_lc (own := [("_law_moments", 5)]) (g := gName 5) (tt := tYes) rfl nd (pi_list (pv 1)) (blkOk_by (N := ["_law_beat", "_law_reports_here", "_law_end", "_law_found", "_law_told", "_law_moments", "_law_now", "_law_k"]) (sc := C8.fnScope s_law_keeper) (by decide +kernel)) (fun _ _ _ _ _ => pg_name (i := 5) nd rfl (Or.inl rfl)) (fun _ _ _ _ _ => pts_nil) (fun _ _ _ _ _ => pe_bl))))) pss_nil))))
      (pss_one (ps_ret (pv 3)))))), ?_⟩
    walk_at "go"
    intro F hF
    have s1 := same_new (o := .lst []) hF
    have eF := upd_same (H := H) (a := F) (o := .lst [])
    generalize upd H F (.lst []) = H1 at s1 eF
    walk_at "go"
    refine w_lcList (rp.same s1).at_ (fun D i H' => Same H1 H' ∧ H' D = some (.lst ((List.replicate i false).map V.bl))) (fun D hD => ⟨same_new hD, upd_same⟩) (fun D i H' hD _ h => list_same h.1 (rp.same s1).at_) (fun D i y H' hD hy h => ?_) (fun TA H2 hTA h => ?_)
    · walk_at "go"
      refine ⟨rfl, ?_⟩
      walk_at "go"
      have li := (List.getElem?_eq_some_iff.mp hy).1
      rw [List.length_map, rp.len] at li
      exact ⟨_, h.2, by rw [sizeLine_eq, List.length_map, List.length_replicate]; omega, Wd.Same.mut h.1 hD, by rw [upd_same, List.replicate_succ', List.map_append]; rfl⟩
    obtain ⟨s2, eT⟩ := h
    rw [List.length_map, rp.len] at eT
    have no0 : List.replicate ms.length false = ms.map (told 0 ((0 : Nat) : Int)) := (told_map (Int.le_refl _) ms).symm
    rw [no0] at eT
    have hTF : TA ≠ F := fun z => by rw [z, eF] at hTA; cases hTA
    have eF2 := s2 _ _ eF
    have s02 := s1.trans s2
    walk_at "go"
    refine w_range2 (by omega) (LInv H b e R F ms) ?_ ?_ ?_
    · exact ⟨TA, [], 0, e.toNat + 1, _, _, _, rfl, s02, eF2, eT, hTF, Int.le_refl _, by simp, rfl, by omega, by simp, fun q hq => by have := nx_gt hb hq; simp only [Int.natCast_zero]; omega⟩
    · clear eT hTF eF2 s02 no0 s2 hTA eF s1
      rintro i σ H3 hi ⟨TA, acc, l, n, v5, v6, v7, rfl, s3, eF3, eT3, hTF, l0, li, er, fu, al, nq⟩
      have r3 := rp.same s3
      walk_at "go"
      refine g_len (.inl r3.at_) ?_
      walk_at "go"
      rw [List.length_map, rp.len]
      have r3l := r3.len
      refine w_lcRange (by omega) (by omega) (fun D j H' => Same H3 H' ∧ H' D = some (.lst (((ms.take j).map (told l (i + 1 : Nat))).map V.bl))) (fun D hD => ⟨same_new hD, by rw [List.take_zero]; exact upd_same⟩) (fun D j H' hD hj h => ?_) (fun TB H4 hTB h => ?_)
      · have hj' : j < ms.length := by omega
        have hm : ms[j]? = some ms[j] := List.getElem?_eq_getElem hj'
        generalize ms[j] = m at hm
        have ha : as[j]? = some (as[j]'(by rw [r3l]; exact hj')) := List.getElem?_eq_getElem _
        generalize as[j]'(by rw [r3l]; exact hj') = a at ha
        have rA := list_same h.1 (r3.own j a m ha hm)
        have et : told l ((i + 1 : Nat) : Int) m = (told l i m || decide ((1 : Int) + i ∈ m)) := by
          have := told_step (l := l) (t := (i + 1 : Nat)) (m := m) (by omega)
          rw [this]
          congr 2
          · omega
          · congr 1; omega
        have ej : (ms.take (j + 1)).map (told l (i + 1 : Nat)) = (ms.take j).map (told l (i + 1 : Nat)) ++ [told l (i + 1 : Nat) m] := by
          rw [List.take_add_one, hm, List.map_append]; rfl
        have lj : ((ms.take j).map (told l (i + 1 : Nat))).length ≤ 1000 := by
          rw [List.length_map]; have := List.length_take_le j ms; omega
        walk_at "go"
        refine ⟨rfl, ?_⟩
        walk_at "go"
        refine g_ixL (SqL.of (h.1 _ _ eT3)) (at_of (j := j) (v := .bl (told l i m)) rfl (by rw [List.getElem?_map, List.getElem?_map, hm]; rfl)) ?_
        refine ⟨_, rfl, ?_⟩
        cases ct : told l i m with
        | true =>
          rw [ct, Bool.true_or] at et
          rw [et] at ej
          walk_at "go"
          exact ⟨_, h.2, by rw [sizeLine_eq, List.length_map]; omega, Wd.Same.mut h.1 hD, by rw [upd_same, ej, List.map_append]; rfl⟩
        | false =>
          rw [ct, Bool.false_or] at et
          rw [et] at ej
          walk_at "go"
          refine g_ixL (list_same h.1 r3.at_) (at_of (j := j) (v := .ref a) rfl (by rw [List.getElem?_map, ha]; rfl)) ?_
          refine ⟨a, m.map V.int, rfl, .inl rA, rfl, flat_ints m, ?_⟩
          rw [inV_int]
          exact ⟨_, h.2, by rw [sizeLine_eq, List.length_map]; omega, Wd.Same.mut h.1 hD, by rw [upd_same, ej, List.map_append]; rfl⟩
      obtain ⟨s4, eT4⟩ := h
      have et : (ms.length : Int).toNat = ms.length := by omega
      rw [et, List.take_length] at eT4
      have hTBF : TB ≠ F := fun z => by rw [z, eF3] at hTB; cases hTB
      have s04 := s3.trans s4
      have eF4 := s4 _ _ eF3
      have iff := nx_now hb hp (show l < ((i + 1 : Nat) : Int) by omega) (fun q hq => by have := nq q hq; omega)
      have no : ∀ q, nx b ms l = some q → ¬ nx b ms l = some ((i + 1 : Nat) : Int) → ((i + 1 : Nat) : Int) + 1 ≤ q := fun q hq hn => by
        have := nq q hq
        by_cases c : q = ((i + 1 : Nat) : Int)
        · rw [c] at hq; exact absurd hq hn
        · omega
      have e1i : (1 : Int) + i = ((i + 1 : Nat) : Int) := by omega
      walk_at "go"
      refine g_I (show 0 < b by omega) ?_
      walk_at "go"
      refine g_ite (fun c1 => ?_) (fun c1 => ?_)
      · walk_at "go"
        refine ⟨TB, _, rfl, .inl (SqL.of eT4), rfl, flat_bls _, ?_⟩
        rw [if_pos rfl, inV_no]
        refine ⟨_, rfl, ?_⟩
        refine g_iteN (fun c2 => ?_) (fun c2 => ?_)
        · have all : ∀ m ∈ ms, told l ((i + 1 : Nat) : Int) m = true := fun m hm => by
            cases ct : told l ((i + 1 : Nat) : Int) m with
            | true => rfl
            | false => exact absurd ⟨false, List.mem_map.mpr ⟨m, hm, ct⟩, rfl⟩ c2
          have hq := iff.mp ⟨by rw [← e1i]; exact c1, all⟩
          have ile : ¬ ((i + 1 : Nat) : Int) > e := by omega
          match n, fu, er with
          | n + 1, fu, er =>
          rw [up_pat hq ile] at er
          rw [e1i]
          walk_at "go"
          refine g_tyL eF4 ?_
          walk_at "go"
          refine g_append eF4 (by rw [List.length_map]; omega) ?_
          have s05 : Same H (upd H4 F (.lst (acc.map V.int ++ [.int ((i + 1 : Nat) : Int)]))) := Wd.Same.mut s04 hF
          have eF5 := upd_same (H := H4) (a := F) (o := .lst (acc.map V.int ++ [.int ((i + 1 : Nat) : Int)]))
          generalize upd H4 F (.lst (acc.map V.int ++ [.int ((i + 1 : Nat) : Int)])) = H5 at s05 eF5
          walk_at "go"
          have r5 := rp.same s05
          refine w_lcList r5.at_ (fun D j H' => Same H5 H' ∧ H' D = some (.lst ((List.replicate j false).map V.bl))) (fun D hD => ⟨same_new hD, upd_same⟩) (fun D j H' hD _ h => list_same h.1 r5.at_) (fun D j y H' hD hy h => ?_) (fun TC H6 hTC h => ?_)
          · walk_at "go"
            refine ⟨rfl, ?_⟩
            walk_at "go"
            have li := (List.getElem?_eq_some_iff.mp hy).1
            rw [List.length_map, rp.len] at li
            exact ⟨_, h.2, by rw [sizeLine_eq, List.length_map, List.length_replicate]; omega, Wd.Same.mut h.1 hD, by rw [upd_same, List.replicate_succ', List.map_append]; rfl⟩
          obtain ⟨s6, eT6⟩ := h
          rw [List.length_map, rp.len, ← told_map (Int.le_refl ((i + 1 : Nat) : Int))] at eT6
          have hTCF : TC ≠ F := fun z => by rw [z, eF5] at hTC; cases hTC
          walk_at "go"
          refine ⟨TC, acc ++ [((i + 1 : Nat) : Int)], ((i + 1 : Nat) : Int), n, _, _, _, rfl, s05.trans s6, by rw [List.map_append]; exact s6 _ _ eF5, eT6, hTCF, by omega, Int.le_refl _, by rw [List.append_assoc]; exact er, by omega, by rw [List.length_append, List.length_singleton]; omega, fun q hq => ?_⟩
          have := nx_gt hb hq
          omega
        · have hn : ¬ nx b ms l = some ((i + 1 : Nat) : Int) := fun z => by
            obtain ⟨bb, hbb, rfl⟩ := c2
            obtain ⟨m, hm, e⟩ := List.mem_map.mp hbb
            rw [(iff.mpr z).2 m hm] at e; cases e
          walk_at "go"
          exact ⟨TB, acc, l, n, _, _, _, rfl, s04, eF4, eT4, hTBF, l0, by omega, er, fu, al, fun q hq => no q hq hn⟩
      · have hn : ¬ nx b ms l = some ((i + 1 : Nat) : Int) := fun z => c1 (by rw [e1i]; exact (iff.mpr z).1)
        walk_at "go"
        exact ⟨TB, acc, l, n, _, _, _, rfl, s04, eF4, eT4, hTBF, l0, by omega, er, fu, al, fun q hq => no q hq hn⟩
    · rintro σ H3 ⟨TA, acc, l, n, v5, v6, v7, rfl, s3, eF3, eT3, hTF, l0, li, er, fu, al, nq⟩
      have et : (e + 1 - 1).toNat = e.toNat := by omega
      rw [et] at nq
      have eu : up (nx b ms) e n l = [] := by
        match n, fu with
        | n + 1, fu =>
        cases hq : nx b ms l with
        | none => exact up_none hq
        | some q => exact up_far hq (by have := nq q hq; omega)
      rw [eu, List.append_nil] at er
      walk_at "go"
      exact q H3 F s3 hF (by rw [← er]; exact eF3)
end
end K11
namespace K11
open PySem PySem.Spec PyProof.Rows L2 Wd
local macro_rules | `(tactic| walk_at "gs") => `(tactic| repeat (first
  | with_reducible refine Wd.g_seq ?_
  | with_reducible refine Wd.g_nx ?_
  | with_reducible refine Wd.g_asg ?_
  | ((with_reducible refine' Wd.g_var ?h1 ?_); (case h1 => exact rfl))
  | with_reducible refine Wd.g_c ?_
  | with_reducible refine Wd.g_op ?_
  | with_reducible refine Wd.g_un ?_
  | with_reducible refine Wd.g_I0 ?_
  | with_reducible refine Wd.g_U ?_
  | with_reducible refine Wd.g_eqI ?_
  | with_reducible refine Wd.g_neI ?_
  | with_reducible refine Wd.g_eqS ?_
  | with_reducible refine Wd.g_neS ?_
  | with_reducible refine Wd.g_eqB ?_
  | with_reducible refine Wd.g_neB ?_
  | with_reducible refine Wd.g_isN ?_
  | with_reducible refine Wd.g_notN ?_
  | with_reducible refine Wd.g_lc ?_
  | with_reducible refine Wd.g_yes ?_
  | with_reducible refine Wd.g_test ?_
  | with_reducible refine Wd.g_tB ?_
  | with_reducible refine Wd.g_bl ?_
  | with_reducible refine Wd.g_blI ?_
  | with_reducible refine Wd.g_and ?_
  | with_reducible refine Wd.g_or ?_
  | with_reducible refine Wd.g_not ?_
  | with_reducible refine Wd.g_andV ?_
  | with_reducible refine Wd.g_orV ?_
  | with_reducible refine Wd.g_notV ?_
  | with_reducible refine Wd.g_if ?_
  | with_reducible refine Wd.g_chain ?_
  | with_reducible refine Wd.g_chain3 ?_
  | with_reducible refine Wd.g_nil ?_
  | with_reducible refine Wd.g_cons ?_
  | with_reducible refine Wd.g_tup ?_
  | with_reducible refine Wd.g_lst ?_
  | with_reducible refine Wd.g_CB ?_
  | with_reducible refine Wd.g_call ?_
  | with_reducible refine Wd.g_callS ?_
  | with_reducible refine Wd.g_bm ?_
  | with_reducible refine Wd.g_bm0 ?_
  | with_reducible refine Wd.g_sl ?_
  | with_reducible refine Wd.g_part ?_
  | with_reducible refine Wd.g_part1 ?_
  | with_reducible refine Wd.g_noPart ?_
  | with_reducible refine Wd.g_next ?_
  | with_reducible refine Wd.g_name ?_
  | with_reducible refine Wd.g_sub ?_
  | with_reducible refine Wd.g_gnil ?_
  | with_reducible refine Wd.g_gcons ?_
  | with_reducible refine Wd.g_drop ?_
  | with_reducible refine Wd.g_ret ?_
  | with_reducible refine Wd.g_retN ?_
  | with_reducible refine Wd.g_brk ?_
  | with_reducible refine Wd.g_cont ?_
  | with_reducible refine Wd.g_bk ?_
  | with_reducible refine Wd.g_ct ?_
  | with_reducible refine Wd.g_rt ?_
  | with_reducible refine Wd.g_for ?_
  | with_reducible refine Wd.g_rng1 ?_
  | with_reducible refine Wd.g_rng2 ?_
  | with_reducible refine Wd.g_iList ?_
  | with_reducible refine Wd.g_iTup ?_
  | ((with_reducible refine Wd.g_fit ?h1 ?_); (case h1 => exact rfl))
  | with_reducible refine Wd.g_max2 ?_
  | with_reducible refine Wd.g_min2 ?_
  | with_reducible refine Wd.g_int1B ?_
  | with_reducible refine L2.iteT ?_
  | with_reducible refine L2.iteF ?_
  | ((with_reducible refine Wd.g_itT ?h1 ?_); (case h1 => exact rfl))
  | ((with_reducible refine Wd.g_itF ?h1 ?_); (case h1 => exact rfl))))
theorem g_join {t : TT} {a b : TS} {σ : L2.St} {H : Hp} {N : L2.St → Hp → Prop} {rt : VK} {bk ct : L2.St → Hp → Prop} (P : L2.St → Hp → Prop) (key : ∀ σ H, P σ H → N σ H) (h : ∀ N' : L2.St → Hp → Prop, (∀ σ H, P σ H → N' σ H) → tIfS t a b ⟨N', rt, bk, ct⟩ σ H) : tIfS t a b ⟨N, rt, bk, ct⟩ σ H := h N key
def biteD : Option (Int × Str) → PyData
  | none => .none
  | some (m, x) => .tuple [.int m, .str x]
theorem biteD_ok : ∀ b : Option (Int × Str), OkD 1 (biteD b)
  | none => .non
  | some (m, x) => .tup (by show 2 ≤ 100000; decide) (fun d hd => by
    simp only [List.mem_cons, List.not_mem_nil, or_false] at hd
    rcases hd with rfl | rfl
    · exact .int _
    · exact .str _)
theorem okd_ints {ns : List Int} (h : ns.length ≤ 100000) : OkD 1 (.list (ns.map PyData.int)) := .lst (by rw [List.length_map]; exact h) (fun d hd => by
  obtain ⟨z, _, rfl⟩ := List.mem_map.mp hd
  exact .int _)
theorem up_len (f : Int → Option Int) (e : Int) : ∀ (n : Nat) (l : Int), (up f e n l).length ≤ n
  | 0, l => Nat.le_refl _
  | n + 1, l => by
    cases hq : f l with
    | none => rw [up_none hq]; exact Nat.zero_le _
    | some q =>
      by_cases c : q > e
      · rw [up_far hq c]; exact Nat.zero_le _
      · rw [up_pat hq c]; exact Nat.succ_le_succ (up_len f e n q)
theorem up_asc {f : Int → Option Int} (hf : ∀ l q, f l = some q → l < q) (e : Int) : ∀ (n : Nat) (l : Int), Asc l (up f e n l)
  | 0, l => trivial
  | n + 1, l => by
    cases hq : f l with
    | none => rw [up_none hq]; trivial
    | some q =>
      by_cases c : q > e
      · rw [up_far hq c]; trivial
      · rw [up_pat hq c]; exact ⟨by have := hf l q hq; omega, up_asc hf e n q⟩
/-- lists of numbers in a list, as data -/
def llD (ms : List (List Int)) : PyData := .list (ms.map fun m => .list (m.map PyData.int))
theorem ll_can : ∀ ms : List (List Int), PyData.canLayAll0 (ms.map fun m => PyData.list (m.map PyData.int)) = true
  | [] => rfl
  | m :: ms => by simp [PyData.canLayAll0, PyData.canLay0, PySem.W.ke_canLayAll0 m, ll_can ms]
theorem ll_depth : ∀ ms : List (List Int), PyData.depthAll (ms.map fun m => PyData.list (m.map PyData.int)) ≤ 1
  | [] => Nat.zero_le _
  | m :: ms => by
    have := ll_depth ms
    simp only [List.map_cons, PyData.depthAll, PyData.depth, PySem.W.ke_depthAll m]
    omega
theorem ll_shaped (ms : List (List Int)) : SeqAt.shaped (llD ms) = true := by
  have := ll_depth ms
  unfold SeqAt.shaped llD
  rw [Bool.and_eq_true]
  exact ⟨by simp only [PyData.canLay0]; exact ll_can ms, decide_eq_true (by simp only [PyData.depth]; omega)⟩
theorem ll_eqv : ∀ ms : List (List Int), PyData.eqv (llD ms) (llD ms) = true := by
  intro ms
  unfold llD
  rw [PyData.eqv]
  induction ms with
  | nil => simp [PyData.eqvAll]
  | cons m ms ih => simp only [List.map_cons, PyData.eqvAll, ih, eqv_ints, decide_true, Bool.and_true]
theorem ll_dp {K : PySem.W.Frag} {S : Addr} {H : Hp} {R : Addr} {zs : List (Addr × List Int)} (t : RepL S H R zs) : Dp K H (.ref R) (llD (zs.map (·.2))) := by
  refine .lst (SqL.of t.at_) ?_
  have own := t.own
  clear t
  induction zs with
  | nil => exact .nil
  | cons z zs ih => exact .cons (dp_ints (SqL.of (own z List.mem_cons_self).1)) (ih fun y hy => own y (List.mem_cons_of_mem _ hy))
theorem Good.mono {B C : Int} {zs : List (Addr × List Int)} (g : Good B zs) (h : B ≤ C) : Good C zs := fun z hz => ⟨(g z hz).1, fun x hx => by have := (g z hz).2 x hx; omega⟩
theorem Good.le {zs : List (Addr × List Int)} (g : Good 10000 zs) : ∀ m ∈ zs.map (·.2), ∀ x ∈ m, x ≤ 1000000 := fun m hm x hx => by
  obtain ⟨z, hz, rfl⟩ := List.mem_map.mp hm
  have := (g z hz).2 x hx
  omega
theorem Good.pw {B : Int} {zs : List (Addr × List Int)} (g : Good B zs) : ∀ m ∈ zs.map (·.2), m.Pairwise (· < ·) := fun m hm => by
  obtain ⟨z, hz, rfl⟩ := List.mem_map.mp hm
  exact (g z hz).1
theorem ris_len {B : Int} : ∀ {m : List Int} {a : Int}, m.Pairwise (· < ·) → (∀ x ∈ m, a < x ∧ x ≤ B) → a ≤ B → (m.length : Int) ≤ B - a
  | [], a, _, _, h => by simp only [List.length_nil]; omega
  | y :: ys, a, p, h, _ => by
    rw [List.pairwise_cons] at p
    have hy := h y List.mem_cons_self
    have := ris_len (m := ys) (a := y) p.2 (fun x hx => ⟨p.1 x hx, (h x (List.mem_cons_of_mem _ hx)).2⟩) hy.2
    rw [List.length_cons]
    omega
theorem zs_at {zs : List (Addr × List Int)} {i : Nat} {x : V} (h : (zs.map fun z => V.ref z.1)[i]? = some x) : ∃ z, zs[i]? = some z ∧ x = .ref z.1 := by
  rw [List.getElem?_map] at h
  cases hq : zs[i]? with
  | none => rw [hq] at h; cases h
  | some z => rw [hq] at h; exact ⟨z, rfl, (Option.some.inj h).symm⟩
section
variable {P : Program} {w : World} {K : PySem.W.Frag} {mg : Str → Option Value} {base : Heap} {CW CT : Addr}
theorem use_bite {W S : Addr} {lo hi e : Int} {ps : List Int} {H : Hp} {Q : VK} {E : XK} (hW : SqT K H W [.int lo, .int hi]) (hS : SqL K H S (ps.map V.int)) (h0 : 0 ≤ lo) (h1 : lo ≤ hi) (e0 : -10 ≤ e) (e1 : e < 2 ^ 60) (a : Asc 0 ps)
    (k : ∀ H' v, Same H H' → Dp K H' v (biteD (bite lo hi e ps)) → Q v H') : sp_bite K ([.ref W, .ref S, .int e] ++ []) H Q E :=
  ⟨W, S, lo, hi, e, ps, rfl, hW, hS, h0, h1, e0, e1, a, fun H' s hb => k H' .non s (by rw [hb]; exact .non), fun m x H' q hb s hq => k H' (.ref q) s (by rw [hb]; exact .tup (SqT.of hq) (.cons (.int _) (.cons (.str _) .nil)))⟩
theorem use_found {W R : Addr} {lo hi bt e : Int} {zs : List (Addr × List Int)} {H : Hp} {Q : VK} {E : XK} {S : Addr} (hW : SqT K H W [.int lo, .int hi]) (okw : okW lo hi) (okb : okB bt) (rp : RepL S H R zs) (gd : Good 10000 zs) (ln : zs.length ≤ 500) (e0 : 0 ≤ e) (e1 : e ≤ 90000)
    (k : ∀ H' v, Same H H' → Dp K H' v (biteD (bite lo hi e (kp bt (zs.map (·.2)) e))) → Q v H') : sp_found_at K CW CT [.ref W, .int bt, .ref R, .int e] H Q E :=
  ⟨W, R, lo, hi, bt, e, _, _, rfl, hW, fun b => (b okw).elim, fun _ b => (b okb).elim, fun _ _ => ⟨rp.rep, by rw [List.length_map]; omega, gd.le, e0, e1, fun H' s hn => k H' .non s (by rw [hn]; exact .non), fun m' wd' H' q hs s hq => k H' (.ref q) s (by rw [hs]; exact .tup (SqT.of hq) (.cons (.int _) (.cons (.str _) .nil)))⟩⟩
theorem use_far {B H : Hp} {S : Addr} {n : Int} {Q : VK} {E : XK} (d : Dst K B H S) (k : ∀ H' v, Frm S H H' → Dst K B H' S → (v < 0 ∨ n < v) → Q (.int v) H') : sp_far K ([.ref S, .int n] ++ []) H Q E := ⟨B, S, n, rfl, d, k⟩
theorem use_same {n : Nat} {x y : V} {d : PyData} {H : Hp} {Q : VK} {E : XK} (hx : Dp K H x d) (hy : Dp K H y d) (ok : OkD n d) (k : ∀ H', Same H H' → Q (.bl true) H') : sp_same K (n + 1) ([x, y] ++ []) H Q E := ⟨x, y, d, rfl, hx, hy, ok, k⟩
theorem g_kind {CD : Addr} {cs : List Addr} {tl : XK → Hp → VK → Prop} {H : Hp} {Q : VK} (h : tl (EKind K CD cs Q) H Q) : TKind K CD cs tl H Q := h
/-- lists of one hall, told apart by their addresses alone -/
theorem g_neLL {a b S : Addr} {ys zs : List (Addr × List Int)} {H : Hp} {Q : VK} (h1 : RepL S H a ys) (h2 : RepL S H b zs) (e : ys.map (·.2) = zs.map (·.2)) (q : Q (.bl false) H) : rNeD K (.ref a) (.ref b) H Q :=
  ⟨_, _, ll_dp h1, ll_dp h2, ll_shaped _, ll_shaped _, by rw [e, ll_eqv]; exact q⟩

abbrev s_law : Stmt := top 36
theorem sc_law : FnScope ["_law_script", "_law_state", "_law_turn", "_law_gap", "_law_end", "_law_reports_here", "_law_moment", "_law_moments", "_law_beat", "_law_window_here", "_law_handed", "_law_due", "_law_again", "_law_found", "_law_bite_here", "_law_odd"] ["_law_script"] (C8.fnScope s_law) := C8.fnScope_by (by decide +kernel)
def lamQ : Str := "law.<locals>.<lambda>"
def sp_law (K : PySem.W.Frag) (Pt : Addr) : Sp := fun vs H Q _ => ∃ (sc : Addr) (ns : List Int), vs = [.ref sc] ∧ SqL K H sc (ns.map V.int) ∧ ns.length ≤ 63 ∧ H Pt = some (.tbl #[]) ∧ ∀ H', Q (.bl true) H'
theorem ok_law (T : TxtK K mg CW CT) {CD : Addr} {cs : List Addr} (R : Refs K mg CD cs) (RW : IsRef K CD cs 0 CW) (RT : IsRef K CD cs 7 CT) {c Pt : Addr} (TB : LamX.TabB base mg c Pt)
    {f fk : Addr} {fdk : FuncData} {dV kV doc pm ct oc : Value} {an od : Option Addr} {osl : Array (Option Value)}
    (lk : K.lookup f = some ⟨oc, od, .func (PySem.W.fnOf "law" "law" (C8.fnArgs s_law) (C8.fnBody s_law) (C8.fnScope s_law) dV kV doc pm an (.ref c) ct), osl⟩) (hcd : PySem.W.codeIn K (.ref c) "law" = true)
    (Dk : C8.Def K mg "_law_kind" s_law_kind fk fdk) (bk : Binds K fdk ["_law_work"] [])
    (g_law_start : C8.Cal P w K mg base 1 "_law_start" (sp_start K) []) (g_law_drawn : C8.Cal P w K mg base 1 "_law_drawn" (sp_drawn K) []) (g_law_far : C8.Cal P w K mg base 2 "_law_far" (sp_far K) []) (g_law_window : C8.Cal P w K mg base 2 "_law_window" (sp_window K) [])
    (g_law_tasks : C8.Cal P w K mg base 2 "_law_tasks" (sp_tasks K) []) (g_law_reports : C8.Cal P w K mg base 2 "_law_reports" (sp_reports K) []) (g_law_keeper : C8.Cal P w K mg base 1 "_law_keeper" (sp_keeper K) [])
    (g_law_bite : C8.Cal P w K mg base 1 "_law_bite" (sp_bite K) []) (g_law_same : C8.Cal P w K mg base 2 "_law_same" (sp_same K 2) [])
    (g_found_at : CalX P w K mg base 5 "found_at" (sp_found_at K CW CT)) (g_keeper_pats : CalX P w K mg base 3 "keeper_pats" (sp_keeper_pats K CT)) :
    FnOk P w K mg base C8.CX0 8 f (PySem.W.fnOf "law" "law" (C8.fnArgs s_law) (C8.fnBody s_law) (C8.fnScope s_law) dV kV doc pm an (.ref c) ct) ["_law_script"] (sp_law K Pt) := by
  refine fn_code lk hcd sc_law (fun vs H Q E h => ?_) fun A outer s H vs Q E hr h => ?_
  · obtain ⟨sc, ns, rfl, _⟩ := h; rfl
  · obtain ⟨sc, ns, rfl, hsc, hl, hT, q⟩ := h
    have nd := sc_law.nd
    obtain ⟨oc', od', dV', kV', doc', pm', an', cdv', ct', osl', rfl, lkk, hck⟩ := Dk.fn.ex
    refine ⟨_, (pss_cons (ps_set (i := 1) nd rfl (Or.inr rfl) (C8.pe_c g_law_start hr (by first | decide | exact Nat.le_refl _ | omega) (by rfl) (pa_cons (pv 0) pa_nil)))
      (pss_cons (ps_for PassesOwn.never rfl (pi_range1 rfl T.n_range (pa_cons pe_int pa_nil)) (pg_name (i := 2) nd rfl (Or.inl rfl)) (pss_cons (ps_set (i := 3) nd rfl (Or.inl rfl) (pe_ix (r := rIxL K) ix_list (pe_lst (pa_cons pe_int (pa_cons pe_int (pa_cons pe_int pa_nil)))) (C8.pe_c g_law_drawn hr (by first | decide | exact Nat.le_refl _ | omega) (by rfl) (pa_cons (pv 1) (pa_cons pe_int pa_nil))) (fun _ _ => rfl)))
      (pss_cons (ps_set (i := 4) nd rfl (Or.inr rfl) (C8.pe_c g_law_drawn hr (by first | decide | exact Nat.le_refl _ | omega) (by rfl) (pa_cons (pv 1) (pa_cons (pe_ix (r := rIxL K) ix_list (pe_lst (pa_cons pe_int (pa_cons pe_int (pa_cons pe_int (pa_cons pe_int pa_nil))))) (C8.pe_c g_law_drawn hr (by first | decide | exact Nat.le_refl _ | omega) (by rfl) (pa_cons (pv 1) (pa_cons pe_int pa_nil))) (fun _ _ => rfl)) pa_nil))))
      (pss_cons (ps_set (i := 5) nd rfl (Or.inl rfl) (C8.pe_c g_law_reports hr (by first | decide | exact Nat.le_refl _ | omega) (by rfl) (pa_cons (pv 1) (pa_cons (C8.pe_c g_law_tasks hr (by first | decide | exact Nat.le_refl _ | omega) (by rfl) (pa_cons (pv 1) (pa_cons pe_int (pa_cons (pv 3) pa_nil)))) (pa_cons (pe_op op_add (pv 4) pe_int) pa_nil)))))
      (pss_cons (ps_if (pt_cmpR op_eq (C8.pe_c g_law_drawn hr (by first | decide | exact Nat.le_refl _ | omega) (by rfl) (pa_cons (pv 1) (pa_cons pe_int pa_nil))) pe_int (nomark _)) (pss_one (ps_setLc (i := 5) (own := [("_law_moments", 7)]) (g := gName 7) (tt := tYes) rfl nd rfl rfl (sw_true rfl rfl rfl (by decide +kernel)) (pi_list (pv 5)) (blkOk_by (N := ["_law_script", "_law_state", "_law_turn", "_law_gap", "_law_end", "_law_reports_here", "_law_moment", "_law_moments", "_law_beat", "_law_window_here", "_law_handed", "_law_due", "_law_again", "_law_found", "_law_bite_here", "_law_odd"]) (sc := C8.fnScope s_law) (by decide +kernel)) (fun _ _ _ _ _ => pg_name (i := 7) nd rfl (Or.inl rfl)) (fun _ _ _ _ _ => pts_nil) (fun _ _ _ _ _ => (pe_lc (own := [("_law_moment", 6)]) (g := gName 6) (wi := iList K (tVar 7)) rfl nd (pi_list (pv 7)) (blkOk_by (by kernel_rfl)) (fun _ _ _ _ _ => pg_name (i := 6) nd rfl (Or.inl rfl)) (fun _ _ _ _ _ => pts_one (pt_cmpR op_gt (C8.pe_c g_law_drawn hr (by first | decide | exact Nat.le_refl _ | omega) (by rfl) (pa_cons (pv 1) (pa_cons pe_int pa_nil))) pe_int (nomark _))) (fun _ _ _ _ _ => (pv 6)))))) pss_nil)
      (pss_cons (ps_set (i := 8) nd rfl (Or.inl rfl) (pe_op op_add pe_int (C8.pe_c g_law_drawn hr (by first | decide | exact Nat.le_refl _ | omega) (by rfl) (pa_cons (pv 1) (pa_cons (pe_ix (r := rIxL K) ix_list (pe_lst (pa_cons pe_int (pa_cons pe_int (pa_cons pe_int pa_nil)))) (C8.pe_c g_law_drawn hr (by first | decide | exact Nat.le_refl _ | omega) (by rfl) (pa_cons (pv 1) (pa_cons pe_int pa_nil))) (fun _ _ => rfl)) pa_nil)))))
      (pss_cons (ps_set (i := 9) nd rfl (Or.inr rfl) (C8.pe_c g_law_window hr (by first | decide | exact Nat.le_refl _ | omega) (by rfl) (pa_cons (pv 1) (pa_cons pe_int pa_nil))))
      (pss_cons (ps_set (i := 10) nd rfl (Or.inr rfl) (pe_lc (own := [("_law_moments", 7)]) (g := gName 7) (tt := tYes) rfl nd (pi_list (pv 5)) (blkOk_by (N := ["_law_script", "_law_state", "_law_turn", "_law_gap", "_law_end", "_law_reports_here", "_law_moment", "_law_moments", "_law_beat", "_law_window_here", "_law_handed", "_law_due", "_law_again", "_law_found", "_law_bite_here", "_law_odd"]) (sc := C8.fnScope s_law) (by decide +kernel)) (fun _ _ _ _ _ => pg_name (i := 7) nd rfl (Or.inl rfl)) (fun _ _ _ _ _ => pts_nil) (fun _ _ _ _ _ => (pe_callTy (r := rListOf K) call_list1 (by rfl) T.n_list (by decide +kernel) (pa_cons (pv 7) pa_nil)))))
      (pss_cons (ps_set (i := 11) nd rfl (Or.inl rfl) (C8.pe_c g_law_keeper hr (by first | decide | exact Nat.le_refl _ | omega) (by rfl) (pa_cons (pv 8) (pa_cons (pv 5) (pa_cons (pv 4) pa_nil)))))
      (pss_cons (ps_for PassesOwn.never rfl (pi_range1 rfl T.n_range (pa_cons pe_int pa_nil)) (pg_name (i := 12) nd rfl (Or.inl rfl)) (pss_cons (ps_set (i := 13) nd rfl (Or.inl rfl) (pe_cX g_keeper_pats hr (by first | decide | exact Nat.le_refl _ | omega) (by rfl) (fun σ => passAt (W := fun _ _ _ _ => False) LamX.takes0 σ) (pa_cons (pv 8) (pa_cons (pv 10) (pa_cons (pv 4) pa_nil)))))
      (pss_cons (ps_if (PW.pt (pw_or (pt_not (pt_val (C8.pe_c g_law_same hr (by first | decide | exact Nat.le_refl _ | omega) (by rfl) (pa_cons (pv 13) (pa_cons (pv 11) pa_nil))))) (pw_or1 (pt_cmpR (r := rNeD K) (op_neD hr.units) (pv 10) (pv 5) (nomark _))))) (pss_one (ps_ret pe_bl)) pss_nil)
      (pss_one (ps_expr (pe_bmK (K := K) rfl PySem.F.plainAttrs_list PySem.F.slot_list_append PySem.F.type_list_append mt_append (pv 13) (pa_cons pe_int pa_nil)))))))
      (pss_cons (ps_set (i := 14) nd rfl (Or.inl rfl) (C8.pe_c g_law_bite hr (by first | decide | exact Nat.le_refl _ | omega) (by rfl) (pa_cons (pv 9) (pa_cons (pv 11) (pa_cons (pv 4) pa_nil)))))
      (pss_cons (ps_if (PW.pt (pw_or (pt_not (pt_val (C8.pe_c g_law_same hr (by first | decide | exact Nat.le_refl _ | omega) (by rfl) (pa_cons (pe_cX g_found_at hr (by first | decide | exact Nat.le_refl _ | omega) (by rfl) (fun σ => passAt (W := fun _ _ _ _ => False) LamX.takes0 σ) (pa_cons (pv 9) (pa_cons (pv 8) (pa_cons (pv 10) (pa_cons (pv 4) pa_nil))))) (pa_cons (pv 14) pa_nil))))) (pw_or1 (pt_cmpR (r := rNeD K) (op_neD hr.units) (pv 10) (pv 5) (nomark _))))) (pss_one (ps_ret pe_bl)) pss_nil)
      (pss_cons (ps_set (i := 15) nd rfl (Or.inr rfl) (pe_ix (r := rIxL K) ix_list (pe_lst (pa_cons pe_int (pa_cons (C8.pe_c g_law_far hr (by first | decide | exact Nat.le_refl _ | omega) (by rfl) (pa_cons (pv 1) (pa_cons pe_int pa_nil))) pa_nil))) (C8.pe_c g_law_drawn hr (by first | decide | exact Nat.le_refl _ | omega) (by rfl) (pa_cons (pv 1) (pa_cons pe_int pa_nil))) (fun _ _ => rfl)))
      (pss_cons (ps_if (pt_cmpR op_ne (LamX.pe_lamcall (k := 5) (T := [(Pt, lamQ)]) (TT := TKind K CD cs) (by rfl) Dk.mgf Dk.kp lkk hck bk sc_law_kind rfl (Or.inl rfl) (kind_gives R) TB rfl (List.mem_singleton.mpr rfl) (fun p hp _ => by rw [List.mem_singleton.mp hp]; rfl) hr (LamX.lamS_by (show LamX.lamSB (C8.fnScope s_law) _ = true by decide +kernel)) rfl (fun _ _ _ _ _ => rfl) (fun A outer s H E f c' hr2 => (pe_cX g_keeper_pats hr2 (by first | decide | exact Nat.le_refl _ | omega) (by rfl) (fun σ => passAt (takes_of rfl rfl rfl rfl) σ) (pa_cons (pv 15) (pa_cons (pv 10) (pa_cons (pv 4) pa_nil)))))) pe_str (nomark _)) (pss_one (ps_ret pe_bl)) pss_nil)
      (pss_cons (ps_if (pt_cmpR op_ne (LamX.pe_lamcall (k := 5) (T := [(Pt, lamQ)]) (TT := TKind K CD cs) (by rfl) Dk.mgf Dk.kp lkk hck bk sc_law_kind rfl (Or.inl rfl) (kind_gives R) TB rfl (List.mem_singleton.mpr rfl) (fun p hp _ => by rw [List.mem_singleton.mp hp]; rfl) hr (LamX.lamS_by (show LamX.lamSB (C8.fnScope s_law) _ = true by decide +kernel)) rfl (fun _ _ _ _ _ => rfl) (fun A outer s H E f c' hr2 => (pe_cX g_found_at hr2 (by first | decide | exact Nat.le_refl _ | omega) (by rfl) (fun σ => passAt (takes_of rfl rfl rfl rfl) σ) (pa_cons (pv 9) (pa_cons (pv 15) (pa_cons (pv 10) (pa_cons (pv 4) pa_nil))))))) pe_str (nomark _)) (pss_one (ps_ret pe_bl)) pss_nil)
      (pss_one (ps_if (pt_cmpR op_ne (LamX.pe_lamcall (k := 5) (T := [(Pt, lamQ)]) (TT := TKind K CD cs) (by rfl) Dk.mgf Dk.kp lkk hck bk sc_law_kind rfl (Or.inl rfl) (kind_gives R) TB rfl (List.mem_singleton.mpr rfl) (fun p hp _ => by rw [List.mem_singleton.mp hp]; rfl) hr (LamX.lamS_by (show LamX.lamSB (C8.fnScope s_law) _ = true by decide +kernel)) rfl (fun _ _ _ _ _ => rfl) (fun A outer s H E f c' hr2 => (pe_cX g_found_at hr2 (by first | decide | exact Nat.le_refl _ | omega) (by rfl) (fun σ => passAt (takes_of rfl rfl rfl rfl) σ) (pa_cons (pe_tup (pa_cons (pe_op op_add (pe_ix (r := rIxT K) ix_tup (pv 9) pe_int (fun _ _ => rfl)) pe_int) (pa_cons (pe_ix (r := rIxT K) ix_tup (pv 9) pe_int (fun _ _ => rfl)) pa_nil))) (pa_cons (pv 15) (pa_cons (pv 10) (pa_cons (pv 4) pa_nil))))))) pe_str (nomark _)) (pss_one (ps_ret pe_bl)) pss_nil)))))))))))))))))
      (pss_one (ps_ret pe_bl)))), ?_⟩
    walk_at "go"
    refine ⟨noT H, sc, ns, rfl, noT_list hsc, noT_same H, hl, fun H1 S nS s1 d1 => ?_⟩
    have tb1 : LamX.Tabs [(Pt, lamQ)] H1 := fun p hp => by
      rw [List.mem_singleton.mp hp]
      exact .nil (s1 _ _ hT)
    walk_at "go"
    refine w_range (by decide) (by decide) (fun i σ H' => ∃ v2 v3 v4 v5 v6 v7 v8 v9 v10 v11 v12 v13 v14 v15 : Option V, σ = [some (.ref sc), some (.ref S), v2, v3, v4, v5, v6, v7, v8, v9, v10, v11, v12, v13, v14, v15] ∧ Dst K (noT H) H' S ∧ LamX.Tabs [(Pt, lamQ)] H') ?_ ?_ ?_
    · exact ⟨_, _, _, _, _, _, _, _, _, _, _, _, _, _, rfl, d1, tb1⟩
    · clear d1 tb1
      rintro i σ H0 hi' ⟨v2, v3, v4, v5, v6, v7, v8, v9, v10, v11, v12, v13, v14, v15, rfl, d, tb⟩
      walk_at "go"
      intro l1 hl1
      have d1 := d.same (same_new (o := .lst [.int 12, .int 12, .int 60]) hl1)
      walk_at "go"
      refine use_drawn (n := 3) d1 (by decide) (by decide) fun H2 a f2 d2 a0 a1 => ?_
      have e2 := f2 _ _ (d.ne hl1) upd_same
      obtain ⟨x, hx, hx2⟩ := atI_mem (xs := [.int 12, .int 12, .int 60]) a0 a1
      refine g_ixL (SqL.of e2) hx2 ?_
      obtain ⟨gap, rfl, g0, g1⟩ : ∃ z, x = V.int z ∧ 1 ≤ z ∧ z ≤ 60 := by
        simp only [List.mem_cons, List.not_mem_nil, or_false] at hx
        rcases hx with rfl | rfl | rfl <;> exact ⟨_, rfl, by decide, by decide⟩
      have tb2 := tabs_frm tb d ((Frm.new (o := .lst [.int 12, .int 12, .int 60]) hl1).trans f2)
      clear e2 hx2 hx f2 d1
      walk_at "go"
      intro l3 hl3
      have d3 := d2.same (same_new (o := .lst [.int 30, .int 130, .int 130, .int 1000]) hl3)
      walk_at "go"
      refine use_drawn (n := 4) d3 (by decide) (by decide) fun H4 b f4 d4 b0 b1 => ?_
      have e4 := f4 _ _ (d2.ne hl3) upd_same
      obtain ⟨x, hx, hx2⟩ := atI_mem (xs := [.int 30, .int 130, .int 130, .int 1000]) b0 b1
      refine g_ixL (SqL.of e4) hx2 ?_
      obtain ⟨em, rfl, em0, em1⟩ : ∃ z, x = V.int z ∧ 0 < z ∧ z ≤ 1000 := by
        simp only [List.mem_cons, List.not_mem_nil, or_false] at hx
        rcases hx with rfl | rfl | rfl | rfl <;> exact ⟨_, rfl, by decide, by decide⟩
      have tb4 := tabs_frm tb2 d2 ((Frm.new (o := .lst [.int 30, .int 130, .int 130, .int 1000]) hl3).trans f4)
      clear e4 hx2 hx f4 d3
      walk_at "go"
      refine use_drawn d4 em0 (by omega) fun H5 e f5 d5 e0 e1 => ?_
      have tb5 := tabs_frm tb4 d4 f5
      walk_at "go"
      refine ⟨_, S, 4, gap, rfl, d5, by decide, by decide, g0, by omega, fun H6 L as f6 d6 tk la lp => ?_⟩
      walk_at "go"
      refine ⟨_, S, L, e + 5, as, rfl, d6, tk, by omega, by omega, by omega, fun H7 Rr zs f7 d7 _ rp gd lz => ?_⟩
      have tb7 := tabs_frm tb5 d5 (f6.trans f7)
      have zl : zs.length ≤ 4 := by omega
      clear tk la lp f6 f7 d6 tb5 tb4 f5 d4 d5 tb2 d2
      walk_at "gs"
      refine g_join (fun σ H' => ∃ (Rr : Addr) (zs : List (Addr × List Int)) (v6 v7 : Option V), σ = [some (.ref sc), some (.ref S), some (.int i), some (.int gap), some (.int e), some (.ref Rr), v6, v7, v8, v9, v10, v11, v12, v13, v14, v15] ∧
        Dst K (noT H) H' S ∧ LamX.Tabs [(Pt, lamQ)] H' ∧ RepL S H' Rr zs ∧ Good 10000 zs ∧ zs.length ≤ 4) ?_ ?_
      case refine_2 =>
        intro N' hk
        walk_at "go"
        refine use_drawn (n := 3) d7 (by decide) (by decide) fun H8 c f8 d8 c0 c1 => ?_
        have rp8 := rp.frm f8
        have gd' : Good 10000 zs := gd.mono (by omega)
        have tb8 := tabs_frm tb7 d7 f8
        walk_at "go"
        refine g_ite (fun hc => ?_) (fun hc => ?_)
        · walk_at "go"
          refine w_lcList (SqL.of rp8.at_) (fun D j H' => Frm S H8 H' ∧ Dst K (noT H) H' S ∧ ∃ ys, RepL S H' D ys ∧ Good 10000 ys ∧ ys.length = j) (fun D hD => ⟨.new hD, d8.same (same_new hD), [], ⟨upd_same, d8.ne hD, fun z hz => nomatch hz⟩, (fun z hz => nomatch hz), rfl⟩) (fun D j H' hD _ h => SqL.of (rp8.frm h.1).at_) (fun D j y H' hD hy h => ?_) (fun D H' hD h => ?_)
          · obtain ⟨f9, d9, ys, rp9, gd9, ly⟩ := h
            obtain ⟨z, hz, rfl⟩ := zs_at hy
            have jl := (List.getElem?_eq_some_iff.mp hz).1
            have zo := (rp8.frm f9).own z (List.mem_of_getElem? hz)
            have zg := gd' z (List.mem_of_getElem? hz)
            have zlen := ris_len (a := 0) zg.1 zg.2 (by decide)
            walk_at "go"
            refine ⟨rfl, ?_⟩
            walk_at "go"
            refine w_lcList (SqL.of zo.1) (fun M k H'' => Frm S H' H'' ∧ Dst K (noT H) H'' S ∧ ∃ acc : List Int, H'' M = some (.lst (acc.map V.int)) ∧ acc.Sublist (z.2.take k)) (fun M hM => ⟨.new hM, d9.same (same_new hM), [], upd_same, List.nil_sublist _⟩) (fun M k H'' hM _ h => SqL.of (h.1 _ _ zo.2.1 zo.1)) (fun M k y H'' hM hy h => ?_) (fun M H'' hM h => ?_)
            · obtain ⟨x, hx, rfl⟩ := map_at hy
              obtain ⟨f10, d10, acc, eM, sub⟩ := h
              have kl := (List.getElem?_eq_some_iff.mp hx).1
              have sl := sub.length_le
              have tl := List.length_take_le k z.2
              have ek : z.2.take (k + 1) = z.2.take k ++ [x] := by rw [List.take_add_one, hx]; rfl
              walk_at "go"
              refine ⟨rfl, ?_⟩
              walk_at "go"
              refine use_drawn (n := 4) d10 (by decide) (by decide) fun H13 u f13 d13 u0 u1 => ?_
              have eM13 := f13 _ _ (d9.ne hM) eM
              walk_at "go"
              refine g_ite (fun hu => ?_) (fun hu => ?_)
              · walk_at "go"
                exact ⟨_, eM13, by rw [sizeLine_eq, List.length_map]; omega, Frm.mut (f10.trans f13) hM, d13.mut (d9.ne hM) (d9.fresh hM), acc ++ [x], by rw [upd_same, List.map_append]; rfl, by rw [ek]; exact sub.append (List.Sublist.refl [x])⟩
              · exact ⟨f10.trans f13, d13, acc, eM13, by rw [ek]; exact sub.trans (List.sublist_append_left _ _)⟩
            · obtain ⟨f10, d10, acc, eM, sub⟩ := h
              rw [List.length_map, List.take_length] at sub
              have rp10 := rp9.frm f10
              refine ⟨_, rp10.at_, by rw [sizeLine_eq, List.length_map]; omega, Frm.mut (f9.trans f10) hD, d10.mut (d8.ne hD) (d8.fresh hD), ys ++ [(M, acc)], rp10.put eM (d9.ne hM) (ne_of_none rp9.at_ hM).symm, fun y hy => ?_, by rw [List.length_append, ly]; rfl⟩
              rw [List.mem_append, List.mem_singleton] at hy
              rcases hy with hy | rfl
              · exact gd9 y hy
              · exact ⟨zg.1.sublist sub, fun x hx => zg.2 x (sub.subset hx)⟩
          · obtain ⟨f9, d9, ys, rp9, gd9, ly⟩ := h
            rw [List.length_map] at ly
            walk_at "go"
            exact hk _ _ ⟨D, ys, _, _, rfl, d9, tabs_frm tb8 d8 f9, rp9, gd9, by omega⟩
        · walk_at "go"
          exact hk _ _ ⟨Rr, zs, _, _, rfl, d8, tb8, rp8, gd', zl⟩
      case refine_1 =>
        clear rp gd lz zl d7 tb7
        rintro σ H7 ⟨Rr, zs, v6, v7, rfl, d7, tb7, rp, gd, zl⟩
        walk_at "go"
        intro l8 hl8
        have d8 := d7.same (same_new (o := .lst [.int 4, .int 12, .int 60]) hl8)
        walk_at "go"
        refine use_drawn (n := 3) d8 (by decide) (by decide) fun H9 a f9 d9 a0 a1 => ?_
        have e9 := f9 _ _ (d7.ne hl8) upd_same
        obtain ⟨x, hx, hx2⟩ := atI_mem (xs := [.int 4, .int 12, .int 60]) a0 a1
        refine g_ixL (SqL.of e9) hx2 ?_
        obtain ⟨bm, rfl, bm0, bm1⟩ : ∃ z, x = V.int z ∧ 0 < z ∧ z ≤ 60 := by
          simp only [List.mem_cons, List.not_mem_nil, or_false] at hx
          rcases hx with rfl | rfl | rfl <;> exact ⟨_, rfl, by decide, by decide⟩
        have f79 : Frm S H7 H9 := (Frm.new (o := .lst [.int 4, .int 12, .int 60]) hl8).trans f9
        have rp9 := rp.frm f79
        have tb9 := tabs_frm tb7 d7 f79
        clear e9 hx2 hx f79 f9 d8 rp tb7
        walk_at "go"
        refine use_drawn d9 bm0 (by omega) fun H10 bt f10 d10 bt0 bt1 => ?_
        have okb : okB (1 + bt) := ⟨by omega, by omega⟩
        have rp10 := rp9.frm f10
        have tb10 := tabs_frm tb9 d9 f10
        clear rp9 tb9 f10 d9
        walk_at "go"
        refine ⟨_, S, 40, rfl, d10, by decide, by decide, fun H11 W lo hi f11 d11 hW nW l0 l1 l2 => ?_⟩
        have rp11 := rp10.frm f11
        have tb11 := tabs_frm tb10 d10 f11
        have okw : okW lo hi := ⟨l0, l1, by omega⟩
        clear rp10 tb10 f11 d10
        walk_at "go"
        refine w_lcList (SqL.of rp11.at_) (fun D j H' => Same H11 H' ∧ ∃ ys, RepL S H' D ys ∧ ys.map (·.2) = (zs.take j).map (·.2)) (fun D hD => ⟨same_new hD, [], ⟨upd_same, d11.ne hD, fun z hz => nomatch hz⟩, rfl⟩) (fun D j H' hD _ h => SqL.of (rp11.frm (.of h.1)).at_) (fun D j y H' hD hy h => ?_) (fun Hd H12 hHd h => ?_)
        · obtain ⟨s12, ys, rp12, ey⟩ := h
          obtain ⟨z, hz, rfl⟩ := zs_at hy
          have jl := (List.getElem?_eq_some_iff.mp hz).1
          have zo := (rp11.frm (.of s12)).own z (List.mem_of_getElem? hz)
          have ly : ys.length ≤ 4 := by
            have := congrArg List.length ey
            rw [List.length_map, List.length_map] at this
            have := List.length_take_le j zs
            omega
          walk_at "go"
          refine ⟨rfl, ?_⟩
          walk_at "go"
          refine g_listOf (SqL.of zo.1) ?_
          intro M hM
          have sM := same_new (o := .lst (z.2.map V.int)) hM
          have rp13 := rp12.frm (.of sM)
          refine ⟨_, rp13.at_, by rw [sizeLine_eq, List.length_map]; omega, Wd.Same.mut (s12.trans sM) hD, ys ++ [(M, z.2)], rp13.put upd_same ((d11.same s12).ne hM) (ne_of_none rp12.at_ hM).symm, ?_⟩
          rw [List.map_append, ey, List.take_add_one, hz, List.map_append]
          rfl
        obtain ⟨s12, ys, rp12, ey⟩ := h
        rw [List.length_map, List.take_length] at ey
        have gy : Good 10000 ys := fun y hy => by
          have : y.2 ∈ ys.map (·.2) := List.mem_map.mpr ⟨y, hy, rfl⟩
          rw [ey] at this
          obtain ⟨z, hz, e⟩ := List.mem_map.mp this
          rw [← e]; exact gd z hz
        have lys : ys.length ≤ 4 := by
          have := congrArg List.length ey
          rw [List.length_map, List.length_map] at this
          omega
        have rz12 := rp11.frm (.of s12)
        have d12 := d11.same s12
        have tb12 := tabs_same tb11 s12
        have hW12 := s12 _ _ hW
        clear s12 rp11 d11 tb11 hW
        walk_at "go"
        refine ⟨1 + bt, e, Rr, _, _, rfl, by omega, rz12.rep, gd.pw, by rw [List.length_map]; omega, by omega, by omega, fun H13 Du s13 hDu eDu => ?_⟩
        have kl : (kp (1 + bt) (zs.map (·.2)) e).length ≤ 2000 := by
          have := up_len (nx (1 + bt) (zs.map (·.2))) e (e.toNat + 1) 0
          show (up (nx (1 + bt) (zs.map (·.2))) e (e.toNat + 1) 0).length ≤ 2000
          omega
        have ka : Asc 0 (kp (1 + bt) (zs.map (·.2)) e) := up_asc (fun l q h => nx_gt okb.1 h) e _ 0
        have rz := rz12.frm (.of s13)
        have ry := rp12.frm (.of s13)
        have d13 := d12.same s13
        have tb13 := tabs_same tb12 s13
        have hW13 := s13 _ _ hW12
        clear s13 rz12 rp12 d12 tb12 hW12 hDu
        walk_at "go"
        refine w_range (by decide) (by decide) (fun j σ H' => ∃ v12 v13 : Option V, σ = [some (.ref sc), some (.ref S), some (.int i), some (.int gap), some (.int e), some (.ref Rr), v6, v7, some (.int (1 + bt)), some (.ref W), some (.ref Hd), some (.ref Du), v12, v13, v14, v15] ∧ Same H13 H') ?_ ?_ ?_
        · exact ⟨_, _, rfl, fun _ _ h => h⟩
        · rintro j σ H14 hj ⟨v12, v13, rfl, s14⟩
          have ry14 := ry.frm (.of s14)
          walk_at "go"
          refine ⟨1 + bt, e, Hd, _, _, rfl, fun bad => (bad okb).elim, fun _ => ⟨ry14.rep, by rw [List.length_map]; omega, gy.le, by omega, by omega, fun H15 Fo s15 hFo eFo => ?_⟩⟩
          rw [ey] at eFo
          have eDu15 := s15 _ _ (s14 _ _ eDu)
          walk_at "go"
          refine use_same (n := 1) (dp_ints (SqL.of eFo)) (dp_ints (SqL.of eDu15)) (okd_ints (by omega)) fun H16 s16 => ?_
          walk_at "go"
          refine g_neLL (((ry14.frm (.of s15)).frm (.of s16))) (((rz.frm (.of s14)).frm (.of s15)).frm (.of s16)) ey ?_
          walk_at "go"
          have eFo16 := s16 _ _ eFo
          refine g_tyL eFo16 ?_
          walk_at "go"
          refine g_append eFo16 (by rw [List.length_map]; omega) ?_
          walk_at "go"
          exact ⟨_, _, rfl, Wd.Same.mut ((s14.trans s15).trans s16) (Wd.Same.back s14 hFo)⟩
        rintro σ H14 ⟨v12, v13, rfl, s14⟩
        have rz14 := rz.frm (.of s14)
        have ry14 := ry.frm (.of s14)
        have d14 := d13.same s14
        have tb14 := tabs_same tb13 s14
        have hW14 := s14 _ _ hW13
        have eDu14 := s14 _ _ eDu
        clear s14 rz ry d13 tb13 hW13 eDu
        walk_at "go"
        refine use_bite (SqT.of hW14) (SqL.of eDu14) l0 l1 (by omega) (by omega) ka fun H15 y s15 dy => ?_
        have hW15 := s15 _ _ hW14
        have ry15 := ry14.frm (.of s15)
        have rz15 := rz14.frm (.of s15)
        have d15 := d14.same s15
        have tb15 := tabs_same tb14 s15
        clear s15 rz14 ry14 d14 tb14 hW14 eDu14
        walk_at "go"
        refine use_found (SqT.of hW15) okw okb ry15 gy (by omega) (by omega) (by omega) fun H16 z s16 dz => ?_
        rw [ey] at dz
        walk_at "go"
        refine use_same dz (Dp_same s16 _ _ dy) (biteD_ok _) fun H17 s17 => ?_
        have s5 := s16.trans s17
        walk_at "go"
        refine g_neLL (ry15.frm (.of s5)) (rz15.frm (.of s5)) ey ?_
        have hW17 := s5 _ _ hW15
        have d17 := d15.same s5
        have tb17 := tabs_same tb15 s5
        clear s5 s16 s17 dz dy d15 tb15 hW15 rz15 ry15
        walk_at "go"
        refine use_far d17 fun H18 fr f18 d18 hfr => ?_
        walk_at "go"
        intro l9 hl9
        have d19 := d18.same (same_new (o := .lst [.int 0, .int fr]) hl9)
        walk_at "go"
        refine use_drawn (n := 2) d19 (by decide) (by decide) fun H20 u f20 d20 u0 u1 => ?_
        have e20 := f20 _ _ (d18.ne hl9) upd_same
        obtain ⟨x, hx, hx2⟩ := atI_mem (xs := [.int 0, .int fr]) u0 u1
        refine g_ixL (SqL.of e20) hx2 ?_
        obtain ⟨odd, rfl, bad⟩ : ∃ z, x = V.int z ∧ ¬ okB z := by
          simp only [List.mem_cons, List.not_mem_nil, or_false] at hx
          rcases hx with rfl | rfl
          · exact ⟨_, rfl, fun z => by have := z.1; omega⟩
          · exact ⟨_, rfl, fun z => by have := z.1; have := z.2; omega⟩
        have f1720 : Frm S H17 H20 := (f18.trans (.new (o := .lst [.int 0, .int fr]) hl9)).trans f20
        have hW20 := f1720 _ _ nW hW17
        have tb20 := tabs_frm tb17 d17 f1720
        clear e20 hx2 hx f1720 f20 d19 f18 d17 tb17 hW17 d18
        walk_at "go"
        refine g_lam tb20 fun H21 x21 tb21 => ?_
        have d21 := d20.ext x21
        have hW21 := x21 _ _ hW20 (fun _ z => nomatch z)
        refine g_kind ?_
        walk_at "go"
        refine ⟨odd, e, Hd, [], [], rfl, fun _ => ?_, fun ok => (bad ok).elim⟩
        refine ⟨7, CT, "BadBeat", rfl, rfl, RT, rfl, fun H22 s22 => ?_⟩
        walk_at "go"
        refine g_lam (tabs_same tb21 s22) fun H23 x23 tb23 => ?_
        have d23 := (d21.same s22).ext x23
        have hW23 := x23 _ _ (s22 _ _ hW21) (fun _ z => nomatch z)
        refine g_kind ?_
        walk_at "go"
        refine ⟨W, Hd, lo, hi, odd, e, [], [], rfl, SqT.of hW23, fun b => (b okw).elim, fun _ _ => ?_, fun _ b => (bad b).elim⟩
        refine ⟨7, CT, "BadBeat", rfl, rfl, RT, rfl, fun H24 s24 => ?_⟩
        walk_at "go"
        refine g_lam (tabs_same tb23 s24) fun H25 x25 tb25 => ?_
        have d25 := (d23.same s24).ext x25
        have hW25 := x25 _ _ (s24 _ _ hW23) (fun _ z => nomatch z)
        refine g_kind ?_
        walk_at "go"
        refine g_ixT (SqT.of hW25) rfl ?_
        walk_at "go"
        refine g_ixT (SqT.of hW25) rfl ?_
        walk_at "go"
        intro tw htw
        have sw := same_new (o := .tup [.int (hi + 1), .int hi]) htw
        walk_at "go"
        refine ⟨tw, Hd, hi + 1, hi, odd, e, [], [], rfl, SqT.of upd_same, fun _ => ?_, fun ok => absurd ok.2.1 (by omega), fun ok => absurd ok.2.1 (by omega)⟩
        refine ⟨0, CW, "BadWindow", rfl, rfl, RW, rfl, fun H26 s26 => ?_⟩
        walk_at "go"
        exact ⟨_, _, _, _, _, _, _, _, _, _, _, _, _, _, rfl, (d25.same sw).same s26, tabs_same (tabs_same tb25 sw) s26⟩
    · rintro σ H' ⟨v2, v3, v4, v5, v6, v7, v8, v9, v10, v11, v12, v13, v14, v15, rfl, d, tb⟩
      walk_at "go"
      exact q H'
end
end K11
namespace K11
open PySem PySem.Spec PyProof.Rows L2 Wd
theorem law_at {l : PySem.W.OpenLaw} {w : World} {K : PySem.W.Frag} {h : Heap} {mg : Str → Option Value} {fa : Addr} (X : K.In h) (G : h.Ns mainGlobals mg) (hfa : mg "law" = some (.ref fa))
    {f_is_number : Addr} {oc_is_number kV_is_number dc_is_number pm_is_number cd_is_number ct_is_number : Value} {od_is_number an_is_number : Option Addr} {sl_is_number : Array (Option Value)}
    {f_is_range : Addr} {oc_is_range kV_is_range dc_is_range pm_is_range cd_is_range ct_is_range : Value} {od_is_range an_is_range : Option Addr} {sl_is_range : Array (Option Value)}
    {f_check_window : Addr} {oc_check_window kV_check_window dc_check_window pm_check_window cd_check_window ct_check_window : Value} {od_check_window an_check_window : Option Addr} {sl_check_window : Array (Option Value)}
    {f_first_bite : Addr} {oc_first_bite kV_first_bite dc_first_bite pm_first_bite cd_first_bite ct_first_bite : Value} {od_first_bite an_first_bite : Option Addr} {sl_first_bite : Array (Option Value)}
    {f_bitten_at : Addr} {oc_bitten_at kV_bitten_at dc_bitten_at pm_bitten_at cd_bitten_at ct_bitten_at : Value} {od_bitten_at an_bitten_at : Option Addr} {sl_bitten_at : Array (Option Value)}
    {f_check_beat : Addr} {oc_check_beat kV_check_beat dc_check_beat pm_check_beat cd_check_beat ct_check_beat : Value} {od_check_beat an_check_beat : Option Addr} {sl_check_beat : Array (Option Value)}
    {f_first_behind : Addr} {oc_first_behind kV_first_behind dc_first_behind pm_first_behind cd_first_behind ct_first_behind : Value} {od_first_behind an_first_behind : Option Addr} {sl_first_behind : Array (Option Value)}
    {f_keeper_pats : Addr} {oc_keeper_pats kV_keeper_pats dc_keeper_pats pm_keeper_pats cd_keeper_pats ct_keeper_pats : Value} {od_keeper_pats an_keeper_pats : Option Addr} {sl_keeper_pats : Array (Option Value)}
    {f_found_at : Addr} {oc_found_at kV_found_at dc_found_at pm_found_at cd_found_at ct_found_at : Value} {od_found_at an_found_at : Option Addr} {sl_found_at : Array (Option Value)}
    {f_law_start : Addr} {oc_law_start kV_law_start dc_law_start pm_law_start cd_law_start ct_law_start : Value} {od_law_start an_law_start : Option Addr} {sl_law_start : Array (Option Value)}
    {f_law_drawn : Addr} {oc_law_drawn kV_law_drawn dc_law_drawn pm_law_drawn cd_law_drawn ct_law_drawn : Value} {od_law_drawn an_law_drawn : Option Addr} {sl_law_drawn : Array (Option Value)}
    {f_law_same : Addr} {oc_law_same kV_law_same dc_law_same pm_law_same cd_law_same ct_law_same : Value} {od_law_same an_law_same : Option Addr} {sl_law_same : Array (Option Value)}
    {f_law_kind : Addr} {oc_law_kind kV_law_kind dc_law_kind pm_law_kind cd_law_kind ct_law_kind : Value} {od_law_kind an_law_kind : Option Addr} {sl_law_kind : Array (Option Value)}
    {f_law_far : Addr} {oc_law_far kV_law_far dc_law_far pm_law_far cd_law_far ct_law_far : Value} {od_law_far an_law_far : Option Addr} {sl_law_far : Array (Option Value)}
    {f_law_window : Addr} {oc_law_window kV_law_window dc_law_window pm_law_window cd_law_window ct_law_window : Value} {od_law_window an_law_window : Option Addr} {sl_law_window : Array (Option Value)}
    {f_law_bite : Addr} {oc_law_bite kV_law_bite dc_law_bite pm_law_bite cd_law_bite ct_law_bite : Value} {od_law_bite an_law_bite : Option Addr} {sl_law_bite : Array (Option Value)}
    {f_law_keeper : Addr} {oc_law_keeper kV_law_keeper dc_law_keeper pm_law_keeper cd_law_keeper ct_law_keeper : Value} {od_law_keeper an_law_keeper : Option Addr} {sl_law_keeper : Array (Option Value)}
    {f_law_tasks : Addr} {oc_law_tasks kV_law_tasks dc_law_tasks pm_law_tasks cd_law_tasks ct_law_tasks : Value} {od_law_tasks an_law_tasks : Option Addr} {sl_law_tasks : Array (Option Value)}
    {f_law_reports : Addr} {oc_law_reports kV_law_reports dc_law_reports pm_law_reports cd_law_reports ct_law_reports : Value} {od_law_reports an_law_reports : Option Addr} {sl_law_reports : Array (Option Value)}
    {fa0 : Addr} {oc_law kV_law dc_law pm_law ct_law : Value} {od_law an_law : Option Addr} {sl_law : Array (Option Value)}
    {cc Pt : Addr} {occ : Value} {odc : Option Addr} {slc : Array (Option Value)} {vsc : Array Value}
    {t_GREATEST_HIGH : Tok}
    {t_GREATEST_BEAT : Tok}
    {CD C_0 C_1 C_2 C_3 C_4 C_5 C_6 C_7 C_8 : Addr}
    (a_is_number : PySem.W.nsIn K mainGlobals "is_number" = some (some (.ref f_is_number)))
    (l_is_number : K.lookup f_is_number = some ⟨oc_is_number, od_is_number, .func (PySem.W.fnOf "is_number" "is_number" (C8.fnArgs s_is_number) (C8.fnBody s_is_number) (C8.fnScope s_is_number) .none kV_is_number dc_is_number pm_is_number an_is_number cd_is_number ct_is_number), sl_is_number⟩)
    (c_is_number : PySem.W.codeIn K cd_is_number "is_number" = true)
    (k_is_number : PySem.W.keepIn K (.ref f_is_number) = true)
    (a_is_range : PySem.W.nsIn K mainGlobals "is_range" = some (some (.ref f_is_range)))
    (l_is_range : K.lookup f_is_range = some ⟨oc_is_range, od_is_range, .func (PySem.W.fnOf "is_range" "is_range" (C8.fnArgs s_is_range) (C8.fnBody s_is_range) (C8.fnScope s_is_range) .none kV_is_range dc_is_range pm_is_range an_is_range cd_is_range ct_is_range), sl_is_range⟩)
    (c_is_range : PySem.W.codeIn K cd_is_range "is_range" = true)
    (k_is_range : PySem.W.keepIn K (.ref f_is_range) = true)
    (a_check_window : PySem.W.nsIn K mainGlobals "check_window" = some (some (.ref f_check_window)))
    (l_check_window : K.lookup f_check_window = some ⟨oc_check_window, od_check_window, .func (PySem.W.fnOf "check_window" "check_window" (C8.fnArgs s_check_window) (C8.fnBody s_check_window) (C8.fnScope s_check_window) .none kV_check_window dc_check_window pm_check_window an_check_window cd_check_window ct_check_window), sl_check_window⟩)
    (c_check_window : PySem.W.codeIn K cd_check_window "check_window" = true)
    (k_check_window : PySem.W.keepIn K (.ref f_check_window) = true)
    (a_first_bite : PySem.W.nsIn K mainGlobals "first_bite" = some (some (.ref f_first_bite)))
    (l_first_bite : K.lookup f_first_bite = some ⟨oc_first_bite, od_first_bite, .func (PySem.W.fnOf "first_bite" "first_bite" (C8.fnArgs s_first_bite) (C8.fnBody s_first_bite) (C8.fnScope s_first_bite) .none kV_first_bite dc_first_bite pm_first_bite an_first_bite cd_first_bite ct_first_bite), sl_first_bite⟩)
    (c_first_bite : PySem.W.codeIn K cd_first_bite "first_bite" = true)
    (k_first_bite : PySem.W.keepIn K (.ref f_first_bite) = true)
    (a_bitten_at : PySem.W.nsIn K mainGlobals "bitten_at" = some (some (.ref f_bitten_at)))
    (l_bitten_at : K.lookup f_bitten_at = some ⟨oc_bitten_at, od_bitten_at, .func (PySem.W.fnOf "bitten_at" "bitten_at" (C8.fnArgs s_bitten_at) (C8.fnBody s_bitten_at) (C8.fnScope s_bitten_at) .none kV_bitten_at dc_bitten_at pm_bitten_at an_bitten_at cd_bitten_at ct_bitten_at), sl_bitten_at⟩)
    (c_bitten_at : PySem.W.codeIn K cd_bitten_at "bitten_at" = true)
    (k_bitten_at : PySem.W.keepIn K (.ref f_bitten_at) = true)
    (a_check_beat : PySem.W.nsIn K mainGlobals "check_beat" = some (some (.ref f_check_beat)))
    (l_check_beat : K.lookup f_check_beat = some ⟨oc_check_beat, od_check_beat, .func (PySem.W.fnOf "check_beat" "check_beat" (C8.fnArgs s_check_beat) (C8.fnBody s_check_beat) (C8.fnScope s_check_beat) .none kV_check_beat dc_check_beat pm_check_beat an_check_beat cd_check_beat ct_check_beat), sl_check_beat⟩)
    (c_check_beat : PySem.W.codeIn K cd_check_beat "check_beat" = true)
    (k_check_beat : PySem.W.keepIn K (.ref f_check_beat) = true)
    (a_first_behind : PySem.W.nsIn K mainGlobals "first_behind" = some (some (.ref f_first_behind)))
    (l_first_behind : K.lookup f_first_behind = some ⟨oc_first_behind, od_first_behind, .func (PySem.W.fnOf "first_behind" "first_behind" (C8.fnArgs s_first_behind) (C8.fnBody s_first_behind) (C8.fnScope s_first_behind) .none kV_first_behind dc_first_behind pm_first_behind an_first_behind cd_first_behind ct_first_behind), sl_first_behind⟩)
    (c_first_behind : PySem.W.codeIn K cd_first_behind "first_behind" = true)
    (k_first_behind : PySem.W.keepIn K (.ref f_first_behind) = true)
    (a_keeper_pats : PySem.W.nsIn K mainGlobals "keeper_pats" = some (some (.ref f_keeper_pats)))
    (l_keeper_pats : K.lookup f_keeper_pats = some ⟨oc_keeper_pats, od_keeper_pats, .func (PySem.W.fnOf "keeper_pats" "keeper_pats" (C8.fnArgs s_keeper_pats) (C8.fnBody s_keeper_pats) (C8.fnScope s_keeper_pats) .none kV_keeper_pats dc_keeper_pats pm_keeper_pats an_keeper_pats cd_keeper_pats ct_keeper_pats), sl_keeper_pats⟩)
    (c_keeper_pats : PySem.W.codeIn K cd_keeper_pats "keeper_pats" = true)
    (k_keeper_pats : PySem.W.keepIn K (.ref f_keeper_pats) = true)
    (a_found_at : PySem.W.nsIn K mainGlobals "found_at" = some (some (.ref f_found_at)))
    (l_found_at : K.lookup f_found_at = some ⟨oc_found_at, od_found_at, .func (PySem.W.fnOf "found_at" "found_at" (C8.fnArgs s_found_at) (C8.fnBody s_found_at) (C8.fnScope s_found_at) .none kV_found_at dc_found_at pm_found_at an_found_at cd_found_at ct_found_at), sl_found_at⟩)
    (c_found_at : PySem.W.codeIn K cd_found_at "found_at" = true)
    (k_found_at : PySem.W.keepIn K (.ref f_found_at) = true)
    (a_law_start : PySem.W.nsIn K mainGlobals "_law_start" = some (some (.ref f_law_start)))
    (l_law_start : K.lookup f_law_start = some ⟨oc_law_start, od_law_start, .func (PySem.W.fnOf "_law_start" "_law_start" (C8.fnArgs s_law_start) (C8.fnBody s_law_start) (C8.fnScope s_law_start) .none kV_law_start dc_law_start pm_law_start an_law_start cd_law_start ct_law_start), sl_law_start⟩)
    (c_law_start : PySem.W.codeIn K cd_law_start "_law_start" = true)
    (k_law_start : PySem.W.keepIn K (.ref f_law_start) = true)
    (a_law_drawn : PySem.W.nsIn K mainGlobals "_law_drawn" = some (some (.ref f_law_drawn)))
    (l_law_drawn : K.lookup f_law_drawn = some ⟨oc_law_drawn, od_law_drawn, .func (PySem.W.fnOf "_law_drawn" "_law_drawn" (C8.fnArgs s_law_drawn) (C8.fnBody s_law_drawn) (C8.fnScope s_law_drawn) .none kV_law_drawn dc_law_drawn pm_law_drawn an_law_drawn cd_law_drawn ct_law_drawn), sl_law_drawn⟩)
    (c_law_drawn : PySem.W.codeIn K cd_law_drawn "_law_drawn" = true)
    (k_law_drawn : PySem.W.keepIn K (.ref f_law_drawn) = true)
    (a_law_same : PySem.W.nsIn K mainGlobals "_law_same" = some (some (.ref f_law_same)))
    (l_law_same : K.lookup f_law_same = some ⟨oc_law_same, od_law_same, .func (PySem.W.fnOf "_law_same" "_law_same" (C8.fnArgs s_law_same) (C8.fnBody s_law_same) (C8.fnScope s_law_same) .none kV_law_same dc_law_same pm_law_same an_law_same cd_law_same ct_law_same), sl_law_same⟩)
    (c_law_same : PySem.W.codeIn K cd_law_same "_law_same" = true)
    (k_law_same : PySem.W.keepIn K (.ref f_law_same) = true)
    (a_law_kind : PySem.W.nsIn K mainGlobals "_law_kind" = some (some (.ref f_law_kind)))
    (l_law_kind : K.lookup f_law_kind = some ⟨oc_law_kind, od_law_kind, .func (PySem.W.fnOf "_law_kind" "_law_kind" (C8.fnArgs s_law_kind) (C8.fnBody s_law_kind) (C8.fnScope s_law_kind) .none kV_law_kind dc_law_kind pm_law_kind an_law_kind cd_law_kind ct_law_kind), sl_law_kind⟩)
    (c_law_kind : PySem.W.codeIn K cd_law_kind "_law_kind" = true)
    (k_law_kind : PySem.W.keepIn K (.ref f_law_kind) = true)
    (a_law_far : PySem.W.nsIn K mainGlobals "_law_far" = some (some (.ref f_law_far)))
    (l_law_far : K.lookup f_law_far = some ⟨oc_law_far, od_law_far, .func (PySem.W.fnOf "_law_far" "_law_far" (C8.fnArgs s_law_far) (C8.fnBody s_law_far) (C8.fnScope s_law_far) .none kV_law_far dc_law_far pm_law_far an_law_far cd_law_far ct_law_far), sl_law_far⟩)
    (c_law_far : PySem.W.codeIn K cd_law_far "_law_far" = true)
    (k_law_far : PySem.W.keepIn K (.ref f_law_far) = true)
    (a_law_window : PySem.W.nsIn K mainGlobals "_law_window" = some (some (.ref f_law_window)))
    (l_law_window : K.lookup f_law_window = some ⟨oc_law_window, od_law_window, .func (PySem.W.fnOf "_law_window" "_law_window" (C8.fnArgs s_law_window) (C8.fnBody s_law_window) (C8.fnScope s_law_window) .none kV_law_window dc_law_window pm_law_window an_law_window cd_law_window ct_law_window), sl_law_window⟩)
    (c_law_window : PySem.W.codeIn K cd_law_window "_law_window" = true)
    (k_law_window : PySem.W.keepIn K (.ref f_law_window) = true)
    (a_law_bite : PySem.W.nsIn K mainGlobals "_law_bite" = some (some (.ref f_law_bite)))
    (l_law_bite : K.lookup f_law_bite = some ⟨oc_law_bite, od_law_bite, .func (PySem.W.fnOf "_law_bite" "_law_bite" (C8.fnArgs s_law_bite) (C8.fnBody s_law_bite) (C8.fnScope s_law_bite) .none kV_law_bite dc_law_bite pm_law_bite an_law_bite cd_law_bite ct_law_bite), sl_law_bite⟩)
    (c_law_bite : PySem.W.codeIn K cd_law_bite "_law_bite" = true)
    (k_law_bite : PySem.W.keepIn K (.ref f_law_bite) = true)
    (a_law_keeper : PySem.W.nsIn K mainGlobals "_law_keeper" = some (some (.ref f_law_keeper)))
    (l_law_keeper : K.lookup f_law_keeper = some ⟨oc_law_keeper, od_law_keeper, .func (PySem.W.fnOf "_law_keeper" "_law_keeper" (C8.fnArgs s_law_keeper) (C8.fnBody s_law_keeper) (C8.fnScope s_law_keeper) .none kV_law_keeper dc_law_keeper pm_law_keeper an_law_keeper cd_law_keeper ct_law_keeper), sl_law_keeper⟩)
    (c_law_keeper : PySem.W.codeIn K cd_law_keeper "_law_keeper" = true)
    (k_law_keeper : PySem.W.keepIn K (.ref f_law_keeper) = true)
    (a_law_tasks : PySem.W.nsIn K mainGlobals "_law_tasks" = some (some (.ref f_law_tasks)))
    (l_law_tasks : K.lookup f_law_tasks = some ⟨oc_law_tasks, od_law_tasks, .func (PySem.W.fnOf "_law_tasks" "_law_tasks" (C8.fnArgs s_law_tasks) (C8.fnBody s_law_tasks) (C8.fnScope s_law_tasks) .none kV_law_tasks dc_law_tasks pm_law_tasks an_law_tasks cd_law_tasks ct_law_tasks), sl_law_tasks⟩)
    (c_law_tasks : PySem.W.codeIn K cd_law_tasks "_law_tasks" = true)
    (k_law_tasks : PySem.W.keepIn K (.ref f_law_tasks) = true)
    (a_law_reports : PySem.W.nsIn K mainGlobals "_law_reports" = some (some (.ref f_law_reports)))
    (l_law_reports : K.lookup f_law_reports = some ⟨oc_law_reports, od_law_reports, .func (PySem.W.fnOf "_law_reports" "_law_reports" (C8.fnArgs s_law_reports) (C8.fnBody s_law_reports) (C8.fnScope s_law_reports) .none kV_law_reports dc_law_reports pm_law_reports an_law_reports cd_law_reports ct_law_reports), sl_law_reports⟩)
    (c_law_reports : PySem.W.codeIn K cd_law_reports "_law_reports" = true)
    (k_law_reports : PySem.W.keepIn K (.ref f_law_reports) = true)
    (a_law : PySem.W.nsIn K mainGlobals "law" = some (some (.ref fa0)))
    (l_law : K.lookup fa0 = some ⟨oc_law, od_law, .func (PySem.W.fnOf "law" "law" (C8.fnArgs s_law) (C8.fnBody s_law) (C8.fnScope s_law) .none kV_law dc_law pm_law an_law (.ref cc) ct_law), sl_law⟩)
    (c_law : PySem.W.codeIn K (.ref cc) "law" = true)
    (k_law : PySem.W.keepIn K (.ref fa0) = true)
    (lc : K.lookup cc = some ⟨occ, odc, .fields vsc, slc⟩)
    (v11 : vsc[11]? = some (.ref Pt))
    (hch : PySem.W.codeHdIn K cc Pt = true)
    (nPt : K.lookup Pt = none)
    (z_isinstance : PySem.W.nsIn K mainGlobals "isinstance" = some none)
    (z_ValueError : PySem.W.nsIn K mainGlobals "ValueError" = some none)
    (z_len : PySem.W.nsIn K mainGlobals "len" = some none)
    (z_int : PySem.W.nsIn K mainGlobals "int" = some none)
    (z_bool : PySem.W.nsIn K mainGlobals "bool" = some none)
    (z_range : PySem.W.nsIn K mainGlobals "range" = some none)
    (z_list : PySem.W.nsIn K mainGlobals "list" = some none)
    (z_tuple : PySem.W.nsIn K mainGlobals "tuple" = some none)
    (z_str : PySem.W.nsIn K mainGlobals "str" = some none)
    (z_max : PySem.W.nsIn K mainGlobals "max" = some none)
    (z_zip : PySem.W.nsIn K mainGlobals "zip" = some none)
    (q_GREATEST_HIGH : PySem.W.nsIn K mainGlobals "GREATEST_HIGH" = some (some (.int 1000 t_GREATEST_HIGH)))
    (q_GREATEST_BEAT : PySem.W.nsIn K mainGlobals "GREATEST_BEAT" = some (some (.int 60 t_GREATEST_BEAT)))
    (aD : PySem.W.nsIn K mainGlobals "DogError" = some (some (.ref CD)))
    (aC0 : PySem.W.nsIn K mainGlobals "BadWindow" = some (some (.ref C_0)))
    (aC1 : PySem.W.nsIn K mainGlobals "BadPlan" = some (some (.ref C_1)))
    (aC2 : PySem.W.nsIn K mainGlobals "BadDelays" = some (some (.ref C_2)))
    (aC3 : PySem.W.nsIn K mainGlobals "BadWorks" = some (some (.ref C_3)))
    (aC4 : PySem.W.nsIn K mainGlobals "NoPats" = some (some (.ref C_4)))
    (aC5 : PySem.W.nsIn K mainGlobals "NoPlace" = some (some (.ref C_5)))
    (aC6 : PySem.W.nsIn K mainGlobals "BadTasks" = some (some (.ref C_6)))
    (aC7 : PySem.W.nsIn K mainGlobals "BadBeat" = some (some (.ref C_7)))
    (aC8 : PySem.W.nsIn K mainGlobals "TooMuch" = some (some (.ref C_8)))
    (bD : PySem.W.subIn K (.ref CD) (.type "BaseException") = some true)
    (hD : PySem.W.hasDictIn K CD = true)
    (tD : PySem.W.typeIn K (.ref CD) = some (.type "type"))
    (xn : PySem.W.specialIn K (.builtin "object.__class__") "__get__" = some (some (.builtin "getset_descriptor.__get__")))
    (xt : PySem.W.takesIn K (.builtin "object.__class__") = some true)
    (x0 : PySem.W.excIn K C_0 [.type "ValueError", .type "Exception", .type "BaseException", .type "object"] "ValueError.__new__" = true)
    (kk0 : PySem.W.keepIn K (.ref C_0) = true)
    (b0 : PySem.W.subIn K (.ref C_0) (.type "BaseException") = some true)
    (t0 : PySem.W.typeIn K (.ref C_0) = some (.type "type"))
    (hg0 : PySem.W.findIn K (.ref C_0) "__getattribute__" = some (some (.builtin "BaseException.__getattribute__")))
    (hk0 : PySem.W.findIn K (.ref C_0) "__getattr__" = some none)
    (hd0 : PySem.W.hasDictIn K C_0 = true)
    (ha0 : PySem.W.findIn K (.ref C_0) "__class__" = some (some (.builtin "object.__class__")))
    (hm0 : PySem.W.mroIn K C_0 (.type "object") = some true)
    (sD0 : PySem.W.subIn K (.ref C_0) (.ref CD) = some true)
    (kv0 : PySem.W.kitOne K (.ref C_0) (.type "ValueError") = some true)
    (ki0_0 : PySem.W.kitOne K (.ref C_0) (.ref C_0) = some true)
    (ki0_1 : PySem.W.kitOne K (.ref C_0) (.ref C_1) = some false)
    (ki0_2 : PySem.W.kitOne K (.ref C_0) (.ref C_2) = some false)
    (ki0_3 : PySem.W.kitOne K (.ref C_0) (.ref C_3) = some false)
    (ki0_4 : PySem.W.kitOne K (.ref C_0) (.ref C_4) = some false)
    (ki0_5 : PySem.W.kitOne K (.ref C_0) (.ref C_5) = some false)
    (ki0_6 : PySem.W.kitOne K (.ref C_0) (.ref C_6) = some false)
    (ki0_7 : PySem.W.kitOne K (.ref C_0) (.ref C_7) = some false)
    (ki0_8 : PySem.W.kitOne K (.ref C_0) (.ref C_8) = some false)
    (x7 : PySem.W.excIn K C_7 [.type "ValueError", .type "Exception", .type "BaseException", .type "object"] "ValueError.__new__" = true)
    (kk7 : PySem.W.keepIn K (.ref C_7) = true)
    (b7 : PySem.W.subIn K (.ref C_7) (.type "BaseException") = some true)
    (t7 : PySem.W.typeIn K (.ref C_7) = some (.type "type"))
    (hg7 : PySem.W.findIn K (.ref C_7) "__getattribute__" = some (some (.builtin "BaseException.__getattribute__")))
    (hk7 : PySem.W.findIn K (.ref C_7) "__getattr__" = some none)
    (hd7 : PySem.W.hasDictIn K C_7 = true)
    (ha7 : PySem.W.findIn K (.ref C_7) "__class__" = some (some (.builtin "object.__class__")))
    (hm7 : PySem.W.mroIn K C_7 (.type "object") = some true)
    (sD7 : PySem.W.subIn K (.ref C_7) (.ref CD) = some true)
    (kv7 : PySem.W.kitOne K (.ref C_7) (.type "ValueError") = some true)
    (ki7_0 : PySem.W.kitOne K (.ref C_7) (.ref C_0) = some false)
    (ki7_1 : PySem.W.kitOne K (.ref C_7) (.ref C_1) = some false)
    (ki7_2 : PySem.W.kitOne K (.ref C_7) (.ref C_2) = some false)
    (ki7_3 : PySem.W.kitOne K (.ref C_7) (.ref C_3) = some false)
    (ki7_4 : PySem.W.kitOne K (.ref C_7) (.ref C_4) = some false)
    (ki7_5 : PySem.W.kitOne K (.ref C_7) (.ref C_5) = some false)
    (ki7_6 : PySem.W.kitOne K (.ref C_7) (.ref C_6) = some false)
    (ki7_7 : PySem.W.kitOne K (.ref C_7) (.ref C_7) = some true)
    (ki7_8 : PySem.W.kitOne K (.ref C_7) (.ref C_8) = some false)
    (hT : h.get? Pt = some { cls := .none, data := .fields #[] }) :
    LamX.LawAtS l w K C8.CX0 8 63 "_law_script" mg fa h := by
  have e := hfa.symm.trans (PySem.W.mg_of X G a_law)
  cases e
  have D_is_number : C8.Def K mg "is_number" s_is_number f_is_number _ := ⟨⟨_, _, _, _, _, _, _, _, _, _, rfl, l_is_number, c_is_number⟩, PySem.W.mg_of X G a_is_number, k_is_number⟩
  have B_is_number := C8.Fun.binds (ps := ["value"]) D_is_number.fn rfl fun _ _ _ _ _ _ us hl => match us, hl with | [_], _ => rfl
  have D_is_range : C8.Def K mg "is_range" s_is_range f_is_range _ := ⟨⟨_, _, _, _, _, _, _, _, _, _, rfl, l_is_range, c_is_range⟩, PySem.W.mg_of X G a_is_range, k_is_range⟩
  have B_is_range := C8.Fun.binds (ps := ["least", "most", "limit"]) D_is_range.fn rfl fun _ _ _ _ _ _ us hl => match us, hl with | [_, _, _], _ => rfl
  have D_check_window : C8.Def K mg "check_window" s_check_window f_check_window _ := ⟨⟨_, _, _, _, _, _, _, _, _, _, rfl, l_check_window, c_check_window⟩, PySem.W.mg_of X G a_check_window, k_check_window⟩
  have B_check_window := C8.Fun.binds (ps := ["window"]) D_check_window.fn rfl fun _ _ _ _ _ _ us hl => match us, hl with | [_], _ => rfl
  have D_first_bite : C8.Def K mg "first_bite" s_first_bite f_first_bite _ := ⟨⟨_, _, _, _, _, _, _, _, _, _, rfl, l_first_bite, c_first_bite⟩, PySem.W.mg_of X G a_first_bite, k_first_bite⟩
  have B_first_bite := C8.Fun.binds (ps := ["window", "pats"]) D_first_bite.fn rfl fun _ _ _ _ _ _ us hl => match us, hl with | [_, _], _ => rfl
  have D_bitten_at : C8.Def K mg "bitten_at" s_bitten_at f_bitten_at _ := ⟨⟨_, _, _, _, _, _, _, _, _, _, rfl, l_bitten_at, c_bitten_at⟩, PySem.W.mg_of X G a_bitten_at, k_bitten_at⟩
  have B_bitten_at := C8.Fun.binds (ps := ["window", "pats", "end"]) D_bitten_at.fn rfl fun _ _ _ _ _ _ us hl => match us, hl with | [_, _, _], _ => rfl
  have D_check_beat : C8.Def K mg "check_beat" s_check_beat f_check_beat _ := ⟨⟨_, _, _, _, _, _, _, _, _, _, rfl, l_check_beat, c_check_beat⟩, PySem.W.mg_of X G a_check_beat, k_check_beat⟩
  have B_check_beat := C8.Fun.binds (ps := ["beat"]) D_check_beat.fn rfl fun _ _ _ _ _ _ us hl => match us, hl with | [_], _ => rfl
  have D_first_behind : C8.Def K mg "first_behind" s_first_behind f_first_behind _ := ⟨⟨_, _, _, _, _, _, _, _, _, _, rfl, l_first_behind, c_first_behind⟩, PySem.W.mg_of X G a_first_behind, k_first_behind⟩
  have B_first_behind := C8.Fun.binds (ps := ["moments", "at", "last"]) D_first_behind.fn rfl fun _ _ _ _ _ _ us hl => match us, hl with | [_, _, _], _ => rfl
  have D_keeper_pats : C8.Def K mg "keeper_pats" s_keeper_pats f_keeper_pats _ := ⟨⟨_, _, _, _, _, _, _, _, _, _, rfl, l_keeper_pats, c_keeper_pats⟩, PySem.W.mg_of X G a_keeper_pats, k_keeper_pats⟩
  have B_keeper_pats := C8.Fun.binds (ps := ["beat", "reports", "end"]) D_keeper_pats.fn rfl fun _ _ _ _ _ _ us hl => match us, hl with | [_, _, _], _ => rfl
  have D_found_at : C8.Def K mg "found_at" s_found_at f_found_at _ := ⟨⟨_, _, _, _, _, _, _, _, _, _, rfl, l_found_at, c_found_at⟩, PySem.W.mg_of X G a_found_at, k_found_at⟩
  have B_found_at := C8.Fun.binds (ps := ["window", "beat", "reports", "end"]) D_found_at.fn rfl fun _ _ _ _ _ _ us hl => match us, hl with | [_, _, _, _], _ => rfl
  have D_law_start : C8.Def K mg "_law_start" s_law_start f_law_start _ := ⟨⟨_, _, _, _, _, _, _, _, _, _, rfl, l_law_start, c_law_start⟩, PySem.W.mg_of X G a_law_start, k_law_start⟩
  have B_law_start := C8.Fun.binds (ps := ["_law_script"]) D_law_start.fn rfl fun _ _ _ _ _ _ us hl => match us, hl with | [_], _ => rfl
  have D_law_drawn : C8.Def K mg "_law_drawn" s_law_drawn f_law_drawn _ := ⟨⟨_, _, _, _, _, _, _, _, _, _, rfl, l_law_drawn, c_law_drawn⟩, PySem.W.mg_of X G a_law_drawn, k_law_drawn⟩
  have B_law_drawn := C8.Fun.binds (ps := ["_law_state", "_law_many"]) D_law_drawn.fn rfl fun _ _ _ _ _ _ us hl => match us, hl with | [_, _], _ => rfl
  have D_law_same : C8.Def K mg "_law_same" s_law_same f_law_same _ := ⟨⟨_, _, _, _, _, _, _, _, _, _, rfl, l_law_same, c_law_same⟩, PySem.W.mg_of X G a_law_same, k_law_same⟩
  have B_law_same := C8.Fun.binds (ps := ["_law_found", "_law_due"]) D_law_same.fn rfl fun _ _ _ _ _ _ us hl => match us, hl with | [_, _], _ => rfl
  have D_law_kind : C8.Def K mg "_law_kind" s_law_kind f_law_kind _ := ⟨⟨_, _, _, _, _, _, _, _, _, _, rfl, l_law_kind, c_law_kind⟩, PySem.W.mg_of X G a_law_kind, k_law_kind⟩
  have B_law_kind := C8.Fun.binds (ps := ["_law_work"]) D_law_kind.fn rfl fun _ _ _ _ _ _ us hl => match us, hl with | [_], _ => rfl
  have D_law_far : C8.Def K mg "_law_far" s_law_far f_law_far _ := ⟨⟨_, _, _, _, _, _, _, _, _, _, rfl, l_law_far, c_law_far⟩, PySem.W.mg_of X G a_law_far, k_law_far⟩
  have B_law_far := C8.Fun.binds (ps := ["_law_state", "_law_most"]) D_law_far.fn rfl fun _ _ _ _ _ _ us hl => match us, hl with | [_, _], _ => rfl
  have D_law_window : C8.Def K mg "_law_window" s_law_window f_law_window _ := ⟨⟨_, _, _, _, _, _, _, _, _, _, rfl, l_law_window, c_law_window⟩, PySem.W.mg_of X G a_law_window, k_law_window⟩
  have B_law_window := C8.Fun.binds (ps := ["_law_state", "_law_most"]) D_law_window.fn rfl fun _ _ _ _ _ _ us hl => match us, hl with | [_, _], _ => rfl
  have D_law_bite : C8.Def K mg "_law_bite" s_law_bite f_law_bite _ := ⟨⟨_, _, _, _, _, _, _, _, _, _, rfl, l_law_bite, c_law_bite⟩, PySem.W.mg_of X G a_law_bite, k_law_bite⟩
  have B_law_bite := C8.Fun.binds (ps := ["_law_window_here", "_law_pats", "_law_end"]) D_law_bite.fn rfl fun _ _ _ _ _ _ us hl => match us, hl with | [_, _, _], _ => rfl
  have D_law_keeper : C8.Def K mg "_law_keeper" s_law_keeper f_law_keeper _ := ⟨⟨_, _, _, _, _, _, _, _, _, _, rfl, l_law_keeper, c_law_keeper⟩, PySem.W.mg_of X G a_law_keeper, k_law_keeper⟩
  have B_law_keeper := C8.Fun.binds (ps := ["_law_beat", "_law_reports_here", "_law_end"]) D_law_keeper.fn rfl fun _ _ _ _ _ _ us hl => match us, hl with | [_, _, _], _ => rfl
  have D_law_tasks : C8.Def K mg "_law_tasks" s_law_tasks f_law_tasks _ := ⟨⟨_, _, _, _, _, _, _, _, _, _, rfl, l_law_tasks, c_law_tasks⟩, PySem.W.mg_of X G a_law_tasks, k_law_tasks⟩
  have B_law_tasks := C8.Fun.binds (ps := ["_law_state", "_law_most", "_law_gap"]) D_law_tasks.fn rfl fun _ _ _ _ _ _ us hl => match us, hl with | [_, _, _], _ => rfl
  have D_law_reports : C8.Def K mg "_law_reports" s_law_reports f_law_reports _ := ⟨⟨_, _, _, _, _, _, _, _, _, _, rfl, l_law_reports, c_law_reports⟩, PySem.W.mg_of X G a_law_reports, k_law_reports⟩
  have B_law_reports := C8.Fun.binds (ps := ["_law_state", "_law_tasks_here", "_law_end"]) D_law_reports.fn rfl fun _ _ _ _ _ _ us hl => match us, hl with | [_, _, _], _ => rfl
  have R : Refs K mg CD [C_0, C_1, C_2, C_3, C_4, C_5, C_6, C_7, C_8] :=
    ⟨PySem.W.mg_none_of X G z_isinstance, PySem.W.mg_none_of X G z_ValueError, PySem.W.mg_of X G aD, ⟨_, rfl, PySem.W.mg_of X G aC0⟩, ⟨_, rfl, PySem.W.mg_of X G aC1⟩, ⟨_, rfl, PySem.W.mg_of X G aC2⟩, ⟨_, rfl, PySem.W.mg_of X G aC3⟩, ⟨_, rfl, PySem.W.mg_of X G aC4⟩, ⟨_, rfl, PySem.W.mg_of X G aC5⟩, ⟨_, rfl, PySem.W.mg_of X G aC6⟩, ⟨_, rfl, PySem.W.mg_of X G aC7⟩, ⟨_, rfl, PySem.W.mg_of X G aC8⟩⟩
  have RW : IsRef K CD [C_0, C_1, C_2, C_3, C_4, C_5, C_6, C_7, C_8] 0 C_0 := by
    refine ⟨rfl, ⟨hg0, hk0, b0, hd0, ha0, xn, xt, hm0⟩, PySem.W.exm_ref bD hD tD sD0, kv0, fun j C' e => ?_⟩
    match j, e with
    | 0, e => cases e; exact ki0_0
    | 1, e => cases e; exact ki0_1
    | 2, e => cases e; exact ki0_2
    | 3, e => cases e; exact ki0_3
    | 4, e => cases e; exact ki0_4
    | 5, e => cases e; exact ki0_5
    | 6, e => cases e; exact ki0_6
    | 7, e => cases e; exact ki0_7
    | 8, e => cases e; exact ki0_8
  have RT : IsRef K CD [C_0, C_1, C_2, C_3, C_4, C_5, C_6, C_7, C_8] 7 C_7 := by
    refine ⟨rfl, ⟨hg7, hk7, b7, hd7, ha7, xn, xt, hm7⟩, PySem.W.exm_ref bD hD tD sD7, kv7, fun j C' e => ?_⟩
    match j, e with
    | 0, e => cases e; exact ki7_0
    | 1, e => cases e; exact ki7_1
    | 2, e => cases e; exact ki7_2
    | 3, e => cases e; exact ki7_3
    | 4, e => cases e; exact ki7_4
    | 5, e => cases e; exact ki7_5
    | 6, e => cases e; exact ki7_6
    | 7, e => cases e; exact ki7_7
    | 8, e => cases e; exact ki7_8
  have T0 : Txt K mg C_0 := ⟨PySem.W.mg_none_of X G z_isinstance, PySem.W.mg_none_of X G z_len, PySem.W.mg_none_of X G z_int, PySem.W.mg_none_of X G z_bool, PySem.W.mg_none_of X G z_range, PySem.W.mg_none_of X G z_list, PySem.W.mg_none_of X G z_tuple, PySem.W.mg_none_of X G z_str, PySem.W.mg_none_of X G z_max, ⟨_, PySem.W.mg_of X G q_GREATEST_HIGH⟩, PySem.W.mg_of X G aC0, x0, kk0, b0, t0⟩
  have T : TxtK K mg C_0 C_7 := ⟨T0, PySem.W.mg_none_of X G z_zip, ⟨_, PySem.W.mg_of X G q_GREATEST_BEAT⟩, PySem.W.mg_of X G aC7, x7, kk7, b7, t7⟩
  refine ⟨PySem.W.fnOf "law" "law" (C8.fnArgs s_law) (C8.fnBody s_law) (C8.fnScope s_law) .none kV_law dc_law pm_law an_law (.ref cc) ct_law, [(cc, Pt)], sp_law K Pt, fun p hp => by rw [List.mem_singleton.mp hp]; exact hT, fun p hp => by rw [List.mem_singleton.mp hp]; exact nPt, fun p hp => by rw [List.mem_singleton.mp hp]; exact PySem.W.codeHd_of_K X hch, fun s u => .of_eq rfl,
    fun H a ns hl _ ht hs => ⟨a, ns, rfl, hs, hl, ht _ (List.mem_singleton.mpr rfl), fun _ => rfl⟩, fun base KB GB tb => ?_⟩
  have g0 := ok_is_number (P := l.prog) (w := w) (base := base) T0 D_is_number B_is_number
  have g1 := ok_is_range T0 D_is_range B_is_range g0
  have g2 := ok_check_window T0 D_check_window B_check_window g1
  have g3 := ok_first_bite (P := l.prog) (w := w) (base := base) T0 D_first_bite B_first_bite
  have g4 := ok_bitten_at T0 D_bitten_at B_bitten_at g2 g3
  have g5 := ok_check_beat T D_check_beat B_check_beat g0
  have g6 := ok_first_behind (P := l.prog) (w := w) (base := base) T D_first_behind B_first_behind
  have g7 := ok_keeper_pats T D_keeper_pats B_keeper_pats g5 g6
  have g8 := ok_found_at T D_found_at B_found_at g2 g7 g4
  have h1 := ok_start (P := l.prog) (w := w) (base := base) T0 D_law_start B_law_start
  have h2 := ok_drawn (P := l.prog) (w := w) (base := base) T0 D_law_drawn B_law_drawn
  exact ok_law T R RW RT (tb _ (List.mem_singleton.mpr rfl)) l_law c_law D_law_kind B_law_kind h1 h2 (ok_far T0 D_law_far B_law_far h2) (ok_window T0 D_law_window B_law_window h2) (ok_tasks T D_law_tasks B_law_tasks h2) (ok_reports T D_law_reports B_law_reports h2)
    (ok_keeper T D_law_keeper B_law_keeper) (ok_bite T0 D_law_bite B_law_bite) (ok_same T0 D_law_same B_law_same 2) g8 g7
end K11
open PySem PySem.W PyProof.Rows
set_option maxRecDepth 100000 in
set_option maxHeartbeats 0 in
theorem PySem.Challenge.cw_windowdog_k11_keepers_and_what_is_found_holds : PySem.Challenge.rw_windowdog_k11_keepers_and_what_is_found.Holds := by
  w_on; o_law; k_head; (case hw => w_witness2)
  k_fill
  refine LamX.walk_ofTs (l := PySem.Challenge.rw_windowdog_k11_keepers_and_what_is_found) (n := 63) (k := 8) (x := "_law_script") (CX := fun _ => C8.CX0) rfl (by decide) rfl ⟨rfl, by decide, by decide⟩ (fun w h Y => PySem.W.km_in_of Y) ?F (fun _ _ _ _ _ z => z)
  case F =>
    intro w mg fa h Y KX G hmg
    refine' K11.law_at KX G hmg ?a_is_number ?l_is_number ?c_is_number ?k_is_number ?a_is_range ?l_is_range ?c_is_range ?k_is_range ?a_check_window ?l_check_window ?c_check_window ?k_check_window ?a_first_bite ?l_first_bite ?c_first_bite ?k_first_bite ?a_bitten_at ?l_bitten_at ?c_bitten_at ?k_bitten_at ?a_check_beat ?l_check_beat ?c_check_beat ?k_check_beat ?a_first_behind ?l_first_behind ?c_first_behind ?k_first_behind ?a_keeper_pats ?l_keeper_pats ?c_keeper_pats ?k_keeper_pats ?a_found_at ?l_found_at ?c_found_at ?k_found_at ?a_law_start ?l_law_start ?c_law_start ?k_law_start ?a_law_drawn ?l_law_drawn ?c_law_drawn ?k_law_drawn ?a_law_same ?l_law_same ?c_law_same ?k_law_same ?a_law_kind ?l_law_kind ?c_law_kind ?k_law_kind ?a_law_far ?l_law_far ?c_law_far ?k_law_far ?a_law_window ?l_law_window ?c_law_window ?k_law_window ?a_law_bite ?l_law_bite ?c_law_bite ?k_law_bite ?a_law_keeper ?l_law_keeper ?c_law_keeper ?k_law_keeper ?a_law_tasks ?l_law_tasks ?c_law_tasks ?k_law_tasks ?a_law_reports ?l_law_reports ?c_law_reports ?k_law_reports ?a_law ?l_law ?c_law ?k_law ?lc ?v11 ?hch ?nPt ?z_isinstance ?z_ValueError ?z_len ?z_int ?z_bool ?z_range ?z_list ?z_tuple ?z_str ?z_max ?z_zip ?q_GREATEST_HIGH ?q_GREATEST_BEAT ?aD ?aC0 ?aC1 ?aC2 ?aC3 ?aC4 ?aC5 ?aC6 ?aC7 ?aC8 ?bD ?hD ?tD ?xn ?xt ?x0 ?kk0 ?b0 ?t0 ?hg0 ?hk0 ?hd0 ?ha0 ?hm0 ?sD0 ?kv0 ?ki0_0 ?ki0_1 ?ki0_2 ?ki0_3 ?ki0_4 ?ki0_5 ?ki0_6 ?ki0_7 ?ki0_8 ?x7 ?kk7 ?b7 ?t7 ?hg7 ?hk7 ?hd7 ?ha7 ?hm7 ?sD7 ?kv7 ?ki7_0 ?ki7_1 ?ki7_2 ?ki7_3 ?ki7_4 ?ki7_5 ?ki7_6 ?ki7_7 ?ki7_8 ?hT
    (case a_is_number => k_is)
    (case l_is_number => k_is)
    (case c_is_number => k_is)
    (case k_is_number => k_is)
    (case a_is_range => k_is)
    (case l_is_range => k_is)
    (case c_is_range => k_is)
    (case k_is_range => k_is)
    (case a_check_window => k_is)
    (case l_check_window => k_is)
    (case c_check_window => k_is)
    (case k_check_window => k_is)
    (case a_first_bite => k_is)
    (case l_first_bite => k_is)
    (case c_first_bite => k_is)
    (case k_first_bite => k_is)
    (case a_bitten_at => k_is)
    (case l_bitten_at => k_is)
    (case c_bitten_at => k_is)
    (case k_bitten_at => k_is)
    (case a_check_beat => k_is)
    (case l_check_beat => k_is)
    (case c_check_beat => k_is)
    (case k_check_beat => k_is)
    (case a_first_behind => k_is)
    (case l_first_behind => k_is)
    (case c_first_behind => k_is)
    (case k_first_behind => k_is)
    (case a_keeper_pats => k_is)
    (case l_keeper_pats => k_is)
    (case c_keeper_pats => k_is)
    (case k_keeper_pats => k_is)
    (case a_found_at => k_is)
    (case l_found_at => k_is)
    (case c_found_at => k_is)
    (case k_found_at => k_is)
    (case a_law_start => k_is)
    (case l_law_start => k_is)
    (case c_law_start => k_is)
    (case k_law_start => k_is)
    (case a_law_drawn => k_is)
    (case l_law_drawn => k_is)
    (case c_law_drawn => k_is)
    (case k_law_drawn => k_is)
    (case a_law_same => k_is)
    (case l_law_same => k_is)
    (case c_law_same => k_is)
    (case k_law_same => k_is)
    (case a_law_kind => k_is)
    (case l_law_kind => k_is)
    (case c_law_kind => k_is)
    (case k_law_kind => k_is)
    (case a_law_far => k_is)
    (case l_law_far => k_is)
    (case c_law_far => k_is)
    (case k_law_far => k_is)
    (case a_law_window => k_is)
    (case l_law_window => k_is)
    (case c_law_window => k_is)
    (case k_law_window => k_is)
    (case a_law_bite => k_is)
    (case l_law_bite => k_is)
    (case c_law_bite => k_is)
    (case k_law_bite => k_is)
    (case a_law_keeper => k_is)
    (case l_law_keeper => k_is)
    (case c_law_keeper => k_is)
    (case k_law_keeper => k_is)
    (case a_law_tasks => k_is)
    (case l_law_tasks => k_is)
    (case c_law_tasks => k_is)
    (case k_law_tasks => k_is)
    (case a_law_reports => k_is)
    (case l_law_reports => k_is)
    (case c_law_reports => k_is)
    (case k_law_reports => k_is)
    (case a_law => k_is)
    (case l_law => k_is)
    (case c_law => k_is)
    (case k_law => k_is)
    (case lc => k_is)
    (case v11 => exact rfl)
    (case hch => kernel_rfl)
    (case nPt => kernel_rfl)
    (case z_isinstance => k_is)
    (case z_ValueError => k_is)
    (case z_len => k_is)
    (case z_int => k_is)
    (case z_bool => k_is)
    (case z_range => k_is)
    (case z_list => k_is)
    (case z_tuple => k_is)
    (case z_str => k_is)
    (case z_max => k_is)
    (case z_zip => k_is)
    (case q_GREATEST_HIGH => k_is)
    (case q_GREATEST_BEAT => k_is)
    (case aD => k_is)
    (case aC0 => k_is)
    (case aC1 => k_is)
    (case aC2 => k_is)
    (case aC3 => k_is)
    (case aC4 => k_is)
    (case aC5 => k_is)
    (case aC6 => k_is)
    (case aC7 => k_is)
    (case aC8 => k_is)
    (case bD => k_is)
    (case hD => k_is)
    (case tD => k_is)
    (case xn => k_is)
    (case xt => k_is)
    (case x0 => k_exc)
    (case kk0 => k_is)
    (case b0 => k_is)
    (case t0 => k_is)
    (case hg0 => k_is)
    (case hk0 => k_is)
    (case hd0 => k_is)
    (case ha0 => k_is)
    (case hm0 => k_is)
    (case sD0 => k_is)
    (case kv0 => kernel_rfl)
    (case ki0_0 => kernel_rfl)
    (case ki0_1 => kernel_rfl)
    (case ki0_2 => kernel_rfl)
    (case ki0_3 => kernel_rfl)
    (case ki0_4 => kernel_rfl)
    (case ki0_5 => kernel_rfl)
    (case ki0_6 => kernel_rfl)
    (case ki0_7 => kernel_rfl)
    (case ki0_8 => kernel_rfl)
    (case x7 => k_exc)
    (case kk7 => k_is)
    (case b7 => k_is)
    (case t7 => k_is)
    (case hg7 => k_is)
    (case hk7 => k_is)
    (case hd7 => k_is)
    (case ha7 => k_is)
    (case hm7 => k_is)
    (case sD7 => k_is)
    (case kv7 => kernel_rfl)
    (case ki7_0 => kernel_rfl)
    (case ki7_1 => kernel_rfl)
    (case ki7_2 => kernel_rfl)
    (case ki7_3 => kernel_rfl)
    (case ki7_4 => kernel_rfl)
    (case ki7_5 => kernel_rfl)
    (case ki7_6 => kernel_rfl)
    (case ki7_7 => kernel_rfl)
    (case ki7_8 => kernel_rfl)
    (case hT => exact PySem.W.km_tabs_of Y _ (by k_mem))
