import PyProof.Rows.All
import Wide.All
import OpenK.AllK
import Wide.FinOn
import HandS.ForMost
import HandS.ForExc
import HandS.Codes
import HandS.Lambda
import HandS.EndTab
import HandS.IsInst
import HandS.ExcIs
import HandS.Wide
import HandS.SetFor
import HandS.TupMul
import HandS.Conv
import HandS.Zip
import KE.SortData
import PySem.Challenge.RW_windowdog_k08_whole_the_fewest_pats
set_option Elab.async false
set_option linter.all false
set_option maxRecDepth 100000
set_option maxHeartbeats 4000000
/-! The readings step by step; heaps in which one list (the drawing's) changes. -/
namespace Wd
open PySem PySem.Spec PyProof.Rows L2

/-! ### rules -/
section
variable {X : Cx} {a b c d : Expr} {ta tb tc td : TE} {pos : Pos}
def tChain3 (r r' r2 : R2) (ta tb tc td : TE) : TE := fun σ H Q => ta σ H fun x H1 => tb σ H1 fun y H2 => r x y H2 fun z H3 => ∃ k, z = .bl k ∧
  (if k = true then tc σ H3 fun w' H4 => r' y w' H4 fun z2 H5 => ∃ k2, z2 = .bl k2 ∧ (if k2 = true then td σ H5 fun w2 H6 => r2 w' w2 H6 Q else Q (.bl false) H5) else Q (.bl false) H3)
theorem pe_chain3 {op op' op2 : CmpOp} {r r' r2 : R2} (ho : OpR X (compareOp op) r) (ho' : OpR X (compareOp op') r') (ho2 : OpR X (compareOp op2) r2) (ha : PE X a ta) (hb : PE X b tb) (hc : PE X c tc) (hd : PE X d td)
    (hm : lastMarks [op, op', op2] [b, c, d] = false := by with_unfolding_all rfl) : PE X (.Compare a [op, op', op2] [b, c, d] pos) (tChain3 r r' r2 ta tb tc td) := by
  refine ⟨fun pins s σ H Q I h => ?_⟩
  refine Compare_chain (thn (ha.run pins s σ H _ I h) fun v s1 ⟨x, H1, I1, r1, q1⟩ => chain_link (thn (hb.run pins s1 σ H1 _ I1 q1) fun u s2 ⟨y, H2, I2, r2, q2⟩ =>
    thn (ho pins s2 σ H2 x y v u _ I2 r1 r2 q2) fun d s3 ⟨z, H3, I3, r3, k, e, q3⟩ => ?_)) hm
  subst e
  cases r3
  refine wpAny_truthy_bool ?_
  cases k with
  | false => exact ite_ff ⟨.bl false, H3, I3, rfl, q3⟩
  | true =>
    refine ite_tt (chain_link (thn (hc.run pins s3 σ H3 _ I3 q3) fun w' s4 ⟨z', H4, I4, r4, q4⟩ => thn (ho' pins s4 σ H4 y z' u w' _ I4 r2 r4 q4) fun d5 s5 ⟨z5, H5, I5, r5, k5, e5, q5⟩ => ?_))
    subst e5
    cases r5
    refine wpAny_truthy_bool ?_
    cases k5 with
    | false => exact ite_ff ⟨.bl false, H5, I5, rfl, q5⟩
    | true => exact ite_tt (chain_last (thn (hd.run pins s5 σ H5 _ I5 q5) fun w6 s6 ⟨z6, H6, I6, r6, q6⟩ => ho2 pins s6 σ H6 z' z6 w' w6 Q I6 r4 r6 q6))
end

section
variable {X : Cx} {K : PySem.W.Frag} {name : Str} {T id : String} {r : V → List V → Hp → VK → Prop} {o e : Expr} {es : List Expr} {to : TE} {t : TA} {apos cpos : Pos}
theorem pe_bmK (hK : X.K = K) (pa : PlainAttrs T) (slot : Slot T name id) (hty : typeOf (.builtin id) = pure (.type "method_descriptor")) (hm : MtR X id r) (ho : PE X o to) (ha : PA X (e :: es) t)
    (hbase : attributeBase o name X.env (eval o X.env) = eval o X.env := by rfl)
    (hfew : ((backTo cpos (starEach (e :: es) X.env)).all (fun x => !x.1) && (backToKw cpos (keywordEach [] X.env)).all (fun x => x.1.isSome)
      && decide ((e :: es).length + ([] : List Keyword).length + (if ([] : List Keyword).isEmpty then 0 else 1) < 30)) = true := by rfl)
    (hline : (apos.endLine == cpos.line) = true := by rfl) (hs : starEach (e :: es) X.env = (false, eval e X.env) :: starEach es X.env := by rfl) (hplain : (backTo cpos (starEach es X.env)).any (·.1) = false := by rfl) : PE X (.Call (.Attribute o name apos) (e :: es) [] cpos) (tBM K T r to t) := by
  subst hK; exact pe_bm pa slot hty hm ho ha hbase hfew hline hs hplain
theorem pe_bm0K (hK : X.K = K) (pa : PlainAttrs T) (slot : Slot T name id) (hty : typeOf (.builtin id) = pure (.type "method_descriptor")) (hm : MtR X id r) (ho : PE X o to)
    (hbase : attributeBase o name X.env (eval o X.env) = eval o X.env := by rfl) (hline : (apos.endLine == cpos.line) = true := by rfl) : PE X (.Call (.Attribute o name apos) [] [] cpos) (tBM0 K T r to) := by
  subst hK; exact pe_bm0 pa slot hty hm ho hbase hline
end

/-- a def of the module that may let an exception out -/
structure CalX (P : Program) (w : World) (K : PySem.W.Frag) (mg : Str → Option Value) (base : Heap) (k : Nat) (x : Str) (sp : Sp) : Prop where
  ex : ∃ (f : Addr) (fd : FuncData) (ps : List Str), FnOk P w K mg base (L2.CX P w) k f fd ps sp ∧ mg x = some (.ref f) ∧ PySem.W.keepIn K (.ref f) = true ∧ Binds K fd ps []
section
variable {X : Cx} {k j : Nat} {x : Str} {sp : Sp} {p pos : Pos} {e : Expr} {es : List Expr} {t : TA} {E : L2.St → XK}
theorem pe_cX (c : CalX X.prog X.w X.K X.mg X.base k x sp) (hr : Room j X.A) (hk : k ≤ j) (hg : Gl X x) (hx : ∀ σ, PassesAt (L2.CX X.prog X.w) X σ (E σ)) (ha : PA X (e :: es) t)
    (hdb : (x == ("__debug__" : Str)) = false := by decide) (he : starEach (e :: es) X.env = (false, eval e X.env) :: starEach es X.env := by rfl) (hpl : (backTo pos (starEach es X.env)).any (·.1) = false := by rfl) :
    PE X (.Call (.Name x p) (e :: es) [] pos) (tCallS sp E t) := by
  obtain ⟨f, fd, ps, F, hm, kp, b⟩ := c.ex
  exact pe_callS F (hr.mono hk) hg hm kp b hx ha hdb he hpl
end
section
variable {P : Program} {w : World} {K : PySem.W.Frag} {mg : Str → Option Value} {base : Heap}
/-- a def by its body, which may let an exception out -/
theorem calX {x : Str} {st : Stmt} {f : Addr} {fd : FuncData} {N ps : List Str} {k : Nat} {sp : Sp} (F : C8.Def K mg x st f fd) (b : Binds K fd ps []) (S : FnScope N ps (C8.fnScope st)) (len : ∀ vs H Q E, sp vs H Q E → vs.length = ps.length)
    (hbody : ∀ (cdv : Value) (A : Around) (outer : List Env) (s : Shared) (H : Hp) (vs : List V) (Q : VK) (E : XK), Room k (A.deeper (envOfC x (C8.fnScope st) s.heap.objs.size f cdv)) → sp vs H Q E →
      ∃ t, PSs (cxOf (L2.CX P w) P w K mg base N x (C8.fnScope st) f cdv A outer s H E) (C8.fnBody st) t ∧ t { nx := fun _ H' => Q .non H', rt := Q } (L2.start N vs) H) : CalX P w K mg base (k + 1) x sp := by
  refine ⟨f, fd, ps, ?_, F.mgf, F.kp, b⟩
  obtain ⟨oc, od, dV, kV, doc, pm, an, cdv, ct, osl, rfl, lk, hcd⟩ := F.fn.ex
  exact fn_of lk hcd S len fun A outer s H vs Q E hr hsp => hbody cdv A outer s H vs Q E hr hsp
end

/-! ### list.count of flat items -/
section
variable {X : Cx}
theorem count_eqU {x : V} : ∀ {xs : List V} {us : List Value}, Vals xs us → xs.all flatV = true → us.countP (eqU x) = xs.countP fun y => eqV y x
  | _, _, .nil, _ => rfl
  | y :: xs, u :: us, .cons r t, f => by
    rw [List.all_cons, Bool.and_eq_true] at f
    rw [List.countP_cons, List.countP_cons, eqU_of r f.1, count_eqU t f.2]
def rCntV (K : PySem.W.Frag) : V → List V → Hp → VK → Prop := fun x xs H Q => ∃ (p : Addr) (ys : List V) (y : V), x = .ref p ∧ xs = [y] ∧ SqL K H p ys ∧ flatV y = true ∧ ys.all flatV = true ∧ Q (.int ((ys.countP fun z => eqV z y : Nat) : Int)) H
theorem mt_lcountV : MtR X "list.count" (rCntV X.K) := by
  intro pins s σ H x xs v us Q I rx rxs h
  obtain ⟨p, ys, y, rfl, rfl, hs, fy, fys, q⟩ := h
  cases rx
  obtain ⟨u, rfl, ru⟩ := rxs.one
  obtain ⟨its, rv, ⟨⟨cls, dd, data, sl⟩, n, ho, hc, hdn, hd⟩, hlen⟩ := I.list hs
  simp only at hc hd
  subst hc hd
  refine call_meets PySem.F.slot_list_count ⟨_, ho, rfl⟩ PySem.F.entry_list_count (PySem.F.args_list_count_2 _ _)
    (SeqAt.list_countAt p its.toArray n dd sl u (eqU y)) ⟨ho, fun u' hu' => mem_eqAt ru fy rv fys u' (by simpa using hu'), ?_⟩
  have ec : its.toArray.toList.countP (eqU y) = ys.countP fun z => eqV z y := count_eqU rv fys
  refine ⟨.int (ys.countP fun z => eqV z y : Nat), H, I.tok _, ⟨s.toks, ?_⟩, q⟩
  show Value.int ((its.toArray.toList.countP (eqU y) : Nat) : Int) s.toks = Value.int ((ys.countP fun z => eqV z y : Nat) : Int) s.toks
  rw [ec]
end

/-! ### isinstance of a caught error, its class told by the reading -/
def rIsE2 (K : PySem.W.Frag) (cls : Value) (d : Option Addr) (a : Addr) : List V → Hp → VK → Prop := fun xs H Q => ∃ (D : Addr) (c : V) (cv : Value) (b : Bool), cls = .ref D ∧ d = none ∧ ExcC K D ∧ xs = [.ref a, c] ∧ (∀ u, RelV c u → u = cv) ∧ PySem.W.kitOne K (.ref D) cv = some b ∧ Q (.bl b) H
theorem call_isE2 {X : Cx} {a : Addr} {cls : Value} {d : Option Addr} {oe : Obj} {pn : List (Addr × Obj)} (hz : Zc cls d oe) (hf : ∃ vs, oe.data = .fields vs) : CallR (X.suite a ((a, oe) :: pn)) (.builtin "isinstance") (rIsE2 X.K cls d a) := by
  intro pins s σ H xs us Q I r h
  obtain ⟨D, c, cv, b, rfl, rfl, C, e, hcv, hk, q⟩ := h
  exact call_isE C hz hf pins s σ H xs us Q I r ⟨c, cv, b, e, hcv, hk, q⟩

/-- where an exception is, the slots are as many as the names -/
theorem takes_len {X : Cx} {W : WX} (t : Takes X W) : Takes X (fun c d σ H => σ.length = X.N.length → W c d σ H) := fun u s' x => by
  obtain ⟨a, B, sI, pins, σ, H, cls, d, e, I, x1, x2, x3, x4, x5, x6, q⟩ := x
  exact t u s' ⟨a, B, sI, pins, σ, H, cls, d, e, I, x1, x2, x3, x4, x5, x6, q I.len⟩

/-! ### built-ins by name -/
def rLen (K : PySem.W.Frag) : List V → Hp → VK → Prop := fun xs H Q => ∃ p ys, xs = [.ref p] ∧ (SqL K H p ys ∨ SqT K H p ys) ∧ Q (.int ys.length) H
theorem call_len1 {X : Cx} : CallR X (.builtin "len") (rLen X.K) := call_len_seq
def rListOf (K : PySem.W.Frag) : List V → Hp → VK → Prop := fun xs H Q => ∃ p ys, xs = [.ref p] ∧ (SqL K H p ys ∨ SqT K H p ys) ∧ ∀ l, H l = none → Q (.ref l) (upd H l (.lst ys))
theorem call_list1 {X : Cx} : CallR X (.type "list") (rListOf X.K) := call_list_of
def rMax2 : List V → Hp → VK → Prop := fun xs H Q => ∃ i j, xs = [.int i, .int j] ∧ Q (.int (if j > i then j else i)) H
theorem call_max1 {X : Cx} (hc : X.calm = true) : CallR X (.builtin "max") rMax2 := call_max2 hc
def rMin2 : List V → Hp → VK → Prop := fun xs H Q => ∃ i j, xs = [.int i, .int j] ∧ Q (.int (if j < i then j else i)) H
theorem call_min1 {X : Cx} (hc : X.calm = true) : CallR X (.builtin "min") rMin2 := call_min2 hc
def rInt1 : List V → Hp → VK → Prop := fun xs H Q => (∃ i, xs = [.int i] ∧ Q (.int i) H) ∨ ∃ k, xs = [.bl k] ∧ Q (.int (if k then 1 else 0)) H
theorem call_intB {X : Cx} : CallR X (.type "int") rInt1 := call_int1

def rIsN : R2 := fun x y H Q => y = .non ∧ Q (.bl (decide (x = .non))) H
theorem op_isN1 {X : Cx} : OpR X (compareOp .Is) rIsN := op_isN
def rNotN : R2 := fun x y H Q => y = .non ∧ Q (.bl (!decide (x = .non))) H
theorem op_notN1 {X : Cx} : OpR X (compareOp .IsNot) rNotN := op_notN

/-! ### steps -/
section
variable {σ : L2.St} {H : Hp} {Q : VK} {QB : Bool → Hp → Prop} {QA : List V → Hp → Prop} {i : Nat} {v x y : V} {ta tb tc te : TE} {t u : TT} {ts us : TS} {D : Ends} {n m : Int} {K : PySem.W.Frag} {r r' r2 : R2}
theorem g_var (h : σ[i]? = some (some v)) (q : Q v H) : tVar i σ H Q := ⟨v, h, q⟩
theorem g_c (q : Q v H) : tC v σ H Q := q
theorem g_op (h : ta σ H fun x H1 => tb σ H1 fun y H2 => r x y H2 Q) : tOp r ta tb σ H Q := h
theorem g_un {r : V → Hp → VK → Prop} (h : ta σ H fun x H1 => r x H1 Q) : tUn r ta σ H Q := h
theorem g_I0 {g : Int → Int → V} (q : Q (g n m) H) : rI0 g (.int n) (.int m) H Q := ⟨n, m, rfl, rfl, q⟩
theorem g_I {C : Int → Int → Prop} {g : Int → Int → V} (c : C n m) (q : Q (g n m) H) : rI C g (.int n) (.int m) H Q := ⟨n, m, rfl, rfl, c, q⟩
theorem g_U {g : Int → V} (q : Q (g n) H) : rU g (.int n) H Q := ⟨n, rfl, q⟩
theorem g_eqI (q : Q (.bl (decide (n = m))) H) : rEq (.int n) (.int m) H Q := ⟨rfl, by
  have e : decide (V.int n = V.int m) = decide (n = m) := by by_cases h : n = m <;> simp [h]
  rw [e]; exact q⟩
theorem g_neI (q : Q (.bl (!decide (n = m))) H) : rNe (.int n) (.int m) H Q := ⟨rfl, by
  have e : decide (V.int n = V.int m) = decide (n = m) := by by_cases h : n = m <;> simp [h]
  rw [e]; exact q⟩
theorem g_eqS {a b : Str} (q : Q (.bl (decide (a = b))) H) : rEq (.str a) (.str b) H Q := ⟨rfl, by
  have e : decide (V.str a = V.str b) = decide (a = b) := by by_cases h : a = b <;> simp [h]
  rw [e]; exact q⟩
theorem g_neS {a b : Str} (q : Q (.bl (!decide (a = b))) H) : rNe (.str a) (.str b) H Q := ⟨rfl, by
  have e : decide (V.str a = V.str b) = decide (a = b) := by by_cases h : a = b <;> simp [h]
  rw [e]; exact q⟩
theorem g_eqB {a b : Bool} (q : Q (.bl (a == b)) H) : rEq (.bl a) (.bl b) H Q := ⟨rfl, by
  have e : decide (V.bl a = V.bl b) = (a == b) := by cases a <;> cases b <;> rfl
  rw [e]; exact q⟩
theorem g_neB {a b : Bool} (q : Q (.bl (a != b)) H) : rNe (.bl a) (.bl b) H Q := ⟨rfl, by
  have e : (!decide (V.bl a = V.bl b)) = (a != b) := by cases a <;> cases b <;> rfl
  rw [e]; exact q⟩
theorem g_isN (q : Q (.bl (decide (x = .non))) H) : rIsN x .non H Q := ⟨rfl, q⟩
theorem g_notN (q : Q (.bl (!decide (x = .non))) H) : rNotN x .non H Q := ⟨rfl, q⟩
theorem g_test (h : te σ H fun x H' => ∃ k, x = .bl k ∧ QB k H') : tTest te σ H QB := h
theorem g_tB (h : te σ H fun x H' => ∃ k, x = .bl k ∧ QB k H') : tB te σ H QB := h
theorem g_bl {b : Bool} (q : QB b H) : ∃ k, V.bl b = .bl k ∧ QB k H := ⟨b, rfl, q⟩
theorem g_and (h : t σ H fun c H1 => if c = true then u σ H1 QB else QB false H1) : tAnd t u σ H QB := h
theorem g_or (h : t σ H fun c H1 => if c = true then QB true H1 else u σ H1 QB) : tOr t u σ H QB := h
theorem g_not (h : t σ H fun c H1 => QB (!c) H1) : tNot t σ H QB := h
theorem g_andV (h : ta σ H fun x H1 => ∃ c, x = .bl c ∧ if c = true then tb σ H1 Q else Q (.bl false) H1) : tAndV ta tb σ H Q := h
theorem g_orV (h : ta σ H fun x H1 => ∃ c, x = .bl c ∧ if c = true then Q (.bl true) H1 else tb σ H1 Q) : tOrV ta tb σ H Q := h
theorem g_notV (h : ta σ H fun x H1 => ∃ c, x = .bl c ∧ Q (.bl (!c)) H1) : tNotV ta σ H Q := h
theorem g_blI {b : Bool} {p : Bool → Prop} (q : p b) : ∃ k, V.bl b = .bl k ∧ p k := ⟨b, rfl, q⟩
theorem g_if (h : t σ H fun c H1 => if c = true then ta σ H1 Q else tb σ H1 Q) : tIf t ta tb σ H Q := h
theorem g_chain (h : ta σ H fun x H1 => tb σ H1 fun y H2 => r x y H2 fun z H3 => ∃ k, z = .bl k ∧ (if k = true then tc σ H3 fun w' H4 => r' y w' H4 Q else Q (.bl false) H3)) : tChain r r' ta tb tc σ H Q := h
theorem g_chain3 {td : TE} (h : ta σ H fun x H1 => tb σ H1 fun y H2 => r x y H2 fun z H3 => ∃ k, z = .bl k ∧
  (if k = true then tc σ H3 fun w' H4 => r' y w' H4 fun z2 H5 => ∃ k2, z2 = .bl k2 ∧ (if k2 = true then td σ H5 fun w2 H6 => r2 w' w2 H6 Q else Q (.bl false) H5) else Q (.bl false) H3)) : tChain3 r r' r2 ta tb tc td σ H Q := h
theorem g_nil (q : QA [] H) : tNil σ H QA := q
theorem g_cons {tr : TA} (h : ta σ H fun x H1 => tr σ H1 fun xs H2 => QA (x :: xs) H2) : tCons ta tr σ H QA := h
theorem g_tup {tr : TA} (h : tr σ H fun xs H1 => xs.length ≤ sizeLine ∧ ∀ p, H1 p = none → Q (.ref p) (upd H1 p (.tup xs))) : tTup tr σ H Q := h
theorem g_lst {tr : TA} (h : tr σ H fun xs H1 => xs.length ≤ sizeLine ∧ ∀ p, H1 p = none → Q (.ref p) (upd H1 p (.lst xs))) : tLst tr σ H Q := h
theorem g_CB {r : List V → Hp → VK → Prop} {tr : TA} (h : tr σ H fun vs H1 => r vs H1 Q) : tCB r tr σ H Q := h
theorem g_call {sp : Sp} {dvs : List V} {E : XK} {tr : TA} (h : tr σ H fun vs H1 => sp (vs ++ dvs) H1 Q E) : tCall sp dvs E tr σ H Q := h
theorem g_callS {sp : Sp} {E : L2.St → XK} {tr : TA} (h : tr σ H fun vs H1 => sp vs H1 Q (E σ)) : tCallS sp E tr σ H Q := h
theorem g_bm {T : String} {r : V → List V → Hp → VK → Prop} {tr : TA} (h : ta σ H fun x H1 => tyV K T x H1 ∧ tr σ H1 fun xs H2 => r x xs H2 Q) : tBM K T r ta tr σ H Q := h
theorem g_bm0 {T : String} {r : V → List V → Hp → VK → Prop} (h : ta σ H fun x H1 => tyV K T x H1 ∧ r x [] H1 Q) : tBM0 K T r ta σ H Q := h
theorem g_sl {r : V → Option Int → Option Int → Hp → VK → Prop} {tl th : TO} (h : te σ H fun x H1 => tl σ H1 fun l H2 => th σ H2 fun u H3 => r x l u H3 Q) : tSl r te tl th σ H Q := h
theorem g_part {QO : Option Int → Hp → Prop} (h : te σ H fun x H1 => ∃ i, x = .int i ∧ QO (some i) H1) : tPart te σ H QO := h
theorem g_part1 {p : Int → Prop} (h : p n) : ∃ i, V.int n = .int i ∧ p i := ⟨n, rfl, h⟩
theorem g_noPart {QO : Option Int → Hp → Prop} (h : QO none H) : tNoPart σ H QO := h
-- statements
theorem g_seq {a : L2.St → Hp → Prop} {b : VK} {c d : L2.St → Hp → Prop} (h : ts ⟨us ⟨a, b, c, d⟩, b, c, d⟩ σ H) : tSeq ts us ⟨a, b, c, d⟩ σ H := h
theorem g_fit {xs : List V} {R : Addr → Prop} (hl : Nat.ble xs.length 1000 = true) (q : ∀ p, H p = none → R p) : xs.length ≤ sizeLine ∧ ∀ p, H p = none → R p := ⟨Nat.le_trans (Nat.le_of_ble_eq_true hl) (by decide), q⟩
theorem g_next (h : D.nx σ H) : tNext D σ H := h
theorem g_asg {g : TG} (h : te σ H fun x H1 => g x σ H1 D.nx) : tAsg te g D σ H := h
theorem g_name {Qg : L2.St → Hp → Prop} (h : Qg (σ.set i (some v)) H) : gName i v σ H Qg := h
theorem g_sub {to ti : TE} {t : TSet} {Qg : L2.St → Hp → Prop} (h : to σ H fun o H1 => ti σ H1 fun i H2 => t o i v H2 fun H3 => Qg σ H3) : gSub to ti t v σ H Qg := h
theorem g_gnil {Qg : L2.St → Hp → Prop} (h : Qg σ H) : gNil [] σ H Qg := ⟨rfl, h⟩
theorem g_gcons {tg : TG} {ug : TGs} {vs : List V} {Qg : L2.St → Hp → Prop} (h : tg v σ H fun σ' H' => ug vs σ' H' Qg) : gCons tg ug (v :: vs) σ H Qg := ⟨v, vs, rfl, h⟩
theorem g_drop (h : te σ H fun _ H1 => D.nx σ H1) : tDrop te D σ H := h
theorem g_ret (h : te σ H D.rt) : tRet te D σ H := h
theorem g_retN (h : D.rt .non H) : tRetN D σ H := h
theorem g_brk (h : D.bk σ H) : tBreak D σ H := h
theorem g_cont (h : D.ct σ H) : tCont D σ H := h
theorem g_ifS (h : t σ H fun b H1 => if b = true then ts D σ H1 else us D σ H1) : tIfS t ts us D σ H := h
theorem g_nx {a : L2.St → Hp → Prop} {b : VK} {c d : L2.St → Hp → Prop} (h : a σ H) : Ends.nx ⟨a, b, c, d⟩ σ H := h
theorem g_bk {a : L2.St → Hp → Prop} {b : VK} {c d : L2.St → Hp → Prop} (h : c σ H) : Ends.bk ⟨a, b, c, d⟩ σ H := h
theorem g_ct {a : L2.St → Hp → Prop} {b : VK} {c d : L2.St → Hp → Prop} (h : d σ H) : Ends.ct ⟨a, b, c, d⟩ σ H := h
theorem g_rt {a : L2.St → Hp → Prop} {b : VK} {c d : L2.St → Hp → Prop} (h : b v H) : Ends.rt ⟨a, b, c, d⟩ v H := h
theorem g_rng1 {tr : TA} {R : It → Hp → Prop} (h : tr σ H fun vs H1 => ∃ j : Int, vs = [.int j] ∧ -(2 ^ 62) ≤ j ∧ j < 2 ^ 62 ∧ R (Itr 0 j.toNat) H1) : iRng1 tr σ H R := h
theorem g_rng2 {tr : TA} {R : It → Hp → Prop} (h : tr σ H fun vs H1 => ∃ i j : Int, vs = [.int i, .int j] ∧ (-(2 ^ 62) ≤ i ∧ i < 2 ^ 62 ∧ -(2 ^ 62) ≤ j ∧ j < 2 ^ 62) ∧ R (Itr i (j - i).toNat) H1) : iRng2 tr σ H R := h
theorem g_iList {R : It → Hp → Prop} (h : te σ H fun x H1 => ∃ a, x = .ref a ∧ (∃ xs, SqL K H1 a xs) ∧ R (Itl K a) H1) : iList K te σ H R := h
theorem g_iTup {R : It → Hp → Prop} (h : te σ H fun x H1 => ∃ a, x = .ref a ∧ (∃ xs, SqT K H1 a xs) ∧ R (Itt K a) H1) : iTup K te σ H R := h
def ForEnd (g : TG) (tb : TS) (a : L2.St → Hp → Prop) (b : VK) (σ : L2.St) (J : It) (H1 : Hp) : Prop := ∃ W : Nat → Nat → L2.St → Hp → Prop, (∃ m, W 0 m σ H1) ∧ ∀ i m σ H, W i m σ H →
  (J.stop i H ∧ a σ H) ∨ (J.go i H ∧ ∃ N : L2.St → Hp → Prop, (∀ σ' H', N σ' H' → ∃ m', m' < m ∧ W (i + 1) m' σ' H') ∧ ∀ x H', J.yld i H x H' → g x σ H' fun σ2 H2 => tb ⟨N, b, a, N⟩ σ2 H2)
theorem g_for {a : L2.St → Hp → Prop} {b : VK} {c d : L2.St → Hp → Prop} {wi : TI} {g : TG} {tb : TS} (h : wi σ H (ForEnd g tb a b σ)) : tFor wi g tb ⟨a, b, c, d⟩ σ H := h
theorem w_list {a : L2.St → Hp → Prop} {b : VK} {g : TG} {tb : TS} {p : Addr} {xs : List V} (Pv : Nat → L2.St → Hp → Prop) (h0 : Pv 0 σ H) (hl : ∀ i σ H, i ≤ xs.length → Pv i σ H → SqL K H p xs)
    (hs : ∀ i x σ H, xs[i]? = some x → Pv i σ H → g x σ H fun σ2 H2 => tb ⟨Pv (i + 1), b, a, Pv (i + 1)⟩ σ2 H2) (hd : ∀ σ H, Pv xs.length σ H → a σ H) : ∃ q, V.ref p = .ref q ∧ (∃ xs, SqL K H q xs) ∧ ForEnd g tb a b σ (Itl K q) H :=
  ⟨p, rfl, ⟨xs, hl 0 σ H (Nat.zero_le _) h0⟩, for_list (D := ⟨a, b, fun _ _ => False, fun _ _ => False⟩) Pv h0 hl hs hd⟩
theorem w_tup {a : L2.St → Hp → Prop} {b : VK} {g : TG} {tb : TS} {p : Addr} {xs : List V} (Pv : Nat → L2.St → Hp → Prop) (h0 : Pv 0 σ H) (hl : ∀ i σ H, i ≤ xs.length → Pv i σ H → SqT K H p xs)
    (hs : ∀ i x σ H, xs[i]? = some x → Pv i σ H → g x σ H fun σ2 H2 => tb ⟨Pv (i + 1), b, a, Pv (i + 1)⟩ σ2 H2) (hd : ∀ σ H, Pv xs.length σ H → a σ H) : ∃ q, V.ref p = .ref q ∧ (∃ xs, SqT K H q xs) ∧ ForEnd g tb a b σ (Itt K q) H :=
  ⟨p, rfl, ⟨xs, hl 0 σ H (Nat.zero_le _) h0⟩, for_tup (D := ⟨a, b, fun _ _ => False, fun _ _ => False⟩) Pv h0 hl hs hd⟩
/-- range(n) -/
theorem w_range {a : L2.St → Hp → Prop} {b : VK} {g : TG} {tb : TS} {n : Int} (h1 : -(2 ^ 62) ≤ n) (h2 : n < 2 ^ 62) (Pv : Nat → L2.St → Hp → Prop) (h0 : Pv 0 σ H)
    (hs : ∀ i σ H, i < n.toNat → Pv i σ H → g (.int i) σ H fun σ2 H2 => tb ⟨Pv (i + 1), b, a, Pv (i + 1)⟩ σ2 H2) (hd : ∀ σ H, Pv n.toNat σ H → a σ H) :
    ∃ j : Int, [V.int n] = [.int j] ∧ -(2 ^ 62) ≤ j ∧ j < 2 ^ 62 ∧ ForEnd g tb a b σ (Itr 0 j.toNat) H :=
  ⟨n, rfl, h1, h2, for_range (D := ⟨a, b, fun _ _ => False, fun _ _ => False⟩) Pv h0 (fun i σ H hi p => by have q := hs i σ H hi p; rw [Int.zero_add]; exact q) hd⟩
theorem w_while {a : L2.St → Hp → Prop} {b : VK} {c d : L2.St → Hp → Prop} {tc : TT} {tb : TS} (Pv : L2.St → Hp → Prop) (μ : L2.St → Hp → Nat) (h0 : Pv σ H)
    (hs : ∀ σ H, Pv σ H → tc σ H fun b' H1 => if b' = true then tb ⟨fun σ' H' => Pv σ' H' ∧ μ σ' H' < μ σ H, b, a, fun σ' H' => Pv σ' H' ∧ μ σ' H' < μ σ H⟩ σ H1 else a σ H1)
    (mono : ∀ σ H Q Q', (∀ b H1, Q b H1 → Q' b H1) → tc σ H Q → tc σ H Q') : tWhile tc tb ⟨a, b, c, d⟩ σ H := while_by Pv μ h0 hs mono
theorem g_itT {b : Bool} {A B : Prop} (h : b = true) (q : A) : if b = true then A else B := by rw [h]; exact iteT q
theorem g_itF {b : Bool} {A B : Prop} (h : b = false) (q : B) : if b = true then A else B := by rw [h]; exact iteF q
theorem g_ite {c : Prop} [Decidable c] {A B : Prop} (h1 : c → A) (h2 : ¬ c → B) : if decide c = true then A else B := by
  by_cases h : c
  · rw [decide_eq_true h]; exact iteT (h1 h)
  · rw [decide_eq_false h]; exact iteF (h2 h)
theorem g_iteN {c : Prop} [Decidable c] {A B : Prop} (h1 : ¬ c → A) (h2 : c → B) : if (!decide c) = true then A else B := by
  by_cases h : c
  · rw [decide_eq_true h]; exact iteF (h2 h)
  · rw [decide_eq_false h]; exact iteT (h1 h)
theorem g_len {p : Addr} {xs : List V} (h : SqL K H p xs ∨ SqT K H p xs) (q : Q (.int xs.length) H) : rLen K [.ref p] H Q := ⟨p, xs, rfl, h, q⟩
theorem g_ixL {p : Addr} {xs : List V} (h : SqL K H p xs) (ha : atI xs n = some v) (q : Q v H) : rIxL K (.ref p) (.int n) H Q := ⟨p, xs, n, v, rfl, rfl, h, ha, q⟩
theorem g_ixT {p : Addr} {xs : List V} (h : SqT K H p xs) (ha : atI xs n = some v) (q : Q v H) : rIxT K (.ref p) (.int n) H Q := ⟨p, xs, n, v, rfl, rfl, h, ha, q⟩
theorem g_setL {p : Addr} {xs : List V} {j : Nat} {q : Hp → Prop} (h : H p = some (.lst xs)) (hj : ixN xs.length n = some j) (k : q (upd H p (.lst (xs.set j v)))) : rSetL (.ref p) (.int n) v H q := ⟨p, xs, n, j, rfl, rfl, h, hj, k⟩
theorem mulW_small {i j : Int} (h1 : 0 ≤ i) (h2 : i < 2147483648) (h3 : 0 ≤ j) (h4 : j < 2147483648) : CMulW i j := wide_mul (a := 31) (b := 31) (by show _ < 2147483648; omega) (by show _ < 2147483648; omega) (by decide) (by decide) (by decide)
theorem divW_small {i j : Int} (h1 : 0 < j) (h2 : j < 10 ^ 38) : CDivW i j := wide_div (b := 127) h1 (by show _ < (2 : Nat) ^ 127; omega) (by decide) (by decide)
theorem g_append {p : Addr} {xs : List V} (h : H p = some (.lst xs)) (hl : xs.length < 100000) (q : Q .non (upd H p (.lst (xs ++ [v])))) : rAppend (.ref p) [v] H Q := ⟨p, xs, v, rfl, rfl, h, Nat.lt_of_lt_of_le hl (by decide), q⟩
theorem g_tyL {p : Addr} {xs : List V} {R : Prop} (h : H p = some (.lst xs)) (q : R) : tyV K "list" (.ref p) H ∧ R := ⟨.inl ⟨rfl, _, SqL.of h⟩, q⟩
theorem g_listOf {p : Addr} {xs : List V} (h : SqL K H p xs) (q : ∀ l, H l = none → Q (.ref l) (upd H l (.lst xs))) : rListOf K [.ref p] H Q := ⟨p, xs, rfl, .inl h, q⟩
theorem g_listOfT {p : Addr} {xs : List V} (h : SqT K H p xs) (q : ∀ l, H l = none → Q (.ref l) (upd H l (.lst xs))) : rListOf K [.ref p] H Q := ⟨p, xs, rfl, .inr h, q⟩
theorem g_int1B {b : Bool} (q : Q (.int (if b then 1 else 0)) H) : rInt1 [.bl b] H Q := .inr ⟨b, rfl, q⟩
theorem g_gtup {p : Addr} {xs : List V} {k : Nat} {tg : TGs} {Qg : L2.St → Hp → Prop} (h : SqT K H p xs) (hl : xs.length = k) (q : tg xs σ H Qg) : gTup K k tg (.ref p) σ H Qg := ⟨p, xs, rfl, h, hl, q⟩
theorem g_isi {c : V} {tv uv : Value} {b : Bool} (h1 : ClsV c uv) (h2 : TyX K H x tv) (h3 : PySem.W.kitOne K tv uv = some b) (q : Q (.bl b) H) : rIsi K [x, c] H Q := ⟨x, c, tv, uv, b, rfl, h1, h2, h3, q⟩
theorem g_max2 (q : Q (.int (if m > n then m else n)) H) : rMax2 [.int n, .int m] H Q := ⟨n, m, rfl, q⟩
theorem g_min2 (q : Q (.int (if m < n then m else n)) H) : rMin2 [.int n, .int m] H Q := ⟨n, m, rfl, q⟩
end

/-! ### heaps in which the list at S changes -/
def Frm (S : Addr) (H H' : Hp) : Prop := ∀ b o, b ≠ S → H b = some o → H' b = some o
theorem Frm.refl (S : Addr) (H : Hp) : Frm S H H := fun _ _ _ h => h
theorem Frm.trans {S : Addr} {H H1 H2 : Hp} (a : Frm S H H1) (b : Frm S H1 H2) : Frm S H H2 := fun c o n h => b c o n (a c o n h)
theorem Frm.of {S : Addr} {H H' : Hp} (e : Same H H') : Frm S H H' := fun b o _ h => e b o h
theorem Frm.set {S : Addr} {H : Hp} {o : HO} : Frm S H (upd H S o) := fun b u n h => by rw [upd_ne n]; exact h
theorem same_new {H : Hp} {p : Addr} {o : HO} (h : H p = none) : Same H (upd H p o) := fun b u e => by rw [upd_ne (ne_of_none e h)]; exact e
/-- what may be read at a, whatever becomes of S -/
def ScL (K : PySem.W.Frag) (S : Addr) (H : Hp) (a : Addr) (xs : List V) : Prop := (a ≠ S ∧ Rd H a (.lst xs)) ∨ ∀ H', SqL K H' a xs
theorem ScL.sq {K : PySem.W.Frag} {S : Addr} {H : Hp} {a : Addr} {xs : List V} (h : ScL K S H a xs) : SqL K H a xs := by
  rcases h with ⟨_, h⟩ | h
  · exact .inl h
  · exact h H
theorem ScL.frm {K : PySem.W.Frag} {S : Addr} {H H' : Hp} {a : Addr} {xs : List V} (h : ScL K S H a xs) (f : Frm S H H') : ScL K S H' a xs := by
  rcases h with ⟨n, h⟩ | h
  · refine .inl ⟨n, ?_⟩
    rcases h with h | ⟨o, h⟩
    · exact .inl (f _ _ n h)
    · exact .inr ⟨o, f _ _ n h⟩
  · exact .inr h
theorem ScL.of {K : PySem.W.Frag} {S : Addr} {H H' : Hp} {a : Addr} {xs : List V} (h : SqL K H a xs) (e : Same H H') (n : H S = none) : ScL K S H' a xs := by
  rcases h with h | h
  · rcases h with h | ⟨o, h⟩
    · exact .inl ⟨ne_of_none h n, .inl (e _ _ h)⟩
    · exact .inl ⟨ne_of_none h n, .inr ⟨o, e _ _ h⟩⟩
  · exact .inr fun H' => .inr h
/-- the drawing's state at S; what B tracks stands as it stood -/
def Dst (K : PySem.W.Frag) (B H : Hp) (S : Addr) : Prop := ∃ (sc : Addr) (ns : List Int) (c m r : Int), H S = some (.lst [.ref sc, .int c, .int m, .int r]) ∧ ScL K S B sc (ns.map V.int) ∧ Frm S B H ∧ ns.length ≤ 63 ∧ 0 ≤ c ∧ 0 ≤ m ∧ m < 2147483647
theorem Dst.same {K : PySem.W.Frag} {B H H' : Hp} {S : Addr} (d : Dst K B H S) (e : Same H H') : Dst K B H' S := by
  obtain ⟨sc, ns, c, m, r, h1, h2, h3, h4⟩ := d
  exact ⟨sc, ns, c, m, r, e _ _ h1, h2, h3.trans (.of e), h4⟩
theorem Dst.has {K : PySem.W.Frag} {B H : Hp} {S : Addr} (d : Dst K B H S) : H S ≠ none := by
  obtain ⟨sc, ns, c, m, r, h1, _⟩ := d
  rw [h1]; exact fun z => nomatch z
theorem Dst.ne {K : PySem.W.Frag} {B H : Hp} {S p : Addr} (d : Dst K B H S) (h : H p = none) : p ≠ S := fun e => d.has (e ▸ h)
theorem Dst.fresh {K : PySem.W.Frag} {B H : Hp} {S p : Addr} (d : Dst K B H S) (h : H p = none) : B p = none := by
  have n := d.ne h
  obtain ⟨sc, ns, c, m, r, h1, h2, h3, h4⟩ := d
  cases e : B p with
  | none => rfl
  | some o => rw [h3 p o n e] at h; cases h
/-- a thing that B does not know changes -/
theorem Dst.mut {K : PySem.W.Frag} {B H : Hp} {S p : Addr} {o : HO} (d : Dst K B H S) (n : p ≠ S) (h : B p = none) : Dst K B (upd H p o) S := by
  obtain ⟨sc, ns, c, m, r, h1, h2, h3, h4⟩ := d
  refine ⟨sc, ns, c, m, r, ?_, h2, fun b u hb e => ?_, h4⟩
  · rw [upd_ne n.symm]; exact h1
  · rw [upd_ne (ne_of_none e h)]; exact h3 b u hb e
theorem Frm.mut {S p : Addr} {H H' : Hp} {o : HO} (f : Frm S H H') (h : H p = none) : Frm S H (upd H' p o) := fun b u n e => by
  rw [upd_ne (ne_of_none e h)]; exact f b u n e
theorem Frm.new {S p : Addr} {H : Hp} {o : HO} (h : H p = none) : Frm S H (upd H p o) := .of (same_new h)
theorem Frm.back {S p : Addr} {H H' : Hp} (f : Frm S H H') (n : p ≠ S) (h : H' p = none) : H p = none := by
  cases e : H p with
  | none => rfl
  | some o => rw [f p o n e] at h; cases h
theorem Same.back {H H' : Hp} {p : Addr} (f : Same H H') (h : H' p = none) : H p = none := by
  cases e : H p with
  | none => rfl
  | some o => rw [f p o e] at h; cases h
theorem Same.mut {H H' : Hp} {p : Addr} {o : HO} (f : Same H H') (h : H p = none) : Same H (upd H' p o) := fun b u e => by
  rw [upd_ne (ne_of_none e h)]; exact f b u e
theorem pow_small {i j : Int} (h0 : 0 ≤ j) (h1 : j ≤ 1000) (h2 : i.natAbs < 2 ^ 32) : CPow i j := ⟨h0, by omega, Nat.lt_trans h2 (by decide)⟩
theorem atI_mem {xs : List V} {z : Int} (h0 : 0 ≤ z) (h1 : z < xs.length) : ∃ x, x ∈ xs ∧ atI xs z = some x := by
  have hl : z.toNat < xs.length := by omega
  exact ⟨xs[z.toNat], List.getElem_mem hl, at_of (j := z.toNat) (by omega) (List.getElem?_eq_getElem hl)⟩
theorem map_at {ns : List Int} {i : Nat} {x : V} (h : (ns.map V.int)[i]? = some x) : ∃ n, ns[i]? = some n ∧ x = V.int n := by
  rw [List.getElem?_map] at h
  cases hq : ns[i]? with
  | none => rw [hq] at h; cases h
  | some z => rw [hq] at h; exact ⟨z, rfl, (Option.some.inj h).symm⟩
/-- what stands beside S -/
def Live (S : Addr) (H : Hp) (L : List (Addr × HO)) : Prop := ∀ p ∈ L, p.1 ≠ S ∧ H p.1 = some p.2
theorem Live.nil {S : Addr} {H : Hp} : Live S H [] := fun _ h => (List.not_mem_nil h).elim
theorem Live.frm {S : Addr} {H H' : Hp} {L : List (Addr × HO)} (l : Live S H L) (f : Frm S H H') : Live S H' L := fun p h => ⟨(l p h).1, f _ _ (l p h).1 (l p h).2⟩
theorem Live.cons {S : Addr} {H : Hp} {L : List (Addr × HO)} {a : Addr} {o : HO} (l : Live S H L) (n : a ≠ S) (h : H a = some o) : Live S H ((a, o) :: L) := fun p hp => by
  rcases List.mem_cons.mp hp with e | e
  · subst e; exact ⟨n, h⟩
  · exact l p e
theorem Live.get {S : Addr} {H : Hp} {L : List (Addr × HO)} (l : Live S H L) (i : Nat) {a : Addr} {o : HO} (h : L[i]? = some (a, o)) : H a = some o := (l _ (List.mem_of_getElem? h)).2
theorem Live.ne {S : Addr} {H : Hp} {L : List (Addr × HO)} (l : Live S H L) (i : Nat) {a : Addr} {o : HO} (h : L[i]? = some (a, o)) : a ≠ S := (l _ (List.mem_of_getElem? h)).1
/-- a new object is laid -/
theorem Live.new {S : Addr} {H : Hp} {L : List (Addr × HO)} {p : Addr} {o : HO} (l : Live S H L) (hp : H p = none) (hS : H S ≠ none) : Live S (upd H p o) ((p, o) :: L) :=
  (l.frm (.of (same_new hp))).cons (fun e => hS (e ▸ hp)) upd_same

/-! ### == of data -/
section
variable {K : PySem.W.Frag} {H : Hp} {Q : VK}
theorem dpAll_ints : ∀ ns : List Int, DpAll K H (ns.map V.int) (ns.map PyData.int)
  | [] => .nil
  | n :: ns => .cons (.int n) (dpAll_ints ns)
theorem dp_ints {a : Addr} {ns : List Int} (h : SqL K H a (ns.map V.int)) : Dp K H (.ref a) (.list (ns.map PyData.int)) := .lst h (dpAll_ints ns)
theorem eqvAll_ints : ∀ ns ms : List Int, PyData.eqvAll (ns.map PyData.int) (ms.map PyData.int) = decide (ns = ms)
  | [], [] => by simp [PyData.eqvAll]
  | [], _ :: _ => by simp [PyData.eqvAll]
  | _ :: _, [] => by simp [PyData.eqvAll]
  | n :: ns, m :: ms => by
    have ih := eqvAll_ints ns ms
    simp only [List.map_cons, PyData.eqvAll, ih, PyData.eqv]
    by_cases h1 : n = m <;> by_cases h2 : ns = ms <;> simp [h1, h2]
theorem eqv_ints (ns ms : List Int) : PyData.eqv (.list (ns.map PyData.int)) (.list (ms.map PyData.int)) = decide (ns = ms) := by
  rw [PyData.eqv]; exact eqvAll_ints ns ms
theorem g_eqLI {a b : Addr} {ns ms : List Int} (h1 : SqL K H a (ns.map V.int)) (h2 : SqL K H b (ms.map V.int)) (q : Q (.bl (decide (ns = ms))) H) : rEqD K (.ref a) (.ref b) H Q :=
  ⟨_, _, dp_ints h1, dp_ints h2, PySem.W.ke_shaped_ints ns, PySem.W.ke_shaped_ints ms, by rw [eqv_ints]; exact q⟩
theorem g_neLI {a b : Addr} {ns ms : List Int} (h1 : SqL K H a (ns.map V.int)) (h2 : SqL K H b (ms.map V.int)) (q : Q (.bl (!decide (ns = ms))) H) : rNeD K (.ref a) (.ref b) H Q :=
  ⟨_, _, dp_ints h1, dp_ints h2, PySem.W.ke_shaped_ints ns, PySem.W.ke_shaped_ints ms, by rw [eqv_ints]; exact q⟩
end
section
variable {σ : L2.St} {H : Hp}
/-- a while, by an invariant that bears its measure -/
theorem w_loop {a : L2.St → Hp → Prop} {b : VK} {c d : L2.St → Hp → Prop} {tc : TT} {tb : TS} (Pv : Nat → L2.St → Hp → Prop) (m0 : Nat) (h0 : Pv m0 σ H)
    (hs : ∀ m σ H, Pv m σ H → tc σ H fun b' H1 => if b' = true then ∃ N : L2.St → Hp → Prop, (∀ σ' H', N σ' H' → ∃ m', m' < m ∧ Pv m' σ' H') ∧ tb ⟨N, b, a, N⟩ σ H1 else a σ H1) : tWhile tc tb ⟨a, b, c, d⟩ σ H := ⟨Pv, ⟨m0, h0⟩, hs⟩
end
section
variable {K : PySem.W.Frag} {H : Hp} {Q : VK}
theorem g_slL {a : Addr} {xs : List V} {lo hi : Option Int} (h : SqL K H a xs) (q : ∀ p, H p = none → Q (.ref p) (upd H p (.lst (cutV xs lo hi)))) : rSlL K (.ref a) lo hi H Q := ⟨a, xs, rfl, h, q⟩
theorem cut1 (xs : List V) : cutV xs (some 1) none = xs.drop 1 := by
  unfold cutV
  rw [show (some (1 : Int)) = some ((1 : Nat) : Int) from rfl, HT.sIx_nat, HT.sIx_none]
  cases xs with
  | nil => rfl
  | cons x xs =>
    have e : min 1 (x :: xs).length = 1 := by simp
    rw [e]
    show List.take ((x :: xs).length - 1) xs = xs
    simp
end
theorem tup_same {K : PySem.W.Frag} {H H' : Hp} {a : Addr} {xs : List V} (e : Same H H') (h : SqT K H a xs) : SqT K H' a xs := by
  rcases h with (h | ⟨o, h⟩) | h
  · exact .inl (.inl (e _ _ h))
  · exact .inl (.inr ⟨o, e _ _ h⟩)
  · exact .inr h

/-! ### data: kinds, and as they stand later -/
section
variable {K : PySem.W.Frag} {H H' : Hp} {Q : VK} {σ : L2.St}
theorem ty_list {a : Addr} {xs : List V} (h : SqL K H a xs) : TyX K H (.ref a) (.type "list") := by
  rcases h with (h | ⟨o, h⟩) | h
  · exact .base (.lst h)
  · exact .base (.frz h)
  · obtain ⟨o, items, n, h1, h2, _⟩ := h
    exact .kList h1 h2
theorem ty_tup {a : Addr} {xs : List V} (h : SqT K H a xs) : TyX K H (.ref a) (.type "tuple") := by
  rcases h with (h | ⟨o, h⟩) | h
  · exact .base (.tup h)
  · exact .fTuple h
  · obtain ⟨o, items, n, h1, h2, _⟩ := h
    exact .kTuple h1 h2
theorem list_same {a : Addr} {xs : List V} (e : Same H H') (h : SqL K H a xs) : SqL K H' a xs := e.seq h
mutual
theorem Dp_same (e : Same H H') : ∀ (d : PyData) (v : V), Dp K H v d → Dp K H' v d
  | .none, _, h => by cases h; exact .non
  | .bool b, _, h => by cases h; exact .bl b
  | .int i, _, h => by cases h; exact .int i
  | .str x, _, h => by cases h; exact .str x
  | .list ds, _, h => by
    cases h with
    | lst hs ha => exact .lst (list_same e hs) (DpAll_same e ds _ ha)
  | .tuple ds, _, h => by
    cases h with
    | tup hs ha => exact .tup (tup_same e hs) (DpAll_same e ds _ ha)
  | .dict _, _, h => by cases h
theorem DpAll_same (e : Same H H') : ∀ (ds : List PyData) (vs : List V), DpAll K H vs ds → DpAll K H' vs ds
  | [], _, h => by cases h; exact .nil
  | d :: ds, _, h => by
    cases h with
    | cons h1 h2 => exact .cons (Dp_same e d _ h1) (DpAll_same e ds _ h2)
end
theorem DpAll.len : ∀ {vs : List V} {ds : List PyData}, DpAll K H vs ds → vs.length = ds.length
  | [], [], _ => rfl
  | _ :: _, _ :: _, .cons _ h => by rw [List.length_cons, List.length_cons, DpAll.len h]
theorem DpAll.at : ∀ {vs : List V} {ds : List PyData} {i : Nat} {d : PyData}, DpAll K H vs ds → ds[i]? = some d → ∃ v, vs[i]? = some v ∧ Dp K H v d
  | _, _, 0, d, .cons h _, e => by cases e; exact ⟨_, rfl, h⟩
  | _, _, i + 1, d, .cons _ h, e => DpAll.at (i := i) h e
/-- small data of the four flat kinds, lists and tuples, at most so deep -/
inductive OkD : Nat → PyData → Prop
  | non {n : Nat} : OkD n .none
  | bl {n : Nat} (b : Bool) : OkD n (.bool b)
  | int {n : Nat} (i : Int) : OkD n (.int i)
  | str {n : Nat} (x : Str) : OkD n (.str x)
  | lst {n : Nat} {ds : List PyData} : ds.length ≤ 100000 → (∀ d ∈ ds, OkD n d) → OkD (n + 1) (.list ds)
  | tup {n : Nat} {ds : List PyData} : ds.length ≤ 100000 → (∀ d ∈ ds, OkD n d) → OkD (n + 1) (.tuple ds)
theorem g_isiT {x : V} {tp : Addr} {cs : List V} {t : Value} {us : List Value} {b : Bool} (hT : H tp = some (.tup cs)) (hc : Paired ClsV cs us) (ty : TyX K H x t) (hk : PySem.W.kitAny K t us = some b) (q : Q (.bl b) H) : rIsiT K [x, .ref tp] H Q :=
  ⟨x, tp, cs, t, us, b, rfl, hT, hc, ty, hk, q⟩
/-- t is one of two built-in types, or none of them -/
theorem kit2 {t a b : String} {r1 r2 : Bool} (h1 : kitB t a = some r1) (h2 : kitB t b = some r2) : PySem.W.kitAny K (.type t) [.type a, .type b] = some (r1 || r2) := by
  refine kitAny_cons (kit_ty h1) (fun e => ?_) (fun e => by rw [e]; rfl)
  rw [e]
  exact kitAny_cons (kit_ty h2) (fun e2 => by rw [e2]; rfl) (fun e2 => by rw [e2]; rfl)
theorem g_isiB {x c : V} {tn cn : String} {b : Bool} (h1 : ClsV c (.type cn)) (h2 : TyX K H x (.type tn)) (h3 : kitB tn cn = some b) (q : Q (.bl b) H) : rIsi K [x, c] H Q := ⟨x, c, .type tn, .type cn, b, rfl, h1, h2, kit_ty h3, q⟩
def LcEnd (g : TG) (tt : TT) (te : TE) (vs : List Nat) (σ : L2.St) (Q : VK) (J : It) (H1 : Hp) : Prop := ∀ D, H1 D = none → ∃ W : Nat → Nat → Hp → Prop, (∃ m, W 0 m (upd H1 D (.lst []))) ∧ ∀ i m H, W i m H →
  (J.stop i H ∧ Q (.ref D) H) ∨ (J.go i H ∧ ∃ Nx : Hp → Prop, (∀ H', Nx H' → ∃ m', m' < m ∧ W (i + 1) m' H') ∧ ∀ x H', J.yld i H x H' → g x (wipe σ vs) H' fun σ2 H2 => wipe σ2 vs = wipe σ vs ∧ tt σ2 H2 fun b H3 =>
    if b = true then te σ2 H3 fun y H4 => ∃ acc, H4 D = some (.lst acc) ∧ acc.length < sizeLine ∧ Nx (upd H4 D (.lst (acc ++ [y]))) else Nx H3)
theorem g_lc {wi : TI} {g : TG} {tt : TT} {te : TE} {vs : List Nat} (h : wi σ H (LcEnd g tt te vs σ Q)) : tLc wi g tt te vs σ H Q := h
theorem g_yes {QB : Bool → Hp → Prop} (q : QB true H) : tYes σ H QB := q
theorem w_lcRange {g : TG} {tt : TT} {te : TE} {vs : List Nat} {n : Int} (h1 : -(2 ^ 62) ≤ n) (h2 : n < 2 ^ 62) (Pv : Addr → Nat → Hp → Prop) (h0 : ∀ D, H D = none → Pv D 0 (upd H D (.lst [])))
    (hs : ∀ D i H', H D = none → i < n.toNat → Pv D i H' → g (.int i) (wipe σ vs) H' fun σ2 H2 => wipe σ2 vs = wipe σ vs ∧ tt σ2 H2 fun b H3 =>
      if b = true then te σ2 H3 fun y H4 => ∃ acc, H4 D = some (.lst acc) ∧ acc.length < sizeLine ∧ Pv D (i + 1) (upd H4 D (.lst (acc ++ [y]))) else Pv D (i + 1) H3) (hd : ∀ D H', H D = none → Pv D n.toNat H' → Q (.ref D) H') :
    ∃ j : Int, [V.int n] = [.int j] ∧ -(2 ^ 62) ≤ j ∧ j < 2 ^ 62 ∧ LcEnd g tt te vs σ Q (Itr 0 j.toNat) H :=
  ⟨n, rfl, h1, h2, fun D hD => lc_range (Pv D) (h0 D hD) (fun i H' hi p => by have q := hs D i H' hD hi p; rw [Int.zero_add]; exact q) (fun H' p => hd D H' hD p)⟩
end

/-! ### tables of code objects beside the drawing -/
/-- H without its tables -/
def noT (H : Hp) : Hp := fun b => match H b with
  | some (.tbl _) => none
  | o => o
theorem noT_some {H : Hp} {b : Addr} {o : HO} (h : noT H b = some o) : H b = some o ∧ ∀ ps, o ≠ .tbl ps := by
  unfold noT at h
  split at h
  · cases h
  · rename_i n
    exact ⟨h, fun ps e => n ps (by rw [h, e])⟩
theorem noT_of {H : Hp} {b : Addr} {o : HO} (h : H b = some o) (n : ∀ ps, o ≠ .tbl ps) : noT H b = some o := by
  unfold noT
  split
  · rename_i ps e
    rw [h] at e
    exact absurd (Option.some.inj e) (n ps)
  · exact h
theorem noT_same (H : Hp) : Same (noT H) H := fun _ _ h => (noT_some h).1
theorem noT_list {K : PySem.W.Frag} {H : Hp} {a : Addr} {xs : List V} (h : SqL K H a xs) : SqL K (noT H) a xs := by
  rcases h with (h | ⟨o, h⟩) | h
  · exact .inl (.inl (noT_of h (fun _ z => nomatch z)))
  · exact .inl (.inr ⟨o, noT_of h (fun _ z => nomatch z)⟩)
  · exact .inr h
/-- all but S and the tables stays -/
theorem Dst.ext {K : PySem.W.Frag} {H0 H H' : Hp} {S : Addr} (d : Dst K (noT H0) H S) (e : LamX.ExtN H H') : Dst K (noT H0) H' S := by
  obtain ⟨sc, ns, c, m, r, h1, h2, h3, h4⟩ := d
  exact ⟨sc, ns, c, m, r, e _ _ h1 (fun _ z => nomatch z), h2, fun b o n h => e _ _ (h3 b o n h) (noT_some h).2, h4⟩
theorem tabs_frm {K : PySem.W.Frag} {B H H' : Hp} {S : Addr} {T : List (Addr × Str)} (t : LamX.Tabs T H) (d : Dst K B H S) (f : Frm S H H') : LamX.Tabs T H' := fun p hp => by
  obtain ⟨sc, ns, c, m, r, hS, _⟩ := d
  obtain ⟨ps, h1, h2, h3⟩ := t p hp
  refine ⟨ps, f _ _ (ne_of h1 hS (fun z => nomatch z)) h1, h2, fun pos cv hc => ?_⟩
  obtain ⟨c', e1, e2⟩ := h3 pos cv hc
  exact ⟨c', e1, f _ _ (ne_of e2 hS (fun z => nomatch z)) e2⟩
theorem tabs_same {H H' : Hp} {T : List (Addr × Str)} (t : LamX.Tabs T H) (e : Same H H') : LamX.Tabs T H' := t.ext e
section
variable {P : Program} {w : World} {K : PySem.W.Frag} {mg : Str → Option Value} {base : Heap}
/-- a def whose code object is told -/
theorem fn_code {k : Nat} {f : Addr} {name qual : Str} {params : Arguments} {body : List Stmt} {scope : Scope} {dV kV doc pm cdv ct oc : Value} {an od : Option Addr} {osl : Array (Option Value)} {N ps : List Str} {sp : Sp}
    (lk : K.lookup f = some ⟨oc, od, .func (PySem.W.fnOf name qual params body scope dV kV doc pm an cdv ct), osl⟩) (hcd : PySem.W.codeIn K cdv qual = true) (S : FnScope N ps scope) (len : ∀ vs H Q E, sp vs H Q E → vs.length = ps.length)
    (hbody : ∀ (A : Around) (outer : List Env) (s : Shared) (H : Hp) (vs : List V) (Q : VK) (E : XK), Room k (A.deeper (envOfC qual scope s.heap.objs.size f cdv)) → sp vs H Q E →
      ∃ t, PSs (cxOf C8.CX0 P w K mg base N qual scope f cdv A outer s H E).nox body t ∧ t { nx := fun _ H' => Q .non H', rt := Q } (L2.start N vs) H) :
    FnOk P w K mg base C8.CX0 (k + 1) f (PySem.W.fnOf name qual params body scope dV kV doc pm an cdv ct) ps sp :=
  fn_of lk hcd S len fun A outer s H vs Q E hr hsp => (hbody A outer s H vs Q E hr hsp).elim fun t h => ⟨t, h.1.nox, h.2⟩
end
theorem g_lam {T : List (Addr × Str)} {TT : (XK → Hp → VK → Prop) → Hp → VK → Prop} {t : XK → TE} {σ : L2.St} {H : Hp} {Q : VK} (h : LamX.Tabs T H) (q : ∀ H1, LamX.ExtN H H1 → LamX.Tabs T H1 → TT (fun E H' Q' => t E σ H' Q') H1 Q) : LamX.tLam T TT t σ H Q := ⟨h, q⟩
end Wd
local macro_rules | `(tactic| walk_at "go") => `(tactic| repeat (first
  | with_reducible refine Wd.g_seq ?_
  | with_reducible refine Wd.g_nx ?_
  | with_reducible refine Wd.g_asg ?_
  | ((with_reducible refine' Wd.g_var ?h1 ?_); (case h1 => exact rfl))
  | with_reducible refine Wd.g_c ?_
  | with_reducible refine Wd.g_op ?_
  | with_reducible refine Wd.g_un ?_
  | with_reducible refine Wd.g_I0 ?_
  | with_reducible refine Wd.g_U ?_
  | with_reducible refine Wd.g_eqI ?_
  | with_reducible refine Wd.g_neI ?_
  | with_reducible refine Wd.g_eqS ?_
  | with_reducible refine Wd.g_neS ?_
  | with_reducible refine Wd.g_eqB ?_
  | with_reducible refine Wd.g_neB ?_
  | with_reducible refine Wd.g_isN ?_
  | with_reducible refine Wd.g_notN ?_
  | with_reducible refine Wd.g_lc ?_
  | with_reducible refine Wd.g_yes ?_
  | with_reducible refine Wd.g_test ?_
  | with_reducible refine Wd.g_tB ?_
  | with_reducible refine Wd.g_bl ?_
  | with_reducible refine Wd.g_blI ?_
  | with_reducible refine Wd.g_and ?_
  | with_reducible refine Wd.g_or ?_
  | with_reducible refine Wd.g_not ?_
  | with_reducible refine Wd.g_andV ?_
  | with_reducible refine Wd.g_orV ?_
  | with_reducible refine Wd.g_notV ?_
  | with_reducible refine Wd.g_if ?_
  | with_reducible refine Wd.g_chain ?_
  | with_reducible refine Wd.g_chain3 ?_
  | with_reducible refine Wd.g_nil ?_
  | with_reducible refine Wd.g_cons ?_
  | with_reducible refine Wd.g_tup ?_
  | with_reducible refine Wd.g_lst ?_
  | with_reducible refine Wd.g_CB ?_
  | with_reducible refine Wd.g_call ?_
  | with_reducible refine Wd.g_callS ?_
  | with_reducible refine Wd.g_bm ?_
  | with_reducible refine Wd.g_bm0 ?_
  | with_reducible refine Wd.g_sl ?_
  | with_reducible refine Wd.g_part ?_
  | with_reducible refine Wd.g_part1 ?_
  | with_reducible refine Wd.g_noPart ?_
  | with_reducible refine Wd.g_next ?_
  | with_reducible refine Wd.g_name ?_
  | with_reducible refine Wd.g_sub ?_
  | with_reducible refine Wd.g_gnil ?_
  | with_reducible refine Wd.g_gcons ?_
  | with_reducible refine Wd.g_drop ?_
  | with_reducible refine Wd.g_ret ?_
  | with_reducible refine Wd.g_retN ?_
  | with_reducible refine Wd.g_brk ?_
  | with_reducible refine Wd.g_cont ?_
  | with_reducible refine Wd.g_ifS ?_
  | with_reducible refine Wd.g_bk ?_
  | with_reducible refine Wd.g_ct ?_
  | with_reducible refine Wd.g_rt ?_
  | with_reducible refine Wd.g_for ?_
  | with_reducible refine Wd.g_rng1 ?_
  | with_reducible refine Wd.g_rng2 ?_
  | with_reducible refine Wd.g_iList ?_
  | with_reducible refine Wd.g_iTup ?_
  | ((with_reducible refine Wd.g_fit ?h1 ?_); (case h1 => exact rfl))
  | with_reducible refine Wd.g_max2 ?_
  | with_reducible refine Wd.g_min2 ?_
  | with_reducible refine Wd.g_int1B ?_
  | with_reducible refine L2.iteT ?_
  | with_reducible refine L2.iteF ?_
  | ((with_reducible refine Wd.g_itT ?h1 ?_); (case h1 => exact rfl))
  | ((with_reducible refine Wd.g_itF ?h1 ?_); (case h1 => exact rfl))))
/-! Plans as data; tuples that are repeated, made of lists; lists within comprehensions. -/
namespace Wd
open PySem PySem.Spec PyProof.Rows L2

/-! ### t * k, k from 0 on -/
theorem mul_once (l : Addr) (items : Array Value) (n : Nat) (dd : Option Addr) (sl : Array (Option Value)) (u : Tok) :
    Meets (Builtin.«tuple.__mul__» ⟨[.ref l, .int 1 u], []⟩) (fun _ R s => s.heap.get? l = some { cls := .type "tuple", dict := dd, data := .seq items n, slots := sl } ∧ R (.ok (.ret (Value.ref l))) s) :=
  .of_wp fun prog w A R s h => by
    obtain ⟨hp, g, d, tk, os⟩ := s
    obtain ⟨hl, q⟩ := h
    have one := AutoSeq1.idx_int
    wp_walk using AutoSeq1.wpAny_loadPart' hl
    exact ⟨_, rfl, q⟩
theorem mul_none (l : Addr) (items : Array Value) (n : Nat) (dd : Option Addr) (sl : Array (Option Value)) (u : Tok) (h2 : items.isEmpty = false) :
    Meets (Builtin.«tuple.__mul__» ⟨[.ref l, .int 0 u], []⟩) (fun _ R s => s.heap.get? l = some { cls := .type "tuple", dict := dd, data := .seq items n, slots := sl } ∧
      R (.ok (.ret (Value.ref s.heap.objs.size))) { s with heap := s.heap.push { cls := Value.type "tuple", data := Data.seq #[] }, toks := s.toks }) :=
  .of_wp fun prog w A R s h => by
    obtain ⟨hp, g, d, tk, os⟩ := s
    obtain ⟨hl, q⟩ := h
    have one := AutoSeq1.idx_int
    wp_walk using AutoSeq1.wpAny_loadPart' hl
    exact ⟨_, rfl, q⟩
def rRepU (K : PySem.W.Frag) : R2 := fun x y H Q => ∃ (l : Addr) (k : Int) (xs : List V), x = .ref l ∧ y = .int k ∧ SqT K H l xs ∧ xs ≠ [] ∧ 0 ≤ k ∧ k ≤ 1000 ∧ xs.length ≤ 1000 ∧ (k = 1 → Q (.ref l) H) ∧
  (k ≠ 1 → ∀ p, H p = none → Q (.ref p) (upd H p (.tup (List.replicate k.toNat xs).flatten)))
section
variable {X : Cx}
theorem op_repU : OpR X (binaryOp .Mult) (rRepU X.K) := by
  intro pins s σ H x y v u Q I rx ry h
  obtain ⟨l, k, xs, rfl, rfl, hT, hne, h0, h1, hz, q1, q2⟩ := h
  by_cases c2 : 2 ≤ k
  · exact op_repT pins s σ H _ _ _ _ Q I rx ry ⟨l, k, xs, rfl, rfl, hT, hne, c2, h1, hz, q2 (by omega)⟩
  · cases rx
    obtain ⟨t, rfl⟩ := ry
    obtain ⟨its, r, ⟨⟨cls, dd, data, sl⟩, ho, hc, n, hd⟩, hs⟩ := I.tuple hT
    simp only at hc hd
    subst hc hd
    have c01 : k = 0 ∨ k = 1 := by omega
    rcases c01 with rfl | rfl
    · have hem : its.toArray.isEmpty = false := by
        cases r with
        | nil => exact absurd rfl hne
        | cons _ _ => rfl
      refine wpAny_binaryOp_repeat_ref (T := "tuple") (U := "int") (by decide) ⟨_, ho, rfl⟩ (fun s' => typeIs_int s' 0 t) noFill_tuple_mul F.fills_int_mul F.slot_int_rmul repeat_tuple F.slot_int_index.lookup (call_meets F.slot_int_rmul (typeIs_int s 0 t) F.entry_int_rmul (F.args_int_rmul_2 _ _)
        (int_rmul_tuple 0 t l its.toArray n dd sl) ⟨ho, rfl, ⟨_, ho, rfl⟩, call_meets F.slot_tuple_mul ⟨_, ho, rfl⟩ F.entry_tuple_mul (F.args_tuple_mul_2 _ _) (mul_none l its.toArray n dd sl t hem) ⟨ho, ?_⟩⟩)
      refine ⟨.ref s.heap.objs.size, _, I.laid (t' := s.toks) (o := .tup []) (fun b ob z => Heap.get?_push_of_some _ z) (Nat.le_refl _) ?_, rfl, q2 (by decide) _ (I.hok.fresh (Nat.le_refl _))⟩
      exact ⟨Nat.zero_le _, [], .nil, IsTup.new _ _⟩
    · refine wpAny_binaryOp_repeat_ref (T := "tuple") (U := "int") (by decide) ⟨_, ho, rfl⟩ (fun s' => typeIs_int s' 1 t) noFill_tuple_mul F.fills_int_mul F.slot_int_rmul repeat_tuple F.slot_int_index.lookup (call_meets F.slot_int_rmul (typeIs_int s 1 t) F.entry_int_rmul (F.args_int_rmul_2 _ _)
        (int_rmul_tuple 1 t l its.toArray n dd sl) ⟨ho, rfl, ⟨_, ho, rfl⟩, call_meets F.slot_tuple_mul ⟨_, ho, rfl⟩ F.entry_tuple_mul (F.args_tuple_mul_2 _ _) (mul_once l its.toArray n dd sl t) ⟨ho, ?_⟩⟩)
      exact ⟨.ref l, H, I, rfl, q1 rfl⟩
end

/-! ### more steps -/
def rTupOf (K : PySem.W.Frag) : List V → Hp → VK → Prop := fun xs H Q => ∃ p ys, xs = [.ref p] ∧ ((SqL K H p ys ∧ ∀ l, H l = none → Q (.ref l) (upd H l (.tup ys))) ∨ (SqT K H p ys ∧ Q (.ref p) H))
theorem call_tuple1 {X : Cx} : CallR X (.type "tuple") (rTupOf X.K) := call_tuple_of
section
variable {K : PySem.W.Frag} {H H' : Hp} {Q : VK} {σ : L2.St} {x : V}
theorem g_tupOf {p : Addr} {ys : List V} (h : SqL K H p ys) (q : ∀ l, H l = none → Q (.ref l) (upd H l (.tup ys))) : rTupOf K [.ref p] H Q := ⟨p, ys, rfl, .inl ⟨h, q⟩⟩
theorem g_inT {p : Addr} {xs : List V} (h : SqT K H p xs) (fx : flatV x = true) (fs : xs.all flatV = true) (q : Q (.bl (inV x xs)) H) : rIn K false x (.ref p) H Q := ⟨p, xs, rfl, .inr h, fx, fs, q⟩
theorem g_notInT {p : Addr} {xs : List V} (h : SqT K H p xs) (fx : flatV x = true) (fs : xs.all flatV = true) (q : Q (.bl (!inV x xs)) H) : rIn K true x (.ref p) H Q := ⟨p, xs, rfl, .inr h, fx, fs, q⟩
theorem g_sum {a : Addr} {ns : List Int} (h : SqL K H a (ns.map V.int)) (q : Q (.int ns.sum) H) : rSum K [.ref a] H Q := ⟨a, ns, rfl, h, q⟩
theorem g_pop {l : Addr} {xs : List V} {y : V} (h : H l = some (.lst xs)) (hy : xs[xs.length - 1]? = some y) (q : Q y (upd H l (.lst xs.dropLast))) : rPop (.ref l) [] H Q := ⟨l, xs, y, rfl, rfl, h, hy, q⟩
theorem w_lcTup {g : TG} {tt : TT} {te : TE} {vs : List Nat} {p : Addr} {xs : List V} (hp : SqT K H p xs) (Pv : Addr → Nat → Hp → Prop) (h0 : ∀ D, H D = none → Pv D 0 (upd H D (.lst []))) (hl : ∀ D i H', H D = none → i ≤ xs.length → Pv D i H' → SqT K H' p xs)
    (hs : ∀ D i y H', H D = none → xs[i]? = some y → Pv D i H' → g y (wipe σ vs) H' fun σ2 H2 => wipe σ2 vs = wipe σ vs ∧ tt σ2 H2 fun b H3 =>
      if b = true then te σ2 H3 fun y H4 => ∃ acc, H4 D = some (.lst acc) ∧ acc.length < sizeLine ∧ Pv D (i + 1) (upd H4 D (.lst (acc ++ [y]))) else Pv D (i + 1) H3) (hd : ∀ D H', H D = none → Pv D xs.length H' → Q (.ref D) H') :
    ∃ q, V.ref p = .ref q ∧ (∃ xs, SqT K H q xs) ∧ LcEnd g tt te vs σ Q (Itt K q) H :=
  ⟨p, rfl, ⟨xs, hp⟩, fun D hD => lc_tup (Pv D) (h0 D hD) (fun i H' hi q => hl D i H' hD hi q) (fun i y H' hy q => hs D i y H' hD hy q) (fun H' q => hd D H' hD q)⟩
/-- the end of a comprehension's turn -/
theorem g_lcput {D : Addr} {acc : List V} {y : V} {N : Hp → Prop} (h : H D = some (.lst acc)) (hl : acc.length < 100000) (q : N (upd H D (.lst (acc ++ [y])))) : ∃ acc, H D = some (.lst acc) ∧ acc.length < sizeLine ∧ N (upd H D (.lst (acc ++ [y]))) := ⟨acc, h, Nat.lt_of_lt_of_le hl (by decide), q⟩
end

/-! ### plans -/
inductive Pl where
  | pat
  | work (a b : Int)
  | row (ps : List Pl)
  | either (ps : List Pl)
  | loop (a b : Int) (p : Pl)
/-- tuples stay -/
def KeepT (H H' : Hp) : Prop := ∀ b xs, H b = some (.tup xs) → H' b = some (.tup xs)
theorem KeepT.refl (H : Hp) : KeepT H H := fun _ _ h => h
theorem KeepT.trans {H H1 H2 : Hp} (a : KeepT H H1) (b : KeepT H1 H2) : KeepT H H2 := fun c xs h => b c xs (a c xs h)
theorem keepT_same {H H' : Hp} (e : Same H H') : KeepT H H' := fun b xs h => e b _ h
theorem keepT_new {H : Hp} {p : Addr} {o : HO} (h : H p = none) : KeepT H (upd H p o) := keepT_same (same_new h)
theorem keepT_lst {H : Hp} {p : Addr} {o : HO} {xs : List V} (h : H p = some (.lst xs)) : KeepT H (upd H p o) := fun b ys e => by rw [upd_ne (ne_of e h (fun z => nomatch z))]; exact e
theorem keepT_frm {K : PySem.W.Frag} {B H H' : Hp} {S : Addr} (d : Dst K B H S) (f : Frm S H H') : KeepT H H' := fun b xs h => by
  obtain ⟨sc, ns, c, m, r, hS, _⟩ := d
  exact f b _ (ne_of h hS (fun z => nomatch z)) h
mutual
inductive PlA (H : Hp) : V → Pl → Prop
  | pat {a : Addr} : H a = some (.tup [.str "pat"]) → PlA H (.ref a) .pat
  | work {a : Addr} {x y : Int} : H a = some (.tup [.str "work", .int x, .int y]) → PlA H (.ref a) (.work x y)
  | row {a b : Addr} {vs : List V} {ps : List Pl} : H a = some (.tup [.str "row", .ref b]) → H b = some (.tup vs) → PlAs H vs ps → PlA H (.ref a) (.row ps)
  | either {a b : Addr} {vs : List V} {ps : List Pl} : H a = some (.tup [.str "either", .ref b]) → H b = some (.tup vs) → PlAs H vs ps → PlA H (.ref a) (.either ps)
  | loop {a : Addr} {x y : Int} {u : V} {p : Pl} : H a = some (.tup [.str "loop", .int x, .int y, u]) → PlA H u p → PlA H (.ref a) (.loop x y p)
inductive PlAs (H : Hp) : List V → List Pl → Prop
  | nil : PlAs H [] []
  | cons {v : V} {vs : List V} {p : Pl} {ps : List Pl} : PlA H v p → PlAs H vs ps → PlAs H (v :: vs) (p :: ps)
end
mutual
theorem PlA_keep {H H' : Hp} (e : KeepT H H') : ∀ (p : Pl) (v : V), PlA H v p → PlA H' v p
  | .pat, _, h => by cases h with | pat h => exact .pat (e _ _ h)
  | .work _ _, _, h => by cases h with | work h => exact .work (e _ _ h)
  | .row ps, _, h => by cases h with | row h1 h2 h3 => exact .row (e _ _ h1) (e _ _ h2) (PlAs_keep e ps _ h3)
  | .either ps, _, h => by cases h with | either h1 h2 h3 => exact .either (e _ _ h1) (e _ _ h2) (PlAs_keep e ps _ h3)
  | .loop _ _ p, _, h => by cases h with | loop h1 h2 => exact .loop (e _ _ h1) (PlA_keep e p _ h2)
theorem PlAs_keep {H H' : Hp} (e : KeepT H H') : ∀ (ps : List Pl) (vs : List V), PlAs H vs ps → PlAs H' vs ps
  | [], _, h => by cases h; exact .nil
  | p :: ps, _, h => by cases h with | cons h1 h2 => exact .cons (PlA_keep e p _ h1) (PlAs_keep e ps _ h2)
end
theorem PlAs.len {H : Hp} : ∀ {vs : List V} {ps : List Pl}, PlAs H vs ps → vs.length = ps.length
  | [], [], _ => rfl
  | _ :: _, _ :: _, .cons _ h => by rw [List.length_cons, List.length_cons, PlAs.len h]
theorem PlAs.at {H : Hp} : ∀ {vs : List V} {ps : List Pl} {i : Nat} {v : V}, PlAs H vs ps → vs[i]? = some v → ∃ p, ps[i]? = some p ∧ PlA H v p
  | _, _, 0, _, .cons h _, e => by cases e; exact ⟨_, rfl, h⟩
  | _, _, i + 1, _, .cons _ h, e => PlAs.at (i := i) h e
theorem PlAs.snoc {H : Hp} : ∀ {vs : List V} {ps : List Pl} {v : V} {p : Pl}, PlAs H vs ps → PlA H v p → PlAs H (vs ++ [v]) (ps ++ [p])
  | _, _, _, _, .nil, h => .cons h .nil
  | _, _, _, _, .cons a b, h => .cons a (PlAs.snoc b h)
theorem PlAs.rep {H : Hp} {v : V} {p : Pl} (h : PlA H v p) : ∀ n : Nat, PlAs H (List.replicate n [v]).flatten (List.replicate n p)
  | 0 => .nil
  | n + 1 => .cons h (PlAs.rep h n)
mutual
/-- how many tuples are plans; how deep; how many loops within one another; its bounds as they should be -/
def cnt : Pl → Nat
  | .pat => 1
  | .work _ _ => 1
  | .row ps => 1 + cnts ps
  | .either ps => 1 + cnts ps
  | .loop _ _ p => 1 + cnt p
def cnts : List Pl → Nat
  | [] => 0
  | p :: ps => cnt p + cnts ps
end
mutual
def okP : Nat → Nat → Pl → Prop
  | _, _, .pat => True
  | _, _, .work a b => 0 ≤ a ∧ a ≤ b ∧ b ≤ 1000
  | 0, _, .row _ => False
  | d + 1, l, .row ps => 0 < ps.length ∧ ps.length ≤ 20 ∧ okPs d l ps
  | 0, _, .either _ => False
  | d + 1, l, .either ps => 0 < ps.length ∧ ps.length ≤ 20 ∧ okPs d l ps
  | 0, _, .loop _ _ _ => False
  | _ + 1, 0, .loop _ _ _ => False
  | d + 1, l + 1, .loop a b p => 0 ≤ a ∧ a ≤ b ∧ b ≤ 9 ∧ okP d l p
def okPs : Nat → Nat → List Pl → Prop
  | _, _, [] => True
  | d, l, p :: ps => okP d l p ∧ okPs d l ps
end
theorem okPs_at {d l : Nat} : ∀ {ps : List Pl} {i : Nat} {p : Pl}, okPs d l ps → ps[i]? = some p → okP d l p
  | _ :: _, 0, _, h, e => by cases e; exact h.1
  | _ :: ps, i + 1, _, h, e => okPs_at (ps := ps) (i := i) h.2 e
theorem okPs_snoc {d l : Nat} : ∀ {ps : List Pl} {p : Pl}, okPs d l ps → okP d l p → okPs d l (ps ++ [p])
  | [], _, _, h => ⟨h, trivial⟩
  | _ :: ps, _, h1, h => ⟨h1.1, okPs_snoc h1.2 h⟩
theorem okPs_rep {d l : Nat} {p : Pl} (h : okP d l p) : ∀ n : Nat, okPs d l (List.replicate n p)
  | 0 => trivial
  | n + 1 => ⟨h, okPs_rep h n⟩
theorem cnt_pos : ∀ p : Pl, 1 ≤ cnt p
  | .pat => Nat.le_refl 1
  | .work _ _ => Nat.le_refl 1
  | .row _ => Nat.le_add_right 1 _
  | .either _ => Nat.le_add_right 1 _
  | .loop _ _ _ => Nat.le_add_right 1 _
theorem small_lt {n : Nat} (h : n < 100000) : n < sizeLine := Nat.lt_of_lt_of_le h (by decide)
end Wd
/-! zip; comprehensions over lists. -/
namespace Wd
open PySem PySem.Spec PyProof.Rows L2
section
variable {σ : L2.St} {H : Hp} {Q : VK} {K : PySem.W.Frag}
theorem w_zip {a : L2.St → Hp → Prop} {b : VK} {g : TG} {tb : TS} {p r : Addr} {xs ys : List V} (hl : xs.length = ys.length) (Pv : Nat → L2.St → Hp → Prop) (h0 : Pv 0 σ H) (hq : ∀ i σ H, Pv i σ H → SqL K H p xs ∧ SqL K H r ys)
    (hs : ∀ i x y T σ H, xs[i]? = some x → ys[i]? = some y → Pv i σ H → H T = none → g (.ref T) σ (upd H T (.tup [x, y])) fun σ2 H2 => tb ⟨Pv (i + 1), b, a, Pv (i + 1)⟩ σ2 H2) (hd : ∀ σ H, Pv xs.length σ H → a σ H) :
    ∃ a' b' xs ys, [V.ref p, .ref r] = [V.ref a', .ref b'] ∧ SqL K H a' xs ∧ SqL K H b' ys ∧ ForEnd g tb a b σ (Itz K a' b') H :=
  ⟨p, r, xs, ys, rfl, (hq 0 σ H h0).1, (hq 0 σ H h0).2, RZ.for_zipL (D := ⟨a, b, fun _ _ => False, fun _ _ => False⟩) hl Pv h0 hq hs hd⟩
theorem w_lcZip {g : TG} {tt : TT} {te : TE} {vs : List Nat} {p r : Addr} {xs ys : List V} (hl : xs.length = ys.length) (hp : SqL K H p xs) (hr : SqL K H r ys) (Pv : Addr → Nat → Hp → Prop) (h0 : ∀ D, H D = none → Pv D 0 (upd H D (.lst [])))
    (hq : ∀ D i H', H D = none → Pv D i H' → SqL K H' p xs ∧ SqL K H' r ys)
    (hs : ∀ D i x y T H', H D = none → xs[i]? = some x → ys[i]? = some y → Pv D i H' → H' T = none → g (.ref T) (wipe σ vs) (upd H' T (.tup [x, y])) fun σ2 H2 => wipe σ2 vs = wipe σ vs ∧ tt σ2 H2 fun b H3 =>
      if b = true then te σ2 H3 fun y H4 => ∃ acc, H4 D = some (.lst acc) ∧ acc.length < sizeLine ∧ Pv D (i + 1) (upd H4 D (.lst (acc ++ [y]))) else Pv D (i + 1) H3) (hd : ∀ D H', H D = none → Pv D xs.length H' → Q (.ref D) H') :
    ∃ a' b' xs ys, [V.ref p, .ref r] = [V.ref a', .ref b'] ∧ SqL K H a' xs ∧ SqL K H b' ys ∧ LcEnd g tt te vs σ Q (Itz K a' b') H := by
  refine ⟨p, r, xs, ys, rfl, hp, hr, fun D hD => ?_⟩
  refine ⟨fun i m H' => m = xs.length - i ∧ i ≤ xs.length ∧ Pv D i H', ⟨xs.length, by simp, Nat.zero_le _, h0 D hD⟩, ?_⟩
  rintro i m H' ⟨rfl, hi, pv⟩
  obtain ⟨qx, qy⟩ := hq D i H' hD pv
  by_cases hlt : i < xs.length
  · have hx : xs[i]? = some xs[i] := List.getElem?_eq_getElem hlt
    have hlt2 : i < ys.length := by omega
    have hy : ys[i]? = some ys[i] := List.getElem?_eq_getElem hlt2
    refine .inr ⟨⟨xs, ys, _, _, qx, qy, hx, hy⟩, Pv D (i + 1), fun H' p' => ⟨xs.length - (i + 1), by omega, rfl, hlt, p'⟩, fun v H'' y => ?_⟩
    obtain ⟨T, x', y', rfl, hT, rfl, f1, f2⟩ := y
    exact hs D i x' y' T H' hD (f1 xs qx) (f2 ys qy) pv hT
  · have e : i = xs.length := by omega
    subst e
    exact .inl ⟨⟨xs, ys, qx, qy, Or.inl (Nat.le_refl _)⟩, hd D H' hD pv⟩
theorem w_lcList {g : TG} {tt : TT} {te : TE} {vs : List Nat} {p : Addr} {xs : List V} (hp : SqL K H p xs) (Pv : Addr → Nat → Hp → Prop) (h0 : ∀ D, H D = none → Pv D 0 (upd H D (.lst []))) (hl : ∀ D i H', H D = none → i ≤ xs.length → Pv D i H' → SqL K H' p xs)
    (hs : ∀ D i y H', H D = none → xs[i]? = some y → Pv D i H' → g y (wipe σ vs) H' fun σ2 H2 => wipe σ2 vs = wipe σ vs ∧ tt σ2 H2 fun b H3 =>
      if b = true then te σ2 H3 fun y H4 => ∃ acc, H4 D = some (.lst acc) ∧ acc.length < sizeLine ∧ Pv D (i + 1) (upd H4 D (.lst (acc ++ [y]))) else Pv D (i + 1) H3) (hd : ∀ D H', H D = none → Pv D xs.length H' → Q (.ref D) H') :
    ∃ q, V.ref p = .ref q ∧ (∃ xs, SqL K H q xs) ∧ LcEnd g tt te vs σ Q (Itl K q) H :=
  ⟨p, rfl, ⟨xs, hp⟩, fun D hD => lc_list (Pv D) (h0 D hD) (fun i H' hi q => hl D i H' hD hi q) (fun i y H' hy q => hs D i y H' hD hy q) (fun H' q => hd D H' hD q)⟩
theorem g_zip {ta : TA} {R : It → Hp → Prop} (h : ta σ H fun vs H1 => ∃ a b xs ys, vs = [.ref a, .ref b] ∧ SqL K H1 a xs ∧ SqL K H1 b ys ∧ R (Itz K a b) H1) : iZip K ta σ H R := h
end
end Wd
/-! sorted of data; self.a, self.b = .. -/
namespace Wd
open PySem PySem.Spec PyProof.Rows L2
def rSortD (K : PySem.W.Frag) : List V → Hp → VK → Prop := fun vs H Q => ∃ (a : Addr) (ps : List (V × PyData)), vs = [.ref a] ∧ SqL K H a (ps.map (·.1)) ∧ (∀ p ∈ ps, Dp K H p.1 p.2) ∧ PySem.W.AllAlike (ps.map (·.2)) ∧ PySem.W.Sortable (ps.map (·.2)) ∧ (∀ p ∈ ps, p.2.depth ≤ 10) ∧
  ∀ p, H p = none → Q (.ref p) (upd H p (.lst ((ps.mergeSort (PySem.W.dataLe false (·.2))).map (·.1))))
theorem each_vals : ∀ {ps : List (V × PyData)} {us : List Value}, Vals (ps.map (·.1)) us → PySem.W.EachIs (fun v (b : V × PyData) => RelV b.1 v) us ps
  | [], _, .nil => .nil
  | p :: ps, _, .cons r t => .cons r (each_vals t)
theorem vals_each : ∀ {ps : List (V × PyData)} {us : List Value}, PySem.W.EachIs (fun v (b : V × PyData) => RelV b.1 v) us ps → Vals (ps.map (·.1)) us
  | [], _, .nil => .nil
  | p :: ps, _, .cons r t => .cons r (vals_each t)
theorem each_reads {X : Cx} {pins : List (Addr × Obj)} {σ : L2.St} {H : Hp} {s : Shared} (I : Inv X pins σ H s) : ∀ {ps : List (V × PyData)} {us : List Value}, (∀ p ∈ ps, Dp X.K H p.1 p.2) → Vals (ps.map (·.1)) us → PySem.W.EachIs (fun v (b : V × PyData) => ∃ as, Reads s.heap v b.2 as) us ps
  | [], _, _, .nil => .nil
  | p :: ps, _, h, .cons r t => .cons (Dp.reads I p.2 p.1 _ (h p List.mem_cons_self) r) (each_reads I (fun y hy => h y (List.mem_cons_of_mem _ hy)) t)
section
variable {X : Cx}
theorem cr_sortedD (hu : X.A.units + 64 < cLine) : CallR X (.builtin "sorted") (rSortD X.K) := by
  intro pins s σ H vs us Q I r h
  obtain ⟨a, ps, rfl, hs, hd, hal, hk, hdep, q⟩ := h
  obtain ⟨its, rv, hl, hz⟩ := I.list hs
  obtain ⟨u, rfl, ru⟩ := vals1 r
  obtain rfl : u = Value.ref a := ru
  have hlen : ps.length ≤ sizeLine := by rw [List.length_map] at hz; exact hz
  refine PySem.W.sorted_data (vs := its) (bs := ps) (enc := (·.2)) (R := fun v b => RelV b.1 v) hl.isList (each_vals rv) (each_reads I hd rv) hal hk hlen (fun b hb => by have := hdep b hb; omega) fun out ho hout => ?_
  obtain ⟨n, hn⟩ := sortedAll_at s.heap its out.toArray
  have hv := vals_each hout
  refine ⟨.ref (s.heap.objs.size + 1), _, I.laid (t' := s.toks) (fun b o z => sortedAll_old z) (Nat.le_succ _) (o := .lst ((ps.mergeSort (PySem.W.dataLe false (·.2))).map (·.1))) ⟨?_, out, n, hv, hn⟩, rfl, q _ (I.hok.fresh (Nat.le_succ _))⟩
  rw [List.length_map, List.length_mergeSort]
  exact hlen
theorem pe_fldK {K : PySem.W.Frag} {e : Expr} {f : Str} {pos : Pos} {ta : TE} (hK : X.K = K) (he : PE X e ta) (hb : attributeBase e f X.env (eval e X.env) = eval e X.env) : PE X (.Attribute e f pos) (tFld K ta f) := by
  subst hK; exact pe_fld he hb
/-- an attribute as a target -/
def gAtt (K : PySem.W.Frag) (to : TE) (f : Str) : TG := fun y σ H Q => to σ H fun x H2 => ∃ a C dx fs, x = .ref a ∧ H2 a = some (.ins C dx fs) ∧ Cls K C ∧ NoAttr K C f ∧ fs.length < 1000 ∧ Q σ (upd H2 a (.ins C dx (putF f y fs)))
theorem pg_att {o : Expr} {f : Str} {pos : Pos} {to : TE} (ho : PE X o to)
    (ha : ∀ v, assign (.Attribute o f pos) X.env v = (do
      let ov ← holding [v] (eval o X.env)
      standAt pos.atName
      holding [v, ov] (setAttr ov f v)
      release [v, ov] []) := by intro _; rfl) : PG X (.Attribute o f pos) (gAtt X.K to f) := by
  refine ⟨fun pins s σ H v u Q I r h => ?_⟩
  rw [ha]
  refine wpAny_bind (wpAny_holding (thn (ho.run pins s σ H _ I h) fun ov s1 ⟨x, H1, I1, rx, a, C, dx, fs, ex, ea, c, n, l, q⟩ => ?_))
  subst ex
  obtain rfl : ov = Value.ref a := rx
  refine wpAny_bind (wpAny_standAt (wpAny_bind (wpAny_holding (setattr_ok I1 ea c n l r fun s2 I2 => ?_))))
  exact wpAny_release ⟨σ, _, I2, q⟩
end
end Wd
namespace K08
open PySem PySem.Spec PyProof.Rows L2 Wd
def top (i : Nat) : Stmt := PySem.Challenge.pw_windowdog_k08_whole_the_fewest_pats.main.body.getD i (.Pass ⟨0, 0, 0, 0⟩)
/-- the built-in names that the text calls -/
structure Txt (K : PySem.W.Frag) (mg : Str → Option Value) : Prop where
  n_isinstance : mg "isinstance" = none
  n_len : mg "len" = none
  n_int : mg "int" = none
  n_bool : mg "bool" = none
  n_range : mg "range" = none
  n_list : mg "list" = none
  n_tuple : mg "tuple" = none
  n_str : mg "str" = none
  n_sum : mg "sum" = none
section
variable {P : Program} {w : World} {K : PySem.W.Frag} {mg : Str → Option Value} {base : Heap}
abbrev s_law_start : Stmt := top 25
theorem sc_law_start : FnScope ["_law_script", "_law_mixed", "_law_cell"] ["_law_script"] (C8.fnScope s_law_start) := C8.fnScope_by (by decide +kernel)
def sp_start (K : PySem.W.Frag) : Sp := fun vs H Q _ => ∃ (B : Hp) (sc : Addr) (ns : List Int), vs = [.ref sc] ∧ SqL K B sc (ns.map V.int) ∧ Same B H ∧ ns.length ≤ 63 ∧ ∀ H' S, H S = none → Same H H' → Dst K B H' S → Q (.ref S) H'
theorem ok_start (T : Txt K mg) {f : Addr} {fd : FuncData} (D : C8.Def K mg "_law_start" s_law_start f fd) (b : Binds K fd ["_law_script"] []) : C8.Cal P w K mg base 1 "_law_start" (sp_start K) [] := by
  refine C8.cal0 D b .nil sc_law_start (fun vs H Q E h => ?_) fun cdv A outer s H vs Q E hr h => ?_
  · obtain ⟨B, sc, ns, rfl, _⟩ := h; rfl
  · obtain ⟨B, sc, ns, rfl, hB, sB, hl, q⟩ := h
    have hS := list_same sB hB
    have nd := sc_law_start.nd
    refine ⟨_, (pss_cons (ps_set (i := 1) nd rfl (Or.inl rfl) pe_int)
      (pss_cons (ps_for PassesOwn.never rfl (pi_list (pv 0)) (pg_name (i := 2) nd rfl (Or.inl rfl)) (pss_one (ps_set (i := 1) nd rfl (Or.inl rfl) (pe_op op_mod (pe_op op_add (pe_op op_add (pe_op op_mulW (pv 1) pe_int) (pv 2)) pe_int) pe_int))))
      (pss_one (ps_ret (pe_lst (pa_cons (pv 0) (pa_cons pe_int (pa_cons (pv 1) (pa_cons pe_int pa_nil))))))))), ?_⟩
    walk_at "go"
    refine w_list (xs := ns.map V.int) (fun i σ H' => H' = H ∧ ∃ (m : Int) (v : Option V), σ = [some (.ref sc), some (.int m), v] ∧ 0 ≤ m ∧ m < 2147483647) ?_ ?_ ?_ ?_
    · exact ⟨rfl, 1, none, rfl, by decide, by decide⟩
    · rintro i σ H' _ ⟨rfl, _⟩; exact hS
    · rintro i x σ H' hx ⟨rfl, m, v, rfl, h1, h2⟩
      obtain ⟨c, hc, rfl⟩ := map_at hx
      walk_at "go"
      refine g_I (mulW_small h1 (by omega) (by decide) (by decide)) ?_
      walk_at "go"
      refine g_I (show (0 : Int) < 2147483647 by decide) ?_
      walk_at "go"
      exact ⟨rfl, _, _, rfl, by omega, by omega⟩
    · rintro σ H' ⟨rfl, m, v, rfl, h1, h2⟩
      walk_at "go"
      intro S hn
      exact q _ S hn (same_new hn) ⟨sc, ns, 0, m, 0, upd_same, .of hB (fun _ _ h => h) (Same.back sB hn), .of (sB.trans (same_new hn)), hl, by decide, h1, h2⟩

abbrev s_law_drawn : Stmt := top 26
theorem sc_law_drawn : FnScope ["_law_state", "_law_many", "_law_found", "_law_cell"] ["_law_state", "_law_many"] (C8.fnScope s_law_drawn) := C8.fnScope_by (by decide +kernel)
def sp_drawn (K : PySem.W.Frag) : Sp := fun vs H Q _ => ∃ (B : Hp) (S : Addr) (n : Int), vs = [.ref S, .int n] ∧ Dst K B H S ∧ 0 < n ∧ n < 10 ^ 38 ∧ ∀ H' v, Frm S H H' → Dst K B H' S → 0 ≤ v → v < n → Q (.int v) H'
theorem ok_drawn (T : Txt K mg) {f : Addr} {fd : FuncData} (D : C8.Def K mg "_law_drawn" s_law_drawn f fd) (b : Binds K fd ["_law_state", "_law_many"] []) : C8.Cal P w K mg base 1 "_law_drawn" (sp_drawn K) [] := by
  refine C8.cal0 D b .nil sc_law_drawn (fun vs H Q E h => ?_) fun cdv A outer s H vs Q E hr h => ?_
  · obtain ⟨B, S, n, rfl, _⟩ := h; rfl
  · obtain ⟨B, S, n, rfl, ⟨sc, ns, c, m, r, hS, hsB, fB, hl, c0, m0, m1⟩, n0, n1, q⟩ := h
    have hsc := hsB.frm fB
    have nd := sc_law_drawn.nd
    refine ⟨_, (pss_cons (ps_if (pt_cmpR op_gt (pe_ix (r := rIxL K) ix_list (pv 0) pe_int (fun _ _ => rfl)) pe_int (nomark _)) (pss_cons (ps_set (i := 2) nd rfl (Or.inl rfl) (pe_op op_mod (pe_ix (r := rIxL K) ix_list (pv 0) pe_int (fun _ _ => rfl)) (pv 1)))
      (pss_cons (ps_asg (pe_op op_fdivW (pe_ix (r := rIxL K) ix_list (pv 0) pe_int (fun _ _ => rfl)) (pv 1)) (pg_sub (pv 0) pe_int set_list))
      (pss_one (ps_ret (pv 2))))) pss_nil)
      (pss_cons (ps_asg (pe_op op_add (pe_ix (r := rIxL K) ix_list (pv 0) pe_int (fun _ _ => rfl)) pe_int) (pg_sub (pv 0) pe_int set_list))
      (pss_cons (ps_if (pt_cmpR op_le (pe_ix (r := rIxL K) ix_list (pv 0) pe_int (fun _ _ => rfl)) (pe_callB (r := Wd.rLen K) call_len1 (by rfl) T.n_len PySem.boot_len (pa_cons (pe_ix (r := rIxL K) ix_list (pv 0) pe_int (fun _ _ => rfl)) pa_nil)) (nomark _)) (pss_cons (ps_set (i := 3) nd rfl (Or.inl rfl) (pe_ix (r := rIxL K) ix_list (pe_ix (r := rIxL K) ix_list (pv 0) pe_int (fun _ _ => rfl)) (pe_op op_sub (pe_ix (r := rIxL K) ix_list (pv 0) pe_int (fun _ _ => rfl)) pe_int) (fun _ _ => rfl)))
      (pss_cons (ps_asg (pe_ifExp (pt_cmpR op_ge (pv 3) (pe_op op_pow pe_int pe_int) (nomark _)) (pe_op op_fdivW (pv 3) (pv 1)) pe_int) (pg_sub (pv 0) pe_int set_list))
      (pss_one (ps_ret (pe_op op_mod (pv 3) (pv 1)))))) pss_nil)
      (pss_cons (ps_asg (pe_op op_mod (pe_op op_add (pe_op op_mulW (pe_ix (r := rIxL K) ix_list (pv 0) pe_int (fun _ _ => rfl)) pe_int) pe_int) pe_int) (pg_sub (pv 0) pe_int set_list))
      (pss_one (ps_ret (pe_op op_mod (pe_op op_fdivW (pe_ix (r := rIxL K) ix_list (pv 0) pe_int (fun _ _ => rfl)) pe_int) (pv 1)))))))), ?_⟩
    walk_at "go"
    refine g_ixL (SqL.of hS) rfl ?_
    walk_at "go"
    refine g_ite (fun hr0 => ?_) (fun hr0 => ?_)
    · walk_at "go"
      refine g_ixL (SqL.of hS) rfl ?_
      walk_at "go"
      refine g_I n0 ?_
      walk_at "go"
      refine g_ixL (SqL.of hS) rfl ?_
      walk_at "go"
      refine g_I (divW_small n0 n1) ?_
      walk_at "go"
      refine g_setL hS rfl ?_
      walk_at "go"
      exact q _ _ .set ⟨sc, ns, c, m, r / n, upd_same, hsB, fB.trans .set, hl, c0, m0, m1⟩ (Int.emod_nonneg _ (by omega)) (Int.emod_lt_of_pos _ n0)
    · walk_at "go"
      refine g_ixL (SqL.of hS) rfl ?_
      walk_at "go"
      refine g_setL hS rfl ?_
      walk_at "go"
      refine g_ixL (SqL.of upd_same) rfl ?_
      walk_at "go"
      refine g_ixL (SqL.of upd_same) rfl ?_
      walk_at "go"
      refine g_len (.inl (hsc.frm .set).sq) ?_
      walk_at "go"
      rw [List.length_map]
      refine g_ite (fun hc => ?_) (fun hc => ?_)
      · walk_at "go"
        refine g_ixL (SqL.of upd_same) rfl ?_
        walk_at "go"
        refine g_ixL (SqL.of upd_same) rfl ?_
        walk_at "go"
        have hcl : c.toNat < ns.length := by omega
        refine g_ixL (hsc.frm .set).sq (at_of (j := c.toNat) (v := V.int (ns[c.toNat]'hcl)) (by omega) (by rw [List.getElem?_map, List.getElem?_eq_getElem hcl]; rfl)) ?_
        generalize ns[c.toNat]'hcl = z
        walk_at "go"
        refine g_I (pow_small (by decide) (by decide) (by decide)) ?_
        walk_at "go"
        have fin : ∀ x : Int, Frm S H (upd (upd H S (HO.lst [V.ref sc, V.int (c + 1), V.int m, V.int r])) S (HO.lst [V.ref sc, V.int (c + 1), V.int m, V.int x])) ∧ Dst K B (upd (upd H S (HO.lst [V.ref sc, V.int (c + 1), V.int m, V.int r])) S (HO.lst [V.ref sc, V.int (c + 1), V.int m, V.int x])) S := fun x =>
          ⟨Frm.set.trans .set, sc, ns, c + 1, m, x, upd_same, hsB, (fB.trans .set).trans .set, hl, by omega, m0, m1⟩
        refine g_ite (fun hz => ?_) (fun hz => ?_)
        · walk_at "go"
          refine g_I (divW_small n0 n1) ?_
          walk_at "go"
          refine g_setL upd_same rfl ?_
          walk_at "go"
          refine g_I n0 ?_
          exact q _ _ (fin _).1 (fin _).2 (Int.emod_nonneg _ (by omega)) (Int.emod_lt_of_pos _ n0)
        · walk_at "go"
          refine g_setL upd_same rfl ?_
          walk_at "go"
          refine g_I n0 ?_
          exact q _ _ (fin _).1 (fin _).2 (Int.emod_nonneg _ (by omega)) (Int.emod_lt_of_pos _ n0)
      · walk_at "go"
        refine g_ixL (SqL.of upd_same) rfl ?_
        walk_at "go"
        refine g_I (mulW_small m0 (by omega) (by decide) (by decide)) ?_
        walk_at "go"
        refine g_I (show (0 : Int) < 2147483647 by decide) ?_
        walk_at "go"
        refine g_setL upd_same rfl ?_
        walk_at "go"
        refine g_ixL (SqL.of upd_same) rfl ?_
        walk_at "go"
        refine g_I (divW_small (by decide) (by decide)) ?_
        walk_at "go"
        refine g_I n0 ?_
        exact q _ _ (Frm.set.trans .set) ⟨sc, ns, c + 1, _, r, upd_same, hsB, (fB.trans .set).trans .set, hl, by omega, Int.emod_nonneg _ (by decide), Int.emod_lt_of_pos _ (by decide)⟩ (Int.emod_nonneg _ (by omega)) (Int.emod_lt_of_pos _ n0)
theorem use_drawn {B H : Hp} {S : Addr} {n : Int} {Q : VK} {E : XK} (d : Dst K B H S) (h0 : 0 < n) (h1 : n < 10 ^ 38) (k : ∀ H' v, Frm S H H' → Dst K B H' S → 0 ≤ v → v < n → Q (.int v) H') : sp_drawn K ([.ref S, .int n] ++ []) H Q E := ⟨B, S, n, rfl, d, h0, h1, k⟩

abbrev s_law_same : Stmt := top 27
theorem sc_law_same : FnScope ["_law_found", "_law_due", "_law_k"] ["_law_found", "_law_due"] (C8.fnScope s_law_same) := C8.fnScope_by (by decide +kernel)
/-- two things of the same data: told to be the same -/
def sp_same (K : PySem.W.Frag) : Nat → Sp
  | 0 => fun _ _ _ _ => False
  | n + 1 => fun vs H Q _ => ∃ (x y : V) (d : PyData), vs = [x, y] ∧ Dp K H x d ∧ Dp K H y d ∧ OkD n d ∧ ∀ H', Same H H' → Q (.bl true) H'
theorem same_step (T : Txt K mg) {n : Nat} {f : Addr} {fd : FuncData} (D : C8.Def K mg "_law_same" s_law_same f fd) (b : Binds K fd ["_law_found", "_law_due"] []) (g_law_same : C8.Cal P w K mg base n "_law_same" (sp_same K n) []) : C8.Cal P w K mg base (n + 1) "_law_same" (sp_same K (n + 1)) [] := by
  refine C8.cal0 D b .nil sc_law_same (fun vs H Q E h => ?_) fun cdv A outer s H vs Q E hr h => ?_
  · obtain ⟨x, y, d, rfl, _⟩ := h; rfl
  · obtain ⟨x, y, d, rfl, hx, hy, ok, q⟩ := h
    have nd := sc_law_same.nd
    have hr : Room n _ := hr
    refine ⟨_, (pss_cons (ps_if (pt_val (pe_callB (r := rIsiT K) call_isiT (by rfl) T.n_isinstance (by decide +kernel) (pa_cons (pv 1) (pa_cons (pe_tup (pa_cons (pe_bltn (v := .ty "tuple") (by rfl) T.n_tuple (by decide +kernel) rfl) (pa_cons (pe_bltn (v := .ty "list") (by rfl) T.n_list (by decide +kernel) rfl) pa_nil))) pa_nil)))) (pss_cons (ps_if (PW.pt (pw_or (pt_not (pt_val (pe_callB (r := rIsiT K) call_isiT (by rfl) T.n_isinstance (by decide +kernel) (pa_cons (pv 0) (pa_cons (pe_tup (pa_cons (pe_bltn (v := .ty "tuple") (by rfl) T.n_tuple (by decide +kernel) rfl) (pa_cons (pe_bltn (v := .ty "list") (by rfl) T.n_list (by decide +kernel) rfl) pa_nil))) pa_nil))))) (pw_or1 (pt_cmpR op_ne (pe_callB (r := rIsi K) call_isi (by rfl) T.n_isinstance (by decide +kernel) (pa_cons (pv 0) (pa_cons (pe_bltn (v := .ty "list") (by rfl) T.n_list (by decide +kernel) rfl) pa_nil))) (pe_callB (r := rIsi K) call_isi (by rfl) T.n_isinstance (by decide +kernel) (pa_cons (pv 1) (pa_cons (pe_bltn (v := .ty "list") (by rfl) T.n_list (by decide +kernel) rfl) pa_nil))) (nomark _))))) (pss_one (ps_ret pe_bl)) pss_nil)
      (pss_cons (ps_if (pt_cmpR op_ne (pe_callB (r := Wd.rLen K) call_len1 (by rfl) T.n_len PySem.boot_len (pa_cons (pv 0) pa_nil)) (pe_callB (r := Wd.rLen K) call_len1 (by rfl) T.n_len PySem.boot_len (pa_cons (pv 1) pa_nil)) (nomark _)) (pss_one (ps_ret pe_bl)) pss_nil)
      (pss_one (ps_ret (pe_cmpR (r := rEqD K) (op_eqD hr.units) (pe_lc (own := [("_law_k", 2)]) (g := gName 2) rfl nd (pi_range1 rfl T.n_range (pa_cons (pe_callB (r := Wd.rLen K) call_len1 (by rfl) T.n_len PySem.boot_len (pa_cons (pv 1) pa_nil)) pa_nil)) (blkOk_by (N := ["_law_found", "_law_due", "_law_k"]) (sc := C8.fnScope s_law_same) (by decide +kernel)) (fun _ _ _ _ _ => pg_name (i := 2) nd rfl (Or.inl rfl)) (fun _ _ _ _ _ => pts_one (pt_not (pt_val (C8.pe_c g_law_same hr (by first | decide | exact Nat.le_refl _ | omega) (by rfl) (pa_cons (pe_ix (r := rIx K) ix_seq (pv 0) (pv 2) (fun _ _ => rfl)) (pa_cons (pe_ix (r := rIx K) ix_seq (pv 1) (pv 2) (fun _ _ => rfl)) pa_nil)))))) (fun _ _ _ _ _ => (pv 2))) (pe_lst pa_nil) (nomark _)))))) pss_nil)
      (pss_cons (ps_if (pt_cmpR op_isN1 (pv 1) pe_non (nomark _)) (pss_one (ps_ret (pe_cmpR op_isN1 (pv 0) pe_non (nomark _)))) pss_nil)
      (pss_cons (ps_if (pt_val (pe_callB (r := rIsi K) call_isi (by rfl) T.n_isinstance (by decide +kernel) (pa_cons (pv 1) (pa_cons (pe_bltn (v := .ty "str") (by rfl) T.n_str (by decide +kernel) rfl) pa_nil)))) (pss_one (ps_ret (pe_and (pe_callB (r := rIsi K) call_isi (by rfl) T.n_isinstance (by decide +kernel) (pa_cons (pv 0) (pa_cons (pe_bltn (v := .ty "str") (by rfl) T.n_str (by decide +kernel) rfl) pa_nil))) (pe_one (pe_cmpR op_eq (pv 0) (pv 1) (nomark _)))))) pss_nil)
      (pss_cons (ps_if (PW.pt (pw_or (pt_val (pe_callB (r := rIsi K) call_isi (by rfl) T.n_isinstance (by decide +kernel) (pa_cons (pv 1) (pa_cons (pe_bltn (v := .ty "bool") (by rfl) T.n_bool (by decide +kernel) rfl) pa_nil)))) (pw_or1 (pt_val (pe_callB (r := rIsi K) call_isi (by rfl) T.n_isinstance (by decide +kernel) (pa_cons (pv 0) (pa_cons (pe_bltn (v := .ty "bool") (by rfl) T.n_bool (by decide +kernel) rfl) pa_nil))))))) (pss_one (ps_ret (pe_and (pe_callB (r := rIsi K) call_isi (by rfl) T.n_isinstance (by decide +kernel) (pa_cons (pv 1) (pa_cons (pe_bltn (v := .ty "bool") (by rfl) T.n_bool (by decide +kernel) rfl) pa_nil))) (pe_and (pe_callB (r := rIsi K) call_isi (by rfl) T.n_isinstance (by decide +kernel) (pa_cons (pv 0) (pa_cons (pe_bltn (v := .ty "bool") (by rfl) T.n_bool (by decide +kernel) rfl) pa_nil))) (pe_one (pe_cmpR op_eq (pv 0) (pv 1) (nomark _))))))) pss_nil)
      (pss_one (ps_ret (pe_and (pe_callB (r := rIsi K) call_isi (by rfl) T.n_isinstance (by decide +kernel) (pa_cons (pv 0) (pa_cons (pe_bltn (v := .ty "int") (by rfl) T.n_int (by decide +kernel) rfl) pa_nil))) (pe_one (pe_cmpR op_eq (pv 0) (pv 1) (nomark _)))))))))), ?_⟩
    walk_at "go"
    intro t1 ht1
    walk_at "go"
    have s1 := same_new (o := .tup [.ty "tuple", .ty "list"]) ht1
    have cls : Paired ClsV [.ty "tuple", .ty "list"] [.type "tuple", .type "list"] := .cons (.ty _) (.cons (.ty _) .nil)
    have hy1 := Dp_same s1 d y hy
    have hx1 := Dp_same s1 d x hx
    cases ok with
    | non =>
      cases hy1; cases hx1
      refine g_isiT upd_same cls (.base .non) (kit2 (r1 := false) (r2 := false) (by decide +kernel) (by decide +kernel)) ?_
      walk_at "go"
      exact q _ s1
    | str z =>
      cases hy1; cases hx1
      refine g_isiT upd_same cls (.base (.str _)) (kit2 (r1 := false) (r2 := false) (by decide +kernel) (by decide +kernel)) ?_
      walk_at "go"
      refine g_isiB (.ty _) (.base (.str _)) (b := true) (by decide +kernel) ?_
      walk_at "go"
      refine g_isiB (.ty _) (.base (.str _)) (b := true) (by decide +kernel) ?_
      walk_at "go"
      rw [decide_eq_true rfl]
      exact q _ s1
    | bl z =>
      cases hy1; cases hx1
      refine g_isiT upd_same cls (.base (.bl _)) (kit2 (r1 := false) (r2 := false) (by decide +kernel) (by decide +kernel)) ?_
      walk_at "go"
      refine g_isiB (.ty _) (.base (.bl _)) (b := false) (by decide +kernel) ?_
      walk_at "go"
      refine g_isiB (.ty _) (.base (.bl _)) (b := true) (by decide +kernel) ?_
      walk_at "go"
      refine g_isiB (.ty _) (.base (.bl _)) (b := true) (by decide +kernel) ?_
      walk_at "go"
      refine g_isiB (.ty _) (.base (.bl _)) (b := true) (by decide +kernel) ?_
      walk_at "go"
      rw [beq_self_eq_true]
      exact q _ s1
    | int z =>
      cases hy1; cases hx1
      refine g_isiT upd_same cls (.base (.int _)) (kit2 (r1 := false) (r2 := false) (by decide +kernel) (by decide +kernel)) ?_
      walk_at "go"
      refine g_isiB (.ty _) (.base (.int _)) (b := false) (by decide +kernel) ?_
      walk_at "go"
      refine g_isiB (.ty _) (.base (.int _)) (b := false) (by decide +kernel) ?_
      walk_at "go"
      refine g_isiB (.ty _) (.base (.int _)) (b := false) (by decide +kernel) ?_
      walk_at "go"
      refine g_isiB (.ty _) (.base (.int _)) (b := true) (by decide +kernel) ?_
      walk_at "go"
      rw [decide_eq_true rfl]
      exact q _ s1
    | @lst m ds hl hd =>
      cases hy1 with
      | @lst ay ys _ sy py =>
      cases hx1 with
      | @lst ax xs _ sx px =>
      refine g_isiT upd_same cls (ty_list sy) (kit2 (r1 := false) (r2 := true) (by decide +kernel) (by decide +kernel)) ?_
      walk_at "go"
      intro t2 ht2
      have s2 := s1.trans (same_new (o := .tup [.ty "tuple", .ty "list"]) ht2)
      have e2 := same_new (o := .tup [.ty "tuple", .ty "list"]) ht2
      walk_at "go"
      refine g_isiT upd_same cls (ty_list (list_same e2 sx)) (kit2 (r1 := false) (r2 := true) (by decide +kernel) (by decide +kernel)) ?_
      walk_at "go"
      refine g_isiB (.ty _) (ty_list (list_same e2 sx)) (b := true) (by decide +kernel) ?_
      walk_at "go"
      refine g_isiB (.ty _) (ty_list (list_same e2 sy)) (b := true) (by decide +kernel) ?_
      walk_at "go"
      refine g_len (.inl (list_same e2 sx)) ?_
      walk_at "go"
      refine g_len (.inl (list_same e2 sy)) ?_
      walk_at "go"
      rw [DpAll.len px, DpAll.len py]
      refine g_iteN (fun hh => absurd rfl hh) (fun _ => ?_)
      walk_at "go"
      refine g_len (.inl (list_same e2 sy)) ?_
      walk_at "go"
      rw [DpAll.len py]
      refine w_lcRange (by omega) (by omega) (fun D i H' => Same (upd H t1 (.tup [.ty "tuple", .ty "list"])) H' ∧ H' D = some (.lst [])) ?_ ?_ ?_
      · intro D hD
        exact ⟨e2.trans (same_new hD), upd_same⟩
      · rintro D i H' hD hi ⟨sm, eD⟩
        have hi' : i < ds.length := by omega
        have hdi : ds[i]? = some ds[i] := List.getElem?_eq_getElem hi'
        obtain ⟨vx, hvx, dvx⟩ := DpAll.at px hdi
        obtain ⟨vy, hvy, dvy⟩ := DpAll.at py hdi
        walk_at "go"
        refine ⟨rfl, ?_⟩
        walk_at "go"
        refine .inl ⟨ax, xs, _, vx, rfl, rfl, list_same sm sx, at_of (j := i) rfl hvx, ?_⟩
        walk_at "go"
        refine .inl ⟨ay, ys, _, vy, rfl, rfl, list_same sm sy, at_of (j := i) rfl hvy, ?_⟩
        walk_at "go"
        refine ⟨vx, vy, ds[i], rfl, Dp_same sm _ _ dvx, Dp_same sm _ _ dvy, hd _ (List.getElem_mem hi'), fun H3 s3 => ?_⟩
        walk_at "go"
        exact ⟨sm.trans s3, s3 _ _ eD⟩
      · rintro D H' hD ⟨sm, eD⟩
        walk_at "go"
        intro z hz
        walk_at "go"
        refine g_eqLI (ns := []) (ms := []) (SqL.of (same_new hz _ _ eD)) (SqL.of upd_same) ?_
        walk_at "go"
        exact q _ ((s1.trans sm).trans (same_new hz))
    | @tup m ds hl hd =>
      cases hy1 with
      | @tup ay ys _ sy py =>
      cases hx1 with
      | @tup ax xs _ sx px =>
      refine g_isiT upd_same cls (ty_tup sy) (kit2 (r1 := true) (r2 := false) (by decide +kernel) (by decide +kernel)) ?_
      walk_at "go"
      intro t2 ht2
      have s2 := s1.trans (same_new (o := .tup [.ty "tuple", .ty "list"]) ht2)
      have e2 := same_new (o := .tup [.ty "tuple", .ty "list"]) ht2
      walk_at "go"
      refine g_isiT upd_same cls (ty_tup (tup_same e2 sx)) (kit2 (r1 := true) (r2 := false) (by decide +kernel) (by decide +kernel)) ?_
      walk_at "go"
      refine g_isiB (.ty _) (ty_tup (tup_same e2 sx)) (b := false) (by decide +kernel) ?_
      walk_at "go"
      refine g_isiB (.ty _) (ty_tup (tup_same e2 sy)) (b := false) (by decide +kernel) ?_
      walk_at "go"
      refine g_len (.inr (tup_same e2 sx)) ?_
      walk_at "go"
      refine g_len (.inr (tup_same e2 sy)) ?_
      walk_at "go"
      rw [DpAll.len px, DpAll.len py]
      refine g_iteN (fun hh => absurd rfl hh) (fun _ => ?_)
      walk_at "go"
      refine g_len (.inr (tup_same e2 sy)) ?_
      walk_at "go"
      rw [DpAll.len py]
      refine w_lcRange (by omega) (by omega) (fun D i H' => Same (upd H t1 (.tup [.ty "tuple", .ty "list"])) H' ∧ H' D = some (.lst [])) ?_ ?_ ?_
      · intro D hD
        exact ⟨e2.trans (same_new hD), upd_same⟩
      · rintro D i H' hD hi ⟨sm, eD⟩
        have hi' : i < ds.length := by omega
        have hdi : ds[i]? = some ds[i] := List.getElem?_eq_getElem hi'
        obtain ⟨vx, hvx, dvx⟩ := DpAll.at px hdi
        obtain ⟨vy, hvy, dvy⟩ := DpAll.at py hdi
        walk_at "go"
        refine ⟨rfl, ?_⟩
        walk_at "go"
        refine .inr (.inl ⟨ax, xs, _, vx, rfl, rfl, tup_same sm sx, at_of (j := i) rfl hvx, ?_⟩)
        walk_at "go"
        refine .inr (.inl ⟨ay, ys, _, vy, rfl, rfl, tup_same sm sy, at_of (j := i) rfl hvy, ?_⟩)
        walk_at "go"
        refine ⟨vx, vy, ds[i], rfl, Dp_same sm _ _ dvx, Dp_same sm _ _ dvy, hd _ (List.getElem_mem hi'), fun H3 s3 => ?_⟩
        walk_at "go"
        exact ⟨sm.trans s3, s3 _ _ eD⟩
      · rintro D H' hD ⟨sm, eD⟩
        walk_at "go"
        intro z hz
        walk_at "go"
        refine g_eqLI (ns := []) (ms := []) (SqL.of (same_new hz _ _ eD)) (SqL.of upd_same) ?_
        walk_at "go"
        exact q _ ((s1.trans sm).trans (same_new hz))
/-- at every depth -/
theorem ok_same (T : Txt K mg) {f : Addr} {fd : FuncData} (D : C8.Def K mg "_law_same" s_law_same f fd) (b : Binds K fd ["_law_found", "_law_due"] []) : ∀ n : Nat, C8.Cal P w K mg base n "_law_same" (sp_same K n) []
  | 0 => ⟨f, fd, ["_law_found", "_law_due"], [], ⟨fun _ _ _ _ h => h.elim, fun _ _ _ _ _ _ _ _ _ _ _ _ _ h => h.elim⟩, D.mgf, D.kp, b, .nil⟩
  | n + 1 => same_step T D b (ok_same T D b n)
theorem use_same {n : Nat} {x y : V} {d : PyData} {H : Hp} {Q : VK} {E : XK} (hx : Dp K H x d) (hy : Dp K H y d) (ok : OkD n d) (k : ∀ H', Same H H' → Q (.bl true) H') : sp_same K (n + 1) ([x, y] ++ []) H Q E := ⟨x, y, d, rfl, hx, hy, ok, k⟩
abbrev s_is_number : Stmt := top 13
theorem sc_is_number : FnScope ["value"] ["value"] (C8.fnScope s_is_number) := C8.fnScope_by (by decide +kernel)
def sp_is_number : Sp := fun vs H Q _ => ∃ i : Int, vs = [.int i] ∧ Q (.bl true) H
theorem ok_is_number (T : Txt K mg) {f : Addr} {fd : FuncData} (D : C8.Def K mg "is_number" s_is_number f fd) (b : Binds K fd ["value"] []) : C8.Cal P w K mg base 1 "is_number" sp_is_number [] := by
  refine C8.cal0 D b .nil sc_is_number (fun vs H Q E h => ?_) fun cdv A outer s H vs Q E hr h => ?_
  · obtain ⟨i, rfl, _⟩ := h; rfl
  · obtain ⟨i, rfl, q⟩ := h
    have nd := sc_is_number.nd
    refine ⟨_, (pss_one (ps_ret (pe_and (pe_callB (r := rIsi K) call_isi (by rfl) T.n_isinstance (by decide +kernel) (pa_cons (pv 0) (pa_cons (pe_bltn (v := .ty "int") (by rfl) T.n_int (by decide +kernel) rfl) pa_nil))) (pe_one (pe_not (pe_callB (r := rIsi K) call_isi (by rfl) T.n_isinstance (by decide +kernel) (pa_cons (pv 0) (pa_cons (pe_bltn (v := .ty "bool") (by rfl) T.n_bool (by decide +kernel) rfl) pa_nil)))))))), ?_⟩
    walk_at "go"
    refine g_isi (.ty "int") (.base (.int i)) (kit_ty (r := true) (by decide +kernel)) ?_
    walk_at "go"
    refine g_isi (.ty "bool") (.base (.int i)) (kit_ty (r := false) (by decide +kernel)) ?_
    walk_at "go"
    exact q

abbrev s_is_range : Stmt := top 14
theorem sc_is_range : FnScope ["least", "most", "limit"] ["least", "most", "limit"] (C8.fnScope s_is_range) := C8.fnScope_by (by decide +kernel)
def sp_is_range : Sp := fun vs H Q _ => ∃ i j k : Int, vs = [.int i, .int j, .int k] ∧ (0 ≤ i ∧ i ≤ j ∧ j ≤ k) ∧ Q (.bl true) H
theorem ok_is_range (T : Txt K mg) {f : Addr} {fd : FuncData} (D : C8.Def K mg "is_range" s_is_range f fd) (b : Binds K fd ["least", "most", "limit"] []) (g_is_number : C8.Cal P w K mg base 1 "is_number" sp_is_number []) : C8.Cal P w K mg base 2 "is_range" sp_is_range [] := by
  refine C8.cal0 D b .nil sc_is_range (fun vs H Q E h => ?_) fun cdv A outer s H vs Q E hr h => ?_
  · obtain ⟨i, j, k, rfl, _⟩ := h; rfl
  · obtain ⟨i, j, k, rfl, ⟨h1, h2, h3⟩, q⟩ := h
    have nd := sc_is_range.nd
    refine ⟨_, (pss_one (ps_ret (pe_and (C8.pe_c g_is_number hr (by first | decide | exact Nat.le_refl _ | omega) (by rfl) (pa_cons (pv 0) pa_nil)) (pe_and (C8.pe_c g_is_number hr (by first | decide | exact Nat.le_refl _ | omega) (by rfl) (pa_cons (pv 1) pa_nil)) (pe_one (pe_chain3 op_le op_le op_le pe_int (pv 0) (pv 1) (pv 2))))))), ?_⟩
    walk_at "go"
    refine ⟨i, rfl, ?_⟩
    walk_at "go"
    refine ⟨j, rfl, ?_⟩
    walk_at "go"
    refine g_ite (fun _ => ?_) (fun h => absurd h1 h)
    walk_at "go"
    refine g_ite (fun _ => ?_) (fun h => absurd h2 h)
    walk_at "go"
    rw [decide_eq_true h3]
    exact q

end
end K08
namespace K08
open PySem PySem.Spec PyProof.Rows L2 Wd
/-- the program's names and constants; the refusal NoPats at CN -/
structure TxtW (K : PySem.W.Frag) (mg : Str → Option Value) (CN : Addr) : Prop extends Txt K mg where
  n_max : mg "max" = none
  n_min : mg "min" = none
  n_sorted : mg "sorted" = none
  c_GREATEST_HIGH : ∃ t, mg "GREATEST_HIGH" = some (.int 1000 t)
  c_MOST_WORKS : ∃ t, mg "MOST_WORKS" = some (.int 10 t)
  c_LONGEST_WORK : ∃ t, mg "LONGEST_WORK" = some (.int 1000 t)
  g_NoPats : mg "NoPats" = some (.ref CN)
  x_NoPats : PySem.W.excIn K CN [.type "ValueError", .type "Exception", .type "BaseException", .type "object"] "ValueError.__new__" = true
  k_NoPats : PySem.W.keepIn K (.ref CN) = true
  b_NoPats : PySem.W.subIn K (.ref CN) (.type "BaseException") = some true
  t_NoPats : PySem.W.typeIn K (.ref CN) = some (.type "type")
structure TxtR (K : PySem.W.Frag) (CR : Addr) : Prop where
  c : Cls K CR
  nL : NoAttr K CR "low"
  nH : NoAttr K CR "high"
  nW : NoAttr K CR "works"
/-- works in a list -/
abbrev Wk := Addr × Int × Int
structure WkL (H : Hp) (L : Addr) (zs : List Wk) : Prop where
  at_ : H L = some (.lst (zs.map fun z => V.ref z.1))
  own : ∀ z ∈ zs, H z.1 = some (.tup [.int z.2.1, .int z.2.2])
theorem WkL.same {H H' : Hp} {L : Addr} {zs : List Wk} (w : WkL H L zs) (e : Same H H') : WkL H' L zs := ⟨e _ _ w.at_, fun z hz => e _ _ (w.own z hz)⟩
def okZ (zs : List Wk) : Prop := ∀ z ∈ zs, 0 ≤ z.2.1 ∧ z.2.1 ≤ z.2.2 ∧ z.2.2 ≤ 1000
def okW (lo hi : Int) : Prop := 0 ≤ lo ∧ lo ≤ hi ∧ hi ≤ 1000
theorem zs_at {zs : List Wk} {i : Nat} {x : V} (h : (zs.map fun z => V.ref z.1)[i]? = some x) : ∃ z, zs[i]? = some z ∧ x = .ref z.1 := by
  rw [List.getElem?_map] at h
  cases hq : zs[i]? with
  | none => rw [hq] at h; cases h
  | some z => rw [hq] at h; exact ⟨z, rfl, (Option.some.inj h).symm⟩
/-! ### the mirror of a ring -/
def sumA (xs : List (Int × Int)) : Int := (xs.map (·.1)).sum
def sumB (xs : List (Int × Int)) : Int := (xs.map (·.2)).sum
def tim (lo hi : Int) (xs : List (Int × Int)) : Bool := decide (lo ≤ sumA xs ∧ sumB xs ≤ hi)
/-- from behind b up to p, around if need be -/
def gapL {α : Type} (l : List α) (b p : Nat) : List α := if b < p then (l.drop (b + 1)).take (p - b) else l.drop (b + 1) ++ l.take (p + 1)
def fit (lo hi : Int) (ws : List (Int × Int)) (p b : Nat) : Bool := tim lo hi (gapL ws b p)
/-- numbers from s on -/
def ups (s : Nat) : Nat → List Nat
  | 0 => []
  | n + 1 => ups s n ++ [s + n]
theorem ups_mem {s : Nat} : ∀ {n x : Nat}, x ∈ ups s n ↔ s ≤ x ∧ x < s + n
  | 0, x => by constructor; (intro h; cases h); (intro h; omega)
  | n + 1, x => by
    show x ∈ ups s n ++ [s + n] ↔ _
    rw [List.mem_append, List.mem_singleton, ups_mem]
    omega
theorem ups_len (s : Nat) : ∀ n, (ups s n).length = n
  | 0 => rfl
  | n + 1 => by show (ups s n ++ [s + n]).length = _; rw [List.length_append, ups_len s n]; rfl
theorem ups_pw (s : Nat) : ∀ n, (ups s n).Pairwise (· < ·)
  | 0 => List.Pairwise.nil
  | n + 1 => List.pairwise_append.mpr ⟨ups_pw s n, List.pairwise_singleton _ _, fun a ha b hb => by
    rw [List.mem_singleton] at hb; have := (ups_mem.mp ha).2; omega⟩
def firsts (lo hi : Int) (ws : List (Int × Int)) : List Nat := (ups 0 ws.length).filter fun p => tim lo hi (ws.take (p + 1))
def nexts (lo hi : Int) (ws : List (Int × Int)) (b : Nat) : List Nat := (ups (b + 1) (ws.length - (b + 1))).filter fun p => fit lo hi ws p b
abbrev nI (n : Nat) : V := .int n
theorem nI_at {ns : List Nat} {i : Nat} {x : V} (h : (ns.map nI)[i]? = some x) : ∃ n, ns[i]? = some n ∧ x = nI n := by
  rw [List.getElem?_map] at h
  cases hq : ns[i]? with
  | none => rw [hq] at h; cases h
  | some z => rw [hq] at h; exact ⟨z, rfl, (Option.some.inj h).symm⟩
/-- a cut between two places in bounds -/
theorem cut_two {α : Type} (l : List α) (f : α → V) {a b : Nat} (ha : a ≤ l.length) (hb : b ≤ l.length) : cutV (l.map f) (some (a : Int)) (some (b : Int)) = ((l.drop a).take (b - a)).map f := by
  unfold cutV
  rw [HT.sIx_nat, HT.sIx_nat, List.length_map, Nat.min_eq_left ha, Nat.min_eq_left hb, List.map_take, List.map_drop]
theorem cut_from {α : Type} (l : List α) (f : α → V) {a : Nat} (ha : a ≤ l.length) : cutV (l.map f) (some (a : Int)) none = (l.drop a).map f := by
  unfold cutV
  rw [HT.sIx_nat, HT.sIx_none, List.length_map, Nat.min_eq_left ha, ← List.map_drop, List.take_of_length_le (by rw [List.length_map, List.length_drop]; exact Nat.le_refl _)]
theorem cut_to {α : Type} (l : List α) (f : α → V) {b : Nat} (hb : b ≤ l.length) : cutV (l.map f) none (some (b : Int)) = (l.take b).map f := by
  unfold cutV
  rw [HT.sIx_nat, HT.sIx_none, List.length_map, Nat.min_eq_left hb, List.drop_zero, Nat.sub_zero, List.map_take]
section
variable {P : Program} {w : World} {K : PySem.W.Frag} {mg : Str → Option Value} {base : Heap} {CN CR : Addr}
abbrev s_check_window : Stmt := top 18
theorem sc_check_window : FnScope ["window", "low", "high"] ["window"] (C8.fnScope s_check_window) := C8.fnScope_by (by decide +kernel)
def sp_check_window (K : PySem.W.Frag) : Sp := fun vs H Q _ => ∃ (W : Addr) (lo hi : Int), vs = [.ref W] ∧ SqT K H W [.int lo, .int hi] ∧ okW lo hi ∧ Q .non H
theorem ok_check_window (T : TxtW K mg CN) {f : Addr} {fd : FuncData} (D : C8.Def K mg "check_window" s_check_window f fd) (b : Binds K fd ["window"] []) (g_is_range : C8.Cal P w K mg base 2 "is_range" sp_is_range []) : C8.Cal P w K mg base 3 "check_window" (sp_check_window K) [] := by
  refine C8.cal0 D b .nil sc_check_window (fun vs H Q E h => ?_) fun cdv A outer s H vs Q E hr h => ?_
  · obtain ⟨W, lo, hi, rfl, _⟩ := h; rfl
  · obtain ⟨W, lo, hi, rfl, hW, ok, q⟩ := h
    have nd := sc_check_window.nd
    obtain ⟨tg, c_GREATEST_HIGH⟩ := T.c_GREATEST_HIGH
    refine ⟨_, (pss_cons (ps_asg (pv 0) (pg_tup rfl (pgs_cons (pg_name (i := 1) nd rfl (Or.inl rfl)) (pgs_cons (pg_name (i := 2) nd rfl (Or.inl rfl)) pgs_nil))))
      (pss_one (ps_if (pt_not (pt_val (C8.pe_c g_is_range hr (by first | decide | exact Nat.le_refl _ | omega) (by rfl) (pa_cons (pv 1) (pa_cons (pv 2) (pa_cons (pe_glob (v := .int 1000) rfl c_GREATEST_HIGH ⟨_, rfl⟩) pa_nil)))))) (pss_one ps_never) pss_nil))), ?_⟩
    walk_at "go"
    refine g_gtup hW rfl ?_
    walk_at "go"
    refine ⟨lo, hi, 1000, rfl, ok, ?_⟩
    walk_at "go"
    exact q

abbrev s_check_works : Stmt := top 21
theorem sc_check_works : FnScope ["works", "least", "most"] ["works"] (C8.fnScope s_check_works) := C8.fnScope_by (by decide +kernel)
def sp_check_works : Sp := fun vs H Q _ => ∃ (L : Addr) (zs : List Wk), vs = [.ref L] ∧ WkL H L zs ∧ okZ zs ∧ zs ≠ [] ∧ zs.length ≤ 10 ∧ Q .non H
theorem ok_check_works (T : TxtW K mg CN) {f : Addr} {fd : FuncData} (D : C8.Def K mg "check_works" s_check_works f fd) (b : Binds K fd ["works"] []) (g_is_range : C8.Cal P w K mg base 2 "is_range" sp_is_range []) : C8.Cal P w K mg base 3 "check_works" sp_check_works [] := by
  refine C8.cal0 D b .nil sc_check_works (fun vs H Q E h => ?_) fun cdv A outer s H vs Q E hr h => ?_
  · obtain ⟨L, zs, rfl, _⟩ := h; rfl
  · obtain ⟨L, zs, rfl, wk, ok, ne, ln, q⟩ := h
    have nd := sc_check_works.nd
    have lp : 0 < zs.length := List.length_pos_iff.mpr ne
    obtain ⟨t1, c_MOST_WORKS⟩ := T.c_MOST_WORKS
    obtain ⟨t2, c_LONGEST_WORK⟩ := T.c_LONGEST_WORK
    refine ⟨_, (pss_cons (ps_if (pt_not (pt_chain op_le op_le pe_int (pe_callB (r := Wd.rLen K) call_len1 (by rfl) T.n_len PySem.boot_len (pa_cons (pv 0) pa_nil)) (pe_glob (v := .int 10) rfl c_MOST_WORKS ⟨_, rfl⟩))) (pss_one ps_never) pss_nil)
      (pss_one (ps_for PassesOwn.never rfl (pi_list (pv 0)) (pg_tup rfl (pgs_cons (pg_name (i := 1) nd rfl (Or.inl rfl)) (pgs_cons (pg_name (i := 2) nd rfl (Or.inl rfl)) pgs_nil))) (pss_one (ps_if (pt_not (pt_val (C8.pe_c g_is_range hr (by first | decide | exact Nat.le_refl _ | omega) (by rfl) (pa_cons (pv 1) (pa_cons (pv 2) (pa_cons (pe_glob (v := .int 1000) rfl c_LONGEST_WORK ⟨_, rfl⟩) pa_nil)))))) (pss_one ps_never) pss_nil))))), ?_⟩
    walk_at "go"
    refine g_len (.inl (SqL.of wk.at_)) ?_
    walk_at "go"
    rw [List.length_map]
    refine g_ite (fun _ => ?_) (fun h => absurd (show (1 : Int) ≤ (zs.length : Int) by omega) h)
    walk_at "go"
    refine g_iteN (fun h => absurd (show (zs.length : Int) ≤ 10 by omega) h) (fun _ => ?_)
    walk_at "go"
    refine w_list (xs := zs.map fun z => V.ref z.1) (fun i σ H' => H' = H ∧ ∃ (v1 v2 : Option V), σ = [some (.ref L), v1, v2]) ?_ ?_ ?_ ?_
    · exact ⟨rfl, _, _, rfl⟩
    · rintro i σ H' _ ⟨rfl, _⟩; exact SqL.of wk.at_
    · rintro i x σ H' hx ⟨rfl, v1, v2, rfl⟩
      obtain ⟨z, hz, rfl⟩ := zs_at hx
      have zm := List.mem_of_getElem? hz
      walk_at "go"
      refine g_gtup (SqT.of (wk.own z zm)) rfl ?_
      walk_at "go"
      refine ⟨z.2.1, z.2.2, 1000, rfl, ok z zm, ?_⟩
      walk_at "go"
      exact ⟨rfl, _, _, rfl⟩
    · rintro σ H' ⟨rfl, v1, v2, rfl⟩
      walk_at "go"
      exact q

/-! ### a ring -/
abbrev ringF (lo hi : Int) (L : Addr) : List (Str × V) := [("low", .int lo), ("high", .int hi), ("works", .ref L)]
theorem lk_l {lo hi : Int} {L : Addr} : (ringF lo hi L).lookup ("low" : Str) = some (.int lo) := rfl
theorem lk_h {lo hi : Int} {L : Addr} : (ringF lo hi L).lookup ("high" : Str) = some (.int hi) := rfl
theorem lk_w {lo hi : Int} {L : Addr} : (ringF lo hi L).lookup ("works" : Str) = some (.ref L) := rfl
abbrev s_Ring_init : Stmt := (C8.clsBody (top 22)).getD 0 (.Pass ⟨0, 0, 0, 0⟩)
abbrev s_Ring_is_timely : Stmt := (C8.clsBody (top 22)).getD 1 (.Pass ⟨0, 0, 0, 0⟩)
abbrev s_Ring_fits : Stmt := (C8.clsBody (top 22)).getD 2 (.Pass ⟨0, 0, 0, 0⟩)
abbrev s_Ring_first_places : Stmt := (C8.clsBody (top 22)).getD 3 (.Pass ⟨0, 0, 0, 0⟩)
abbrev s_Ring_next_places : Stmt := (C8.clsBody (top 22)).getD 4 (.Pass ⟨0, 0, 0, 0⟩)
theorem sc_Ring_init : FnScope ["self", "window", "works"] ["self", "window", "works"] (C8.fnScope s_Ring_init) := C8.fnScope_by (by decide +kernel)
def sp_init (K : PySem.W.Frag) (CR : Addr) : Sp := fun vs H Q _ => ∃ (R dx W L : Addr) (lo hi : Int) (zs : List Wk), vs = [.ref R, .ref W, .ref L] ∧ H R = some (.ins CR dx []) ∧ SqT K H W [.int lo, .int hi] ∧ okW lo hi ∧ WkL H L zs ∧ okZ zs ∧ zs ≠ [] ∧ zs.length ≤ 10 ∧
  ∀ H', Frm R H H' → H' R = some (.ins CR dx (ringF lo hi L)) → Q .non H'
theorem ok_init (T : TxtW K mg CN) (TR : TxtR K CR) {f : Addr} {fd : FuncData} (M : Mk K CR f) (hm : mg "Ring" = some (.ref CR)) (F : C8.Fun K "__init__" "Ring.__init__" s_Ring_init f fd) (b : Binds K fd ["self", "window", "works"] [])
    (g_check_window : C8.Cal P w K mg base 3 "check_window" (sp_check_window K) []) (g_check_works : C8.Cal P w K mg base 3 "check_works" sp_check_works []) : C8.Mak P w K mg base 4 "Ring" CR (sp_init K CR) [] := by
  refine C8.mak0 M hm F b .nil sc_Ring_init (fun vs H Q E h => ?_) fun cdv A outer s H vs Q E hr h => ?_
  · obtain ⟨R, dx, W, L, lo, hi, zs, rfl, _⟩ := h; rfl
  · obtain ⟨R, dx, W, L, lo, hi, zs, rfl, hR, hW, okw, wk, okz, ne, ln, q⟩ := h
    have nd := sc_Ring_init.nd
    refine ⟨_, (pss_cons (ps_expr (C8.pe_c g_check_window hr (by first | decide | exact Nat.le_refl _ | omega) (by rfl) (pa_cons (pv 1) pa_nil)))
      (pss_cons (ps_expr (C8.pe_c g_check_works hr (by first | decide | exact Nat.le_refl _ | omega) (by rfl) (pa_cons (pv 2) pa_nil)))
      (pss_cons (ps_asg (pv 1) (pg_tup rfl (pgs_cons (pg_att (pv 0)) (pgs_cons (pg_att (pv 0)) pgs_nil))))
      (pss_one (ps_fld (pv 0) (pv 2) rfl))))), ?_⟩
    walk_at "go"
    refine ⟨W, lo, hi, rfl, hW, okw, ?_⟩
    walk_at "go"
    refine ⟨L, zs, rfl, wk, okz, ne, ln, ?_⟩
    walk_at "go"
    refine g_gtup hW rfl ?_
    walk_at "go"
    refine ⟨_, rfl, R, CR, dx, _, rfl, hR, TR.c, TR.nL, by decide, ?_⟩
    walk_at "go"
    refine ⟨_, rfl, R, CR, dx, _, rfl, upd_same, TR.c, TR.nH, by show 1 < 1000; decide, ?_⟩
    walk_at "go"
    refine ⟨_, rfl, _, rfl, R, CR, dx, _, rfl, upd_same, TR.c, TR.nW, by show 2 < 1000; decide, ?_⟩
    walk_at "go"
    exact q _ ((Frm.set.trans .set).trans .set) upd_same

theorem sc_Ring_is_timely : FnScope ["self", "works", "least", "work", "most"] ["self", "works"] (C8.fnScope s_Ring_is_timely) := C8.fnScope_by (by decide +kernel)
def sp_timely (K : PySem.W.Frag) (CR : Addr) : Sp := fun vs H Q _ => ∃ (R dx L L2 : Addr) (lo hi : Int) (zs : List Wk), vs = [.ref R, .ref L2] ∧ H R = some (.ins CR dx (ringF lo hi L)) ∧ WkL H L2 zs ∧ zs.length ≤ 1000 ∧ ∀ H', Same H H' → Q (.bl (tim lo hi (zs.map (·.2)))) H'
theorem map_at2 {α : Type} {l : List α} {f : α → V} {i : Nat} {x : V} (h : (l.map f)[i]? = some x) : ∃ z, l[i]? = some z ∧ x = f z := by
  rw [List.getElem?_map] at h
  cases hq : l[i]? with
  | none => rw [hq] at h; cases h
  | some z => rw [hq] at h; exact ⟨z, rfl, (Option.some.inj h).symm⟩
theorem take_snocM {α β : Type} {l : List α} {i : Nat} {x : α} (f : α → β) (h : l[i]? = some x) : (l.take (i + 1)).map f = (l.take i).map f ++ [f x] := by
  rw [List.take_add_one, h, List.map_append]; rfl
theorem ok_timely (T : TxtW K mg CN) (TR : TxtR K CR) {f : Addr} {fd : FuncData} (me : Meth K CR "is_timely" f) (F : C8.Fun K "is_timely" "Ring.is_timely" s_Ring_is_timely f fd) (b : Binds K fd ["self", "works"] []) : C8.Met P w K mg base 1 CR "is_timely" (sp_timely K CR) [] := by
  refine C8.met0 TR.c me F b sc_Ring_is_timely (fun vs H Q E h => ?_) fun cdv A outer s H vs Q E hr h => ?_
  · obtain ⟨R, dx, L, L2, lo, hi, zs, rfl, _⟩ := h; rfl
  · obtain ⟨R, dx, L, L2, lo, hi, zs, rfl, hR, wk, ln, q⟩ := h
    have nd := sc_Ring_is_timely.nd
    refine ⟨_, (pss_cons (ps_set (i := 2) nd rfl (Or.inl rfl) (pe_callB (r := rSum K) (cr_sum rfl) (by rfl) T.n_sum (by decide +kernel) (pa_cons (pe_lc (own := [("work", 3)]) (g := gName 3) (tt := tYes) rfl nd (pi_list (pv 1)) (blkOk_by (N := ["self", "works", "least", "work", "most"]) (sc := C8.fnScope s_Ring_is_timely) (by decide +kernel)) (fun _ _ _ _ _ => pg_name (i := 3) nd rfl (Or.inl rfl)) (fun _ _ _ _ _ => pts_nil) (fun _ _ _ _ _ => (pe_ix (r := rIxT K) ix_tup (pv 3) pe_int (fun _ _ => rfl)))) pa_nil)))
      (pss_cons (ps_set (i := 4) nd rfl (Or.inl rfl) (pe_callB (r := rSum K) (cr_sum rfl) (by rfl) T.n_sum (by decide +kernel) (pa_cons (pe_lc (own := [("work", 3)]) (g := gName 3) (tt := tYes) rfl nd (pi_list (pv 1)) (blkOk_by (N := ["self", "works", "least", "work", "most"]) (sc := C8.fnScope s_Ring_is_timely) (by decide +kernel)) (fun _ _ _ _ _ => pg_name (i := 3) nd rfl (Or.inl rfl)) (fun _ _ _ _ _ => pts_nil) (fun _ _ _ _ _ => (pe_ix (r := rIxT K) ix_tup (pv 3) pe_int (fun _ _ => rfl)))) pa_nil)))
      (pss_one (ps_ret (pe_and (pe_cmpR op_le (pe_fld (pv 0) rfl) (pv 2) (nomark _)) (pe_one (pe_cmpR op_le (pv 4) (pe_fld (pv 0) rfl) (nomark _)))))))), ?_⟩
    walk_at "go"
    refine w_lcList (SqL.of wk.at_) (fun D i H' => Same H H' ∧ H' D = some (.lst (((zs.take i).map fun z => z.2.1).map V.int))) (fun D hD => ⟨same_new hD, upd_same⟩) (fun D i H' hD _ h => SqL.of (h.1 _ _ wk.at_)) (fun D i y H' hD hy h => ?_) (fun D1 H1 hD1 h => ?_)
    · obtain ⟨z, hz, rfl⟩ := zs_at hy
      have il := (List.getElem?_eq_some_iff.mp hz).1
      walk_at "go"
      refine ⟨rfl, ?_⟩
      walk_at "go"
      refine g_ixT (SqT.of (h.1 _ _ (wk.own z (List.mem_of_getElem? hz)))) rfl ?_
      exact ⟨_, h.2, by rw [sizeLine_eq, List.length_map, List.length_map]; have := List.length_take_le i zs; omega, Wd.Same.mut h.1 hD, by rw [upd_same, take_snocM _ hz, List.map_append]; rfl⟩
    obtain ⟨s1, e1⟩ := h
    rw [List.length_map, List.take_length] at e1
    walk_at "go"
    refine g_sum (SqL.of e1) ?_
    walk_at "go"
    have wk1 := wk.same s1
    refine w_lcList (SqL.of wk1.at_) (fun D i H' => Same H1 H' ∧ H' D = some (.lst (((zs.take i).map fun z => z.2.2).map V.int))) (fun D hD => ⟨same_new hD, upd_same⟩) (fun D i H' hD _ h => SqL.of (h.1 _ _ wk1.at_)) (fun D i y H' hD hy h => ?_) (fun D2 H2 hD2 h => ?_)
    · obtain ⟨z, hz, rfl⟩ := zs_at hy
      have il := (List.getElem?_eq_some_iff.mp hz).1
      walk_at "go"
      refine ⟨rfl, ?_⟩
      walk_at "go"
      refine g_ixT (SqT.of (h.1 _ _ (wk1.own z (List.mem_of_getElem? hz)))) rfl ?_
      exact ⟨_, h.2, by rw [sizeLine_eq, List.length_map, List.length_map]; have := List.length_take_le i zs; omega, Wd.Same.mut h.1 hD, by rw [upd_same, take_snocM _ hz, List.map_append]; rfl⟩
    obtain ⟨s2, e2⟩ := h
    rw [List.length_map, List.take_length] at e2
    walk_at "go"
    refine g_sum (SqL.of e2) ?_
    have s12 := s1.trans s2
    have hR2 := s12 _ _ hR
    have ea : (zs.map fun z => z.2.1).sum = sumA (zs.map (·.2)) := by unfold sumA; rw [List.map_map]; rfl
    have eb : (zs.map fun z => z.2.2).sum = sumB (zs.map (·.2)) := by unfold sumB; rw [List.map_map]; rfl
    rw [ea, eb]
    unfold tim at q
    walk_at "go"
    refine ⟨_, rfl, R, CR, dx, _, _, rfl, hR2, TR.c, TR.nL, lk_l, ?_⟩
    walk_at "go"
    generalize sumA (zs.map (·.2)) = a at q ⊢
    generalize sumB (zs.map (·.2)) = c at q ⊢
    refine g_ite (fun h1 => ?_) (fun h1 => ?_)
    · walk_at "go"
      refine ⟨_, rfl, R, CR, dx, _, _, rfl, hR2, TR.c, TR.nH, lk_h, ?_⟩
      walk_at "go"
      have e : decide (lo ≤ a ∧ c ≤ hi) = decide (c ≤ hi) := by
        by_cases h2 : c ≤ hi
        · rw [decide_eq_true h2, decide_eq_true ⟨h1, h2⟩]
        · rw [decide_eq_false h2, decide_eq_false (fun z => h2 z.2)]
      rw [← e]
      exact q _ s12
    · rw [decide_eq_false (fun z => h1 z.1)] at q
      walk_at "go"
      exact q _ s12
end
end K08
namespace K08
open PySem PySem.Spec PyProof.Rows L2 Wd
section
variable {P : Program} {w : World} {K : PySem.W.Frag} {mg : Str → Option Value} {base : Heap} {CN CR : Addr}
theorem gapL_map {α β : Type} (f : α → β) (l : List α) (b p : Nat) : (gapL l b p).map f = gapL (l.map f) b p := by
  unfold gapL
  split
  · rw [List.map_take, List.map_drop]
  · rw [List.map_append, List.map_drop, List.map_take]
theorem gapL_len {α : Type} (l : List α) (b p : Nat) : (gapL l b p).length ≤ 2 * l.length := by
  unfold gapL
  split
  · rw [List.length_take, List.length_drop]; omega
  · rw [List.length_append, List.length_drop, List.length_take]; omega
theorem gapL_mem {α : Type} {l : List α} {b p : Nat} {x : α} (h : x ∈ gapL l b p) : x ∈ l := by
  unfold gapL at h
  split at h
  · exact List.mem_of_mem_drop (List.mem_of_mem_take h)
  · rw [List.mem_append] at h
    exact h.elim List.mem_of_mem_drop List.mem_of_mem_take
theorem use_timely {R dx L L2 : Addr} {lo hi : Int} {zs : List Wk} {H : Hp} {Q : VK} {E : XK} {vs : List V} (hv : vs = [.ref R, .ref L2]) (hR : H R = some (.ins CR dx (ringF lo hi L))) (wk : WkL H L2 zs) (ln : zs.length ≤ 1000) (k : ∀ H', Same H H' → Q (.bl (tim lo hi (zs.map (·.2)))) H') : sp_timely K CR vs H Q E :=
  ⟨R, dx, L, L2, lo, hi, zs, hv, hR, wk, ln, k⟩
theorem sc_Ring_fits : FnScope ["self", "place", "behind"] ["self", "place", "behind"] (C8.fnScope s_Ring_fits) := C8.fnScope_by (by decide +kernel)
def sp_fits (K : PySem.W.Frag) (CR : Addr) : Sp := fun vs H Q _ => ∃ (R dx L : Addr) (lo hi : Int) (zs : List Wk) (p b : Nat), vs = [.ref R, .int p, .int b] ∧ H R = some (.ins CR dx (ringF lo hi L)) ∧ WkL H L zs ∧ zs.length ≤ 10 ∧ p < zs.length ∧ b < zs.length ∧ ∀ H', Same H H' → Q (.bl (fit lo hi (zs.map (·.2)) p b)) H'
theorem ok_fits (T : TxtW K mg CN) (TR : TxtR K CR) {f : Addr} {fd : FuncData} (me : Meth K CR "fits" f) (F : C8.Fun K "fits" "Ring.fits" s_Ring_fits f fd) (b : Binds K fd ["self", "place", "behind"] []) (m_is_timely : C8.Met P w K mg base 1 CR "is_timely" (sp_timely K CR) []) : C8.Met P w K mg base 2 CR "fits" (sp_fits K CR) [] := by
  refine C8.met0 TR.c me F b sc_Ring_fits (fun vs H Q E h => ?_) fun cdv A outer s H vs Q E hr h => ?_
  · obtain ⟨R, dx, L, lo, hi, zs, p, b, rfl, _⟩ := h; rfl
  · obtain ⟨R, dx, L, lo, hi, zs, p, b, rfl, hR, wk, ln, hp, hb, q⟩ := h
    have nd := sc_Ring_fits.nd
    have lg := gapL_len zs b p
    refine ⟨_, (pss_cons (ps_if (pt_cmpR op_gt (pv 1) (pv 2) (nomark _)) (pss_one (ps_ret (C8.pe_mt m_is_timely hr (by first | decide | exact Nat.le_refl _ | omega) (pv 0) (pa_cons (pe_slice (r := rSlL K) sl_list (pe_fld (pv 0) rfl) (po_some (pe_op op_add (pv 2) pe_int)) (po_some (pe_op op_add (pv 1) pe_int))) pa_nil)))) pss_nil)
      (pss_one (ps_ret (C8.pe_mt m_is_timely hr (by first | decide | exact Nat.le_refl _ | omega) (pv 0) (pa_cons (pe_op op_cat (pe_slice (r := rSlL K) sl_list (pe_fld (pv 0) rfl) (po_some (pe_op op_add (pv 2) pe_int)) po_none) (pe_slice (r := rSlL K) sl_list (pe_fld (pv 0) rfl) po_none (po_some (pe_op op_add (pv 1) pe_int)))) pa_nil))))), ?_⟩
    have e1 : (b : Int) + 1 = ((b + 1 : Nat) : Int) := by omega
    have e2 : (p : Int) + 1 = ((p + 1 : Nat) : Int) := by omega
    walk_at "go"
    refine g_ite (fun hg => ?_) (fun hg => ?_)
    · have gg : gapL zs b p = (zs.drop (b + 1)).take (p + 1 - (b + 1)) := by unfold gapL; rw [if_pos (by omega)]; congr 1; omega
      walk_at "go"
      refine ⟨_, rfl, R, dx, _, rfl, hR, rfl, ?_⟩
      walk_at "go"
      refine ⟨_, rfl, R, CR, dx, _, _, rfl, hR, TR.c, TR.nW, lk_w, ?_⟩
      walk_at "go"
      rw [e1, e2]
      refine g_slL (SqL.of wk.at_) fun L2 hL2 => ?_
      rw [cut_two zs _ (by omega) (by omega), ← gg]
      have s1 := same_new (o := .lst ((gapL zs b p).map fun z => V.ref z.1)) hL2
      walk_at "go"
      refine use_timely rfl (s1 _ _ hR) ⟨upd_same, fun z hz => s1 _ _ (wk.own z (gapL_mem hz))⟩ (by omega) fun H' s' => ?_
      rw [gapL_map]
      exact q H' (s1.trans s')
    · have gg : gapL zs b p = zs.drop (b + 1) ++ zs.take (p + 1) := by unfold gapL; rw [if_neg (by omega)]
      walk_at "go"
      refine ⟨_, rfl, R, dx, _, rfl, hR, rfl, ?_⟩
      walk_at "go"
      refine ⟨_, rfl, R, CR, dx, _, _, rfl, hR, TR.c, TR.nW, lk_w, ?_⟩
      walk_at "go"
      rw [e1]
      refine g_slL (SqL.of wk.at_) fun L1 hL1 => ?_
      rw [cut_from zs _ (by omega)]
      have s1 := same_new (o := .lst ((zs.drop (b + 1)).map fun z => V.ref z.1)) hL1
      have i1 := upd_same (H := H) (a := L1) (o := .lst ((zs.drop (b + 1)).map fun z => V.ref z.1))
      generalize upd H L1 (.lst ((zs.drop (b + 1)).map fun z => V.ref z.1)) = H1 at s1 i1
      walk_at "go"
      refine ⟨_, rfl, R, CR, dx, _, _, rfl, s1 _ _ hR, TR.c, TR.nW, lk_w, ?_⟩
      walk_at "go"
      rw [e2]
      refine g_slL (SqL.of (s1 _ _ wk.at_)) fun L2 hL2 => ?_
      rw [cut_to zs _ (by omega)]
      have s2 := same_new (o := .lst ((zs.take (p + 1)).map fun z => V.ref z.1)) hL2
      have i2 := upd_same (H := H1) (a := L2) (o := .lst ((zs.take (p + 1)).map fun z => V.ref z.1))
      generalize upd H1 L2 (.lst ((zs.take (p + 1)).map fun z => V.ref z.1)) = H2 at s2 i2
      refine ⟨L1, L2, _, _, rfl, rfl, s2 _ _ i1, i2, by rw [sizeLine_eq, List.length_map, List.length_map, List.length_drop, List.length_take]; omega, fun L3 hL3 => ?_⟩
      rw [← List.map_append, ← gg]
      have s3 := (s1.trans s2).trans (same_new (o := .lst ((gapL zs b p).map fun z => V.ref z.1)) hL3)
      walk_at "go"
      refine use_timely rfl (s3 _ _ hR) ⟨upd_same, fun z hz => s3 _ _ (wk.own z (gapL_mem hz))⟩ (by omega) fun H' s' => ?_
      rw [gapL_map]
      exact q H' (s3.trans s')

theorem sc_Ring_first_places : FnScope ["self", "place"] ["self"] (C8.fnScope s_Ring_first_places) := C8.fnScope_by (by decide +kernel)
def sp_firsts (K : PySem.W.Frag) (CR : Addr) : Sp := fun vs H Q _ => ∃ (R dx L : Addr) (lo hi : Int) (zs : List Wk), vs = [.ref R] ∧ H R = some (.ins CR dx (ringF lo hi L)) ∧ WkL H L zs ∧ zs.length ≤ 10 ∧ ∀ H' D, Same H H' → H D = none → H' D = some (.lst ((firsts lo hi (zs.map (·.2))).map nI)) → Q (.ref D) H'
theorem filter_snoc {α : Type} (p : α → Bool) (l : List α) (x : α) : (l ++ [x]).filter p = l.filter p ++ (if p x = true then [x] else []) := by
  rw [List.filter_append]
  congr 1
  by_cases h : p x = true
  · rw [if_pos h, List.filter_cons_of_pos h, List.filter_nil]
  · rw [if_neg h, List.filter_cons_of_neg h, List.filter_nil]
theorem ok_firsts (T : TxtW K mg CN) (TR : TxtR K CR) {f : Addr} {fd : FuncData} (me : Meth K CR "first_places" f) (F : C8.Fun K "first_places" "Ring.first_places" s_Ring_first_places f fd) (b : Binds K fd ["self"] []) (m_is_timely : C8.Met P w K mg base 1 CR "is_timely" (sp_timely K CR) []) : C8.Met P w K mg base 2 CR "first_places" (sp_firsts K CR) [] := by
  refine C8.met0 TR.c me F b sc_Ring_first_places (fun vs H Q E h => ?_) fun cdv A outer s H vs Q E hr h => ?_
  · obtain ⟨R, dx, L, lo, hi, zs, rfl, _⟩ := h; rfl
  · obtain ⟨R, dx, L, lo, hi, zs, rfl, hR, wk, ln, q⟩ := h
    have nd := sc_Ring_first_places.nd
    refine ⟨_, (pss_one (ps_ret (pe_lc (own := [("place", 1)]) (g := gName 1) rfl nd (pi_range1 rfl T.n_range (pa_cons (pe_callB (r := Wd.rLen K) call_len1 (by rfl) T.n_len PySem.boot_len (pa_cons (pe_fld (pv 0) rfl) pa_nil)) pa_nil)) (blkOk_by (N := ["self", "place"]) (sc := C8.fnScope s_Ring_first_places) (by decide +kernel)) (fun _ _ _ _ _ => pg_name (i := 1) nd rfl (Or.inl rfl)) (fun _ _ _ _ _ => pts_one (pt_val (C8.pe_mt m_is_timely hr (by first | decide | exact Nat.le_refl _ | omega) (pv 0) (pa_cons (pe_slice (r := rSlL K) sl_list (pe_fldK (K := K) rfl (pv 0) rfl) po_none (po_some (pe_op op_add (pv 1) pe_int))) pa_nil)))) (fun _ _ _ _ _ => (pv 1))))), ?_⟩
    walk_at "go"
    refine ⟨_, rfl, R, CR, dx, _, _, rfl, hR, TR.c, TR.nW, lk_w, ?_⟩
    walk_at "go"
    refine g_len (.inl (SqL.of wk.at_)) ?_
    walk_at "go"
    rw [List.length_map]
    refine w_lcRange (by omega) (by omega) (fun D i H' => Same H H' ∧ H' D = some (.lst (((ups 0 i).filter fun p => tim lo hi ((zs.map (·.2)).take (p + 1))).map nI))) (fun D hD => ⟨same_new hD, upd_same⟩) (fun D i H' hD hi' h => ?_) (fun D H' hD h => ?_)
    · have il : i < zs.length := by omega
      have hR' := h.1 _ _ hR
      have wk' := wk.same h.1
      have lf := List.length_filter_le (fun p => tim lo hi ((zs.map (·.2)).take (p + 1))) (ups 0 i)
      have lu := ups_len 0 i
      have ex : (ups 0 (i + 1)).filter (fun p => tim lo hi ((zs.map (·.2)).take (p + 1))) = _ := filter_snoc (fun p => tim lo hi ((zs.map (·.2)).take (p + 1))) (ups 0 i) (0 + i)
      rw [Nat.zero_add] at ex
      have e2 : (i : Int) + 1 = ((i + 1 : Nat) : Int) := by omega
      walk_at "go"
      refine ⟨rfl, ?_⟩
      walk_at "go"
      refine ⟨_, rfl, R, dx, _, rfl, hR', rfl, ?_⟩
      walk_at "go"
      refine ⟨_, rfl, R, CR, dx, _, _, rfl, hR', TR.c, TR.nW, lk_w, ?_⟩
      walk_at "go"
      rw [e2]
      refine g_slL (SqL.of wk'.at_) fun L2 hL2 => ?_
      rw [cut_to zs _ (by omega)]
      have s2 := same_new (o := .lst ((zs.take (i + 1)).map fun z => V.ref z.1)) hL2
      walk_at "go"
      refine use_timely rfl (s2 _ _ hR') ⟨upd_same, fun z hz => s2 _ _ (wk'.own z (List.mem_of_mem_take hz))⟩ (by rw [List.length_take]; omega) fun H3 s3 => ?_
      have s03 := (h.1.trans s2).trans s3
      have eD := s3 _ _ (s2 _ _ h.2)
      rw [List.map_take]
      refine ⟨_, rfl, ?_⟩
      cases ht : tim lo hi ((zs.map (·.2)).take (i + 1)) with
      | true =>
        rw [if_pos ht] at ex
        walk_at "go"
        exact ⟨_, eD, by rw [sizeLine_eq, List.length_map]; omega, Wd.Same.mut s03 hD, by rw [upd_same, ex, List.map_append]; rfl⟩
      | false =>
        rw [ht, if_neg (by decide), List.append_nil] at ex
        walk_at "go"
        exact ⟨s03, by rw [ex]; exact eD⟩
    · have et : ((zs.length : Nat) : Int).toNat = (zs.map (·.2)).length := by rw [List.length_map]; omega
      rw [et] at h
      walk_at "go"
      exact q H' D h.1 hD h.2

theorem sc_Ring_next_places : FnScope ["self", "behind", "place"] ["self", "behind"] (C8.fnScope s_Ring_next_places) := C8.fnScope_by (by decide +kernel)
def sp_nexts (K : PySem.W.Frag) (CR : Addr) : Sp := fun vs H Q _ => ∃ (R dx L : Addr) (lo hi : Int) (zs : List Wk) (b : Nat), vs = [.ref R, .int b] ∧ H R = some (.ins CR dx (ringF lo hi L)) ∧ WkL H L zs ∧ zs.length ≤ 10 ∧ b < zs.length ∧ ∀ H' D, Same H H' → H D = none → H' D = some (.lst ((nexts lo hi (zs.map (·.2)) b).map nI)) → Q (.ref D) H'
theorem w_lcRange2 {σ : L2.St} {H : Hp} {Q : VK} {g : TG} {tt : TT} {te : TE} {vs : List Nat} {lo n : Int} (h1 : -(2 ^ 62) ≤ lo ∧ lo < 2 ^ 62 ∧ -(2 ^ 62) ≤ n ∧ n < 2 ^ 62) (Pv : Addr → Nat → Hp → Prop) (h0 : ∀ D, H D = none → Pv D 0 (upd H D (.lst [])))
    (hs : ∀ D i H', H D = none → i < (n - lo).toNat → Pv D i H' → g (.int (lo + i)) (wipe σ vs) H' fun σ2 H2 => wipe σ2 vs = wipe σ vs ∧ tt σ2 H2 fun b H3 =>
      if b = true then te σ2 H3 fun y H4 => ∃ acc, H4 D = some (.lst acc) ∧ acc.length < sizeLine ∧ Pv D (i + 1) (upd H4 D (.lst (acc ++ [y]))) else Pv D (i + 1) H3) (hd : ∀ D H', H D = none → Pv D (n - lo).toNat H' → Q (.ref D) H') :
    ∃ i j : Int, [V.int lo, .int n] = [.int i, .int j] ∧ (-(2 ^ 62) ≤ i ∧ i < 2 ^ 62 ∧ -(2 ^ 62) ≤ j ∧ j < 2 ^ 62) ∧ LcEnd g tt te vs σ Q (Itr i (j - i).toNat) H :=
  ⟨lo, n, rfl, h1, fun D hD => lc_range (Pv D) (h0 D hD) (fun i H' hi p => hs D i H' hD hi p) (fun H' p => hd D H' hD p)⟩
theorem ok_nexts (T : TxtW K mg CN) (TR : TxtR K CR) {f : Addr} {fd : FuncData} (me : Meth K CR "next_places" f) (F : C8.Fun K "next_places" "Ring.next_places" s_Ring_next_places f fd) (b : Binds K fd ["self", "behind"] []) (m_fits : C8.Met P w K mg base 2 CR "fits" (sp_fits K CR) []) : C8.Met P w K mg base 3 CR "next_places" (sp_nexts K CR) [] := by
  refine C8.met0 TR.c me F b sc_Ring_next_places (fun vs H Q E h => ?_) fun cdv A outer s H vs Q E hr h => ?_
  · obtain ⟨R, dx, L, lo, hi, zs, b, rfl, _⟩ := h; rfl
  · obtain ⟨R, dx, L, lo, hi, zs, b, rfl, hR, wk, ln, hb, q⟩ := h
    have nd := sc_Ring_next_places.nd
    refine ⟨_, (pss_one (ps_ret (pe_lc (own := [("place", 2)]) (g := gName 2) rfl nd (pi_range2 rfl T.n_range (pa_cons (pe_op op_add (pv 1) pe_int) (pa_cons (pe_callB (r := Wd.rLen K) call_len1 (by rfl) T.n_len PySem.boot_len (pa_cons (pe_fld (pv 0) rfl) pa_nil)) pa_nil))) (blkOk_by (N := ["self", "behind", "place"]) (sc := C8.fnScope s_Ring_next_places) (by decide +kernel)) (fun _ _ _ _ _ => pg_name (i := 2) nd rfl (Or.inl rfl)) (fun _ _ _ _ _ => pts_one (pt_val (C8.pe_mt m_fits hr (by first | decide | exact Nat.le_refl _ | omega) (pv 0) (pa_cons (pv 2) (pa_cons (pv 1) pa_nil))))) (fun _ _ _ _ _ => (pv 2))))), ?_⟩
    walk_at "go"
    refine ⟨_, rfl, R, CR, dx, _, _, rfl, hR, TR.c, TR.nW, lk_w, ?_⟩
    walk_at "go"
    refine g_len (.inl (SqL.of wk.at_)) ?_
    walk_at "go"
    rw [List.length_map]
    refine w_lcRange2 (by omega) (fun D i H' => Same H H' ∧ H' D = some (.lst (((ups (b + 1) i).filter fun p => fit lo hi (zs.map (·.2)) p b).map nI))) (fun D hD => ⟨same_new hD, upd_same⟩) (fun D i H' hD hi' h => ?_) (fun D H' hD h => ?_)
    · have il : b + 1 + i < zs.length := by omega
      have hR' := h.1 _ _ hR
      have wk' := wk.same h.1
      have lf := List.length_filter_le (fun p => fit lo hi (zs.map (·.2)) p b) (ups (b + 1) i)
      have lu := ups_len (b + 1) i
      have ex : (ups (b + 1) (i + 1)).filter (fun p => fit lo hi (zs.map (·.2)) p b) = _ := filter_snoc (fun p => fit lo hi (zs.map (·.2)) p b) (ups (b + 1) i) (b + 1 + i)
      have e2 : (b : Int) + 1 + (i : Int) = ((b + 1 + i : Nat) : Int) := by omega
      rw [e2]
      walk_at "go"
      refine ⟨rfl, ?_⟩
      walk_at "go"
      refine ⟨_, rfl, R, dx, _, rfl, hR', rfl, ?_⟩
      walk_at "go"
      refine ⟨R, dx, L, lo, hi, zs, b + 1 + i, b, rfl, hR', wk', ln, il, hb, fun H3 s3 => ?_⟩
      have s03 := h.1.trans s3
      have eD := s3 _ _ h.2
      refine ⟨_, rfl, ?_⟩
      cases ht : fit lo hi (zs.map (·.2)) (b + 1 + i) b with
      | true =>
        rw [if_pos ht] at ex
        walk_at "go"
        exact ⟨_, eD, by rw [sizeLine_eq, List.length_map]; omega, Wd.Same.mut s03 hD, by rw [upd_same, ex, List.map_append]; rfl⟩
      | false =>
        rw [ht, if_neg (by decide), List.append_nil] at ex
        walk_at "go"
        exact ⟨s03, by rw [ex]; exact eD⟩
    · have et : (((zs.length : Nat) : Int) - ((b : Int) + 1)).toNat = (zs.map (·.2)).length - (b + 1) := by rw [List.length_map]; omega
      rw [et] at h
      walk_at "go"
      exact q H' D h.1 hD h.2
end
end K08
namespace K08
open PySem PySem.Spec PyProof.Rows L2 Wd
/-! ### two fors in a comprehension, over lists -/
def InE (g1 : TG) (tt1 : TT) (te : TE) (vs1 : List Nat) (σ2 : L2.St) (D : Addr) (N : Hp → Prop) (J1 : It) (H4 : Hp) : Prop := ∃ W1 : Nat → Nat → Hp → Prop, (∃ m, W1 0 m H4) ∧ ∀ j k H, W1 j k H →
      (J1.stop j H ∧ N H) ∨ (J1.go j H ∧ ∃ Nx1 : Hp → Prop, (∀ H', Nx1 H' → ∃ k', k' < k ∧ W1 (j + 1) k' H') ∧ ∀ x H', J1.yld j H x H' → g1 x (wipe σ2 vs1) H' fun σ3 H5 => wipe σ3 vs1 = wipe σ2 vs1 ∧ tt1 σ3 H5 fun b H6 =>
        if b = true then te σ3 H6 fun y H7 => ∃ acc, H7 D = some (.lst acc) ∧ acc.length < sizeLine ∧ Nx1 (upd H7 D (.lst (acc ++ [y]))) else Nx1 H6)
theorem inE_list {K : PySem.W.Frag} {g1 : TG} {tt1 : TT} {te : TE} {vs1 : List Nat} {σ2 : L2.St} {D r : Addr} {N : Hp → Prop} {H4 : Hp} {ys : List V} (Pi : Nat → Hp → Prop) (h0 : Pi 0 H4) (hl : ∀ j H, j ≤ ys.length → Pi j H → SqL K H r ys)
    (hs : ∀ j y H, ys[j]? = some y → Pi j H → g1 y (wipe σ2 vs1) H fun σ3 H5 => wipe σ3 vs1 = wipe σ2 vs1 ∧ tt1 σ3 H5 fun b H6 =>
        if b = true then te σ3 H6 fun y H7 => ∃ acc, H7 D = some (.lst acc) ∧ acc.length < sizeLine ∧ Pi (j + 1) (upd H7 D (.lst (acc ++ [y]))) else Pi (j + 1) H6) (hd : ∀ H, Pi ys.length H → N H) : InE g1 tt1 te vs1 σ2 D N (Itl K r) H4 := by
  refine ⟨fun i m H => m = ys.length - i ∧ i ≤ ys.length ∧ Pi i H, ⟨ys.length, by simp, Nat.zero_le _, h0⟩, ?_⟩
  rintro i m H ⟨rfl, hi, p⟩
  have q := hl i H hi p
  by_cases hlt : i < ys.length
  · refine .inr ⟨⟨ys, ys[i], q, by simp [hlt]⟩, Pi (i + 1), fun H' p' => ⟨ys.length - (i + 1), by omega, rfl, hlt, p'⟩, fun x H' y => ?_⟩
    obtain ⟨e, y⟩ := y
    subst e
    exact hs i x _ (y ys q) p
  · have e : i = ys.length := by omega
    subst e
    exact .inl ⟨⟨ys, q, Nat.le_refl _⟩, hd H p⟩
def Lc2End (g : TG) (tt : TT) (wi1 : TI) (g1 : TG) (tt1 : TT) (te : TE) (vs vs1 : List Nat) (σ : L2.St) (Q : VK) (J : It) (H1 : Hp) : Prop := ∀ D, H1 D = none → ∃ W : Nat → Nat → Hp → Prop, (∃ m, W 0 m (upd H1 D (.lst []))) ∧ ∀ i m H, W i m H →
  (J.stop i H ∧ Q (.ref D) H) ∨ (J.go i H ∧ ∃ Nx : Hp → Prop, (∀ H', Nx H' → ∃ m', m' < m ∧ W (i + 1) m' H') ∧ ∀ x H', J.yld i H x H' → g x (wipe σ vs) H' fun σ2 H2 => wipe σ2 vs = wipe σ vs ∧ tt σ2 H2 fun b H3 =>
    if b = true then wi1 σ2 H3 (InE g1 tt1 te vs1 σ2 D Nx) else Nx H3)
theorem g_lc2 {σ : L2.St} {H : Hp} {Q : VK} {wi : TI} {g : TG} {tt : TT} {wi1 : TI} {g1 : TG} {tt1 : TT} {te : TE} {vs vs1 : List Nat} (h : wi σ H (Lc2End g tt wi1 g1 tt1 te vs vs1 σ Q)) : tLc2 wi g tt wi1 g1 tt1 te vs vs1 σ H Q := h
theorem w_lc2 {K : PySem.W.Frag} {σ : L2.St} {H : Hp} {Q : VK} {g : TG} {tt : TT} {wi1 : TI} {g1 : TG} {tt1 : TT} {te : TE} {vs vs1 : List Nat} {p : Addr} {xs : List V} (hp : SqL K H p xs) (Po : Addr → Nat → Hp → Prop)
    (h0 : ∀ D, H D = none → Po D 0 (upd H D (.lst []))) (hl : ∀ D i H', H D = none → i ≤ xs.length → Po D i H' → SqL K H' p xs)
    (hs : ∀ D i x H', H D = none → xs[i]? = some x → Po D i H' → g x (wipe σ vs) H' fun σ2 H2 => wipe σ2 vs = wipe σ vs ∧ tt σ2 H2 fun b H3 => if b = true then wi1 σ2 H3 (InE g1 tt1 te vs1 σ2 D (Po D (i + 1))) else Po D (i + 1) H3) (hd : ∀ D H', H D = none → Po D xs.length H' → Q (.ref D) H') :
    ∃ q, V.ref p = .ref q ∧ (∃ xs, SqL K H q xs) ∧ Lc2End g tt wi1 g1 tt1 te vs vs1 σ Q (Itl K q) H := by
  refine ⟨p, rfl, ⟨xs, hp⟩, fun D hD => ?_⟩
  refine ⟨fun i m H => m = xs.length - i ∧ i ≤ xs.length ∧ Po D i H, ⟨xs.length, by simp, Nat.zero_le _, h0 D hD⟩, ?_⟩
  rintro i m H' ⟨rfl, hi, po⟩
  have q := hl D i H' hD hi po
  by_cases hlt : i < xs.length
  · refine .inr ⟨⟨xs, xs[i], q, by simp [hlt]⟩, Po D (i + 1), fun H' p' => ⟨xs.length - (i + 1), by omega, rfl, hlt, p'⟩, fun x H' y => ?_⟩
    obtain ⟨e, y⟩ := y
    subst e
    exact hs D i x _ hD (y xs q) po
  · have e : i = xs.length := by omega
    subst e
    exact .inl ⟨⟨xs, q, Nat.le_refl _⟩, hd D H' hD po⟩
/-! ### rows -/
def lastN (r : List Nat) : Nat := (r[r.length - 1]?).getD 0
def headN (r : List Nat) : Nat := (r[0]?).getD 0
theorem lastN_at {r : List Nat} (h : r ≠ []) : r[r.length - 1]? = some (lastN r) := by
  have : r.length - 1 < r.length := by have := List.length_pos_iff.mpr h; omega
  unfold lastN
  rw [List.getElem?_eq_getElem this]; rfl
theorem headN_at {r : List Nat} (h : r ≠ []) : r[0]? = some (headN r) := by
  have : 0 < r.length := List.length_pos_iff.mpr h
  unfold headN
  rw [List.getElem?_eq_getElem this]; rfl
theorem lastN_snoc (r : List Nat) (p : Nat) : lastN (r ++ [p]) = p := by
  unfold lastN
  rw [List.length_append, List.length_singleton, Nat.add_sub_cancel, List.getElem?_append_right (Nat.le_refl _), Nat.sub_self]; rfl
theorem lastN_mem {r : List Nat} (h : r ≠ []) : lastN r ∈ r := List.mem_of_getElem? (lastN_at h)
theorem headN_mem {r : List Nat} (h : r ≠ []) : headN r ∈ r := List.mem_of_getElem? (headN_at h)
theorem lastN_ge {r : List Nat} (hp : r.Pairwise (· < ·)) {x : Nat} (hx : x ∈ r) : x ≤ lastN r := by
  obtain ⟨i, hi, rfl⟩ := List.mem_iff_getElem.mp hx
  have ne : r ≠ [] := fun z => by rw [z] at hi; exact absurd hi (Nat.not_lt_zero _)
  have hl := lastN_at ne
  have ll : r.length - 1 < r.length := by omega
  rw [List.getElem?_eq_getElem ll] at hl
  have hl' : r[r.length - 1] = lastN r := Option.some.inj hl
  by_cases c : i = r.length - 1
  · subst c; omega
  · have := List.pairwise_iff_getElem.mp hp i (r.length - 1) hi ll (by omega); omega
/-- rising places below N, so many -/
def Rw (N k : Nat) (r : List Nat) : Prop := r.length = k + 1 ∧ r.Pairwise (· < ·) ∧ ∀ x ∈ r, x < N
theorem Rw.ne {N k : Nat} {r : List Nat} (h : Rw N k r) : r ≠ [] := fun z => by have := h.1; rw [z] at this; cases this
theorem up_len : ∀ {r : List Nat} {a N : Nat}, r.Pairwise (· < ·) → (∀ x ∈ r, a ≤ x ∧ x < N) → a + r.length ≤ N ∨ r = []
  | [], _, _, _, _ => .inr rfl
  | x :: xs, a, N, p, h => by
    rw [List.pairwise_cons] at p
    have hx := h x List.mem_cons_self
    rcases up_len (a := x + 1) p.2 (fun y hy => ⟨p.1 y hy, (h y (List.mem_cons_of_mem _ hy)).2⟩) with q | q
    · left; rw [List.length_cons]; omega
    · left; rw [q]; show a + 1 ≤ N; omega
theorem Rw.le {N k : Nat} {r : List Nat} (h : Rw N k r) : k + 1 ≤ N := by
  rcases up_len (a := 0) h.2.1 (fun x hx => ⟨Nat.zero_le _, h.2.2 x hx⟩) with q | q
  · have := h.1; omega
  · exact absurd q h.ne
section
variable (lo hi : Int) (ws : List (Int × Int))
def closes (r : List Nat) : Bool := fit lo hi ws (headN r) (lastN r)
def growN (r : List Nat) : List (List Nat) := (nexts lo hi ws (lastN r)).map fun p => r ++ [p]
def stepR (rows : List (List Nat)) : List (List Nat) := rows.flatMap (growN lo hi ws)
def fw : Nat → List (List Nat) → Option (List Nat)
  | 0, _ => none
  | n + 1, rows => if rows = [] then none else match rows.find? (closes lo hi ws) with
    | some r => some r
    | none => fw n (stepR lo hi ws rows)
def row1 : List (List Nat) := (firsts lo hi ws).map fun p => [p]
def few : Option (List Nat) := fw lo hi ws (ws.length + 1) (row1 lo hi ws)
end
section
variable {lo hi : Int} {ws : List (Int × Int)}
theorem next_mem {b p : Nat} : p ∈ nexts lo hi ws b ↔ b < p ∧ p < ws.length ∧ fit lo hi ws p b = true := by
  unfold nexts
  rw [List.mem_filter, ups_mem]
  constructor
  · rintro ⟨h1, h2⟩; exact ⟨by omega, by omega, h2⟩
  · rintro ⟨h1, h2, h3⟩; exact ⟨by omega, h3⟩
theorem first_mem {p : Nat} : p ∈ firsts lo hi ws ↔ p < ws.length ∧ tim lo hi (ws.take (p + 1)) = true := by
  unfold firsts
  rw [List.mem_filter, ups_mem]
  constructor
  · rintro ⟨h1, h2⟩; exact ⟨by omega, h2⟩
  · rintro ⟨h1, h2⟩; exact ⟨by omega, h2⟩
theorem Rw.step {k p : Nat} {r : List Nat} (h : Rw ws.length k r) (hp : p ∈ nexts lo hi ws (lastN r)) : Rw ws.length (k + 1) (r ++ [p]) := by
  obtain ⟨h1, h2, _⟩ := next_mem.mp hp
  refine ⟨by rw [List.length_append, h.1]; rfl, List.pairwise_append.mpr ⟨h.2.1, List.pairwise_singleton _ _, fun a ha b hb => ?_⟩, fun x hx => ?_⟩
  · rw [List.mem_singleton] at hb
    have := lastN_ge h.2.1 ha
    omega
  · rw [List.mem_append, List.mem_singleton] at hx
    rcases hx with hx | rfl
    · exact h.2.2 x hx
    · exact h2
theorem step_rw {k : Nat} {rows : List (List Nat)} (h : ∀ r ∈ rows, Rw ws.length k r) : ∀ r ∈ stepR lo hi ws rows, Rw ws.length (k + 1) r := fun r hr => by
  unfold stepR growN at hr
  rw [List.mem_flatMap] at hr
  obtain ⟨r0, h0, hr⟩ := hr
  obtain ⟨p, hp, rfl⟩ := List.mem_map.mp hr
  exact (h r0 h0).step hp
theorem row1_rw : ∀ r ∈ row1 lo hi ws, Rw ws.length 0 r := fun r hr => by
  obtain ⟨p, hp, rfl⟩ := List.mem_map.mp hr
  exact ⟨rfl, List.pairwise_singleton _ _, fun x hx => by rw [List.mem_singleton] at hx; rw [hx]; exact (first_mem.mp hp).1⟩
/-! how many rows at the most -/
def wt (N : Nat) (rows : List (List Nat)) : Nat := (rows.map fun r => 2 ^ (N - 1 - lastN r)).sum
theorem len_wt (N : Nat) : ∀ rows : List (List Nat), rows.length ≤ wt N rows
  | [] => Nat.le_refl _
  | r :: rows => by
    have := len_wt N rows
    have p : 1 ≤ 2 ^ (N - 1 - lastN r) := Nat.one_le_two_pow
    unfold wt at this ⊢
    rw [List.map_cons, List.sum_cons, List.length_cons]
    omega
theorem sum_ups {N b : Nat} : ∀ n, b + n < N → ((ups (b + 1) n).map fun p => 2 ^ (N - 1 - p)).sum + 2 ^ (N - 1 - (b + n)) = 2 ^ (N - 1 - b)
  | 0, _ => by show 0 + _ = _; rw [Nat.zero_add, Nat.add_zero]
  | n + 1, h => by
    have ih := sum_ups (N := N) (b := b) n (by omega)
    show ((ups (b + 1) n ++ [b + 1 + n]).map fun p => 2 ^ (N - 1 - p)).sum + _ = _
    rw [List.map_append, List.sum_append, List.map_singleton, List.sum_singleton]
    have e : N - 1 - (b + n) = (N - 1 - (b + (n + 1))) + 1 := by omega
    have e2 : N - 1 - (b + 1 + n) = N - 1 - (b + (n + 1)) := by omega
    rw [e, Nat.pow_succ] at ih
    rw [e2]
    omega
theorem sum_filter (p : Nat → Bool) (g : Nat → Nat) : ∀ l : List Nat, ((l.filter p).map g).sum ≤ (l.map g).sum
  | [] => Nat.le_refl _
  | x :: xs => by
    have := sum_filter p g xs
    rw [List.filter_cons, List.map_cons, List.sum_cons]
    split
    · rw [List.map_cons, List.sum_cons]; omega
    · omega
theorem wt_grow {k : Nat} {r : List Nat} (h : Rw ws.length k r) : wt ws.length (growN lo hi ws r) ≤ 2 ^ (ws.length - 1 - lastN r) := by
  have hl := h.2.2 _ (lastN_mem h.ne)
  unfold wt growN nexts
  rw [List.map_map]
  have e : ((fun r => 2 ^ (ws.length - 1 - lastN r)) ∘ fun p => r ++ [p]) = fun p => 2 ^ (ws.length - 1 - p) := by
    funext p
    show 2 ^ (ws.length - 1 - lastN (r ++ [p])) = _
    rw [lastN_snoc]
  rw [e]
  refine Nat.le_trans (sum_filter _ _ _) ?_
  exact Nat.le.intro (sum_ups (N := ws.length) (b := lastN r) (ws.length - (lastN r + 1)) (by omega))
theorem wt_app (N : Nat) (a b : List (List Nat)) : wt N (a ++ b) = wt N a + wt N b := by unfold wt; rw [List.map_append, List.sum_append]
theorem wt_step {k : Nat} : ∀ {rows : List (List Nat)}, (∀ r ∈ rows, Rw ws.length k r) → wt ws.length (stepR lo hi ws rows) ≤ wt ws.length rows
  | [], _ => Nat.le_refl _
  | r :: rows, h => by
    have h1 := wt_grow (lo := lo) (hi := hi) (h r List.mem_cons_self)
    have h2 := wt_step (rows := rows) (fun y hy => h y (List.mem_cons_of_mem _ hy))
    have e : stepR lo hi ws (r :: rows) = growN lo hi ws r ++ stepR lo hi ws rows := rfl
    rw [e, wt_app]
    show _ ≤ ((r :: rows).map _).sum
    rw [List.map_cons, List.sum_cons]
    unfold wt at h2 ⊢
    unfold wt at h1
    omega
theorem wt_row1 : wt ws.length (row1 lo hi ws) ≤ 2 ^ ws.length := by
  unfold wt row1 firsts
  rw [List.map_map]
  have e : ((fun r => 2 ^ (ws.length - 1 - lastN r)) ∘ fun p => [p]) = fun p => 2 ^ (ws.length - 1 - p) := rfl
  rw [e]
  refine Nat.le_trans (sum_filter _ _ _) ?_
  have key : ∀ n, n ≤ ws.length → ((ups 0 n).map fun p => 2 ^ (ws.length - 1 - p)).sum + 2 ^ (ws.length - n) ≤ 2 ^ ws.length := by
    intro n
    induction n with
    | zero => intro _; show 0 + _ ≤ _; rw [Nat.zero_add, Nat.sub_zero]; exact Nat.le_refl _
    | succ n ih =>
      intro hn
      have ih := ih (by omega)
      show ((ups 0 n ++ [0 + n]).map fun p => 2 ^ (ws.length - 1 - p)).sum + _ ≤ _
      rw [List.map_append, List.sum_append, List.map_singleton, List.sum_singleton, Nat.zero_add]
      have e : ws.length - n = (ws.length - 1 - n) + 1 := by omega
      have e2 : ws.length - (n + 1) = ws.length - 1 - n := by omega
      rw [e, Nat.pow_succ] at ih
      rw [e2]
      omega
  exact Nat.le_trans (Nat.le_add_right _ _) (key ws.length (Nat.le_refl _))
theorem flat_part {α β : Type} (f : α → List β) {l : List α} {i : Nat} {x : α} (h : l[i]? = some x) : ((l.take i).flatMap f).length + (f x).length ≤ (l.flatMap f).length := by
  have e : l = l.take i ++ x :: l.drop (i + 1) := by
    obtain ⟨hl, hx⟩ := List.getElem?_eq_some_iff.mp h
    rw [← hx, List.getElem_cons_drop, List.take_append_drop]
  have e2 : l.flatMap f = (l.take i).flatMap f ++ (f x ++ (l.drop (i + 1)).flatMap f) := by
    conv => lhs; rw [e]
    rw [List.flatMap_append, List.flatMap_cons]
  rw [e2, List.length_append, List.length_append]
  omega
end
end K08
namespace K08
open PySem PySem.Spec PyProof.Rows L2 Wd
theorem atI_back {xs : List V} {v : V} (h : xs[xs.length - 1]? = some v) : atI xs (-1) = some v := by
  have hl := (List.getElem?_eq_some_iff.mp h).1
  unfold atI ixN
  rw [if_neg (by decide), if_pos (by omega)]
  have e : (-1 + (xs.length : Int)).toNat = xs.length - 1 := by omega
  rw [e]
  exact h
/-- rows in a list, all made behind H0 -/
structure RowsL (H0 H : Hp) (RR : Addr) (rs : List (Addr × List Nat)) : Prop where
  at_ : H RR = some (.lst (rs.map fun r => V.ref r.1))
  own : ∀ r ∈ rs, H r.1 = some (.lst (r.2.map nI)) ∧ H0 r.1 = none
theorem RowsL.same {H0 H H' : Hp} {RR : Addr} {rs : List (Addr × List Nat)} (t : RowsL H0 H RR rs) (e : Same H H') : RowsL H0 H' RR rs := ⟨e _ _ t.at_, fun r hr => ⟨e _ _ (t.own r hr).1, (t.own r hr).2⟩⟩
theorem RowsL.put {H0 H : Hp} {RR M : Addr} {rs : List (Addr × List Nat)} {r : List Nat} (t : RowsL H0 H RR rs) (h : H M = some (.lst (r.map nI))) (n : H0 M = none) (n2 : M ≠ RR) (ne : ∀ y ∈ rs, y.1 ≠ RR) : RowsL H0 (upd H RR (.lst ((rs.map fun r => V.ref r.1) ++ [.ref M]))) RR (rs ++ [(M, r)]) := by
  refine ⟨by rw [upd_same, List.map_append]; rfl, fun z hz => ?_⟩
  rw [List.mem_append, List.mem_singleton] at hz
  rcases hz with hz | rfl
  · exact ⟨by rw [upd_ne (ne z hz)]; exact (t.own z hz).1, (t.own z hz).2⟩
  · exact ⟨by rw [upd_ne n2]; exact h, n⟩
section
variable {P : Program} {w : World} {K : PySem.W.Frag} {mg : Str → Option Value} {base : Heap} {CN CR : Addr}
abbrev s_fewest : Stmt := top 23
theorem sc_fewest : FnScope ["window", "works", "ring", "rows", "first", "row", "place"] ["window", "works"] (C8.fnScope s_fewest) := C8.fnScope_by (by decide +kernel)
def sp_fewest (K : PySem.W.Frag) (CN : Addr) : Sp := fun vs H Q E => ∃ (W L : Addr) (lo hi : Int) (zs : List Wk), vs = [.ref W, .ref L] ∧ SqT K H W [.int lo, .int hi] ∧ okW lo hi ∧ WkL H L zs ∧ okZ zs ∧ zs ≠ [] ∧ zs.length ≤ 10 ∧
  (∀ r, few lo hi (zs.map (·.2)) = some r → ∀ H' D, Same H H' → H D = none → H' D = some (.lst (r.map nI)) → Q (.ref D) H') ∧ (few lo hi (zs.map (·.2)) = none → ∀ H', Same H H' → E (.ref CN) none H')
theorem ok_fewest (T : TxtW K mg CN) (TR : TxtR K CR) {f : Addr} {fd : FuncData} (D : C8.Def K mg "fewest" s_fewest f fd) (b : Binds K fd ["window", "works"] []) (g_Ring : C8.Mak P w K mg base 4 "Ring" CR (sp_init K CR) [])
    (m_first_places : C8.Met P w K mg base 2 CR "first_places" (sp_firsts K CR) []) (m_fits : C8.Met P w K mg base 2 CR "fits" (sp_fits K CR) []) (m_next_places : C8.Met P w K mg base 3 CR "next_places" (sp_nexts K CR) []) : CalX P w K mg base 6 "fewest" (sp_fewest K CN) := by
  refine calX D b sc_fewest (fun vs H Q E h => ?_) fun cdv A outer s H vs Q E hr h => ?_
  · obtain ⟨W, L, lo, hi, zs, rfl, _⟩ := h; rfl
  · obtain ⟨W, L, lo, hi, zs, rfl, hW, okw, wk, okz, ne, ln, q1, q2⟩ := h
    have nd := sc_fewest.nd
    refine ⟨_, (pss_cons (ps_set (i := 2) nd rfl (Or.inr rfl) (C8.pe_mk g_Ring hr (by first | decide | exact Nat.le_refl _ | omega) (by rfl) (pa_cons (pv 0) (pa_cons (pv 1) pa_nil))))
      (pss_cons (ps_setLc (i := 3) (own := [("first", 4)]) (g := gName 4) (tt := tYes) rfl nd rfl rfl (sw_true rfl rfl rfl (by decide +kernel)) (pi_list (C8.pe_mt0 m_first_places hr (by first | decide | exact Nat.le_refl _ | omega) (pv 2))) (blkOk_by (N := ["window", "works", "ring", "rows", "first", "row", "place"]) (sc := C8.fnScope s_fewest) (by decide +kernel)) (fun _ _ _ _ _ => pg_name (i := 4) nd rfl (Or.inl rfl)) (fun _ _ _ _ _ => pts_nil) (fun _ _ _ _ _ => (pe_lst (pa_cons (pv 4) pa_nil))))
      (pss_cons (ps_while (passes_of rfl) (pt_truth (pv 3) (by intro _; rfl)) (pss_cons (ps_for (passes_of rfl) rfl (pi_list (pv 3)) (pg_name (i := 5) nd rfl (Or.inl rfl)) (pss_one (ps_if (pt_val (C8.pe_mt m_fits hr (by first | decide | exact Nat.le_refl _ | omega) (pv 2) (pa_cons (pe_ix (r := rIxL K) ix_list (pv 5) pe_int (fun _ _ => rfl)) (pa_cons (pe_ix (r := rIxL K) ix_list (pv 5) (pe_un un_neg pe_int) (fun _ _ => rfl)) pa_nil)))) (pss_one (ps_ret (pv 5))) pss_nil)))
      (pss_one (ps_setLc2 (i := 3) (own := [("row", 5), ("place", 6)]) (g := gName 5) (tt := tYes) (wi1 := iList K _) (g1 := gName 6) (tt1 := tYes) (vs1 := [6]) rfl nd rfl rfl (sw_true rfl rfl rfl (by decide +kernel)) (pi_list (pv 3)) (blkOk_by (N := ["window", "works", "ring", "rows", "first", "row", "place"]) (sc := C8.fnScope s_fewest) (by decide +kernel)) (by decide) (fun _ _ _ _ _ => pg_name (i := 5) nd rfl (Or.inl rfl)) (fun _ _ _ _ _ => pts_nil) (fun _ _ _ _ _ => (pi_list (C8.pe_mt m_next_places hr (by first | decide | exact Nat.le_refl _ | omega) (pv 2) (pa_cons (pe_ix (r := rIxL K) ix_list (pv 5) (pe_un un_neg pe_int) (fun _ _ => rfl)) pa_nil)))) (fun _ _ _ _ _ => pg_name (i := 6) nd rfl (Or.inl rfl)) (fun _ _ _ _ _ => pts_nil) (fun _ _ _ _ _ => (pe_op op_cat (pv 5) (pe_lst (pa_cons (pv 6) pa_nil))))))))
      (pss_one (ps_raise rfl (takes_of rfl rfl rfl rfl) (pmk_own PySem.F.excBase_ValueError T.x_NoPats T.g_NoPats T.k_NoPats (raises_own T.b_NoPats T.t_NoPats) (by rfl))))))), ?_⟩
    walk_at "go"
    refine ⟨_, rfl, _, rfl, fun R dx hR hdx ndx => ?_⟩
    have s1 := same_new (o := .own R) hdx
    have hR1 : upd H dx (.own R) R = none := by rw [upd_ne ndx.symm]; exact hR
    have s2 := s1.trans (same_new (o := .ins CR dx []) hR1)
    refine ⟨R, dx, W, L, lo, hi, zs, rfl, upd_same, tup_same s2 hW, okw, wk.same s2, okz, ne, ln, fun H1 f1 eR => ⟨rfl, ?_⟩⟩
    have sH : Same H H1 := fun a o h => f1 a o (fun z => by rw [z, hR] at h; cases h) (s2 a o h)
    clear f1 s2 s1 hR1
    have wk1 := wk.same sH
    walk_at "go"
    refine ⟨_, rfl, R, dx, _, rfl, eR, rfl, ?_⟩
    walk_at "go"
    refine ⟨R, dx, L, lo, hi, zs, rfl, eR, wk1, ln, fun H2 Fp s2 hFp eFp => ?_⟩
    have sH2 := sH.trans s2
    have eR2 := s2 _ _ eR
    generalize hws : zs.map (·.2) = ws at eFp q1 q2
    have wl : ws.length = zs.length := by rw [← hws, List.length_map]
    have p2 : 2 ^ ws.length ≤ 1024 := Nat.pow_le_pow_right (by decide) (show ws.length ≤ 10 by omega)
    refine w_lcList (SqL.of eFp) (fun D i H' => Same H2 H' ∧ ∃ rs, RowsL H H' D rs ∧ rs.map (·.2) = ((firsts lo hi ws).take i).map (fun p => [p]) ∧ ∀ y ∈ rs, y.1 ≠ D) (fun D hD => ⟨same_new hD, [], ⟨upd_same, fun r hr => nomatch hr⟩, rfl, fun r hr => nomatch hr⟩) (fun D i H' hD _ h => SqL.of (h.1 _ _ eFp)) (fun D i y H' hD hy h => ?_) (fun RR H3 hRR h => ?_)
    · obtain ⟨p, hp, rfl⟩ := nI_at hy
      obtain ⟨s3, rs, rl, er, nr⟩ := h
      have il := (List.getElem?_eq_some_iff.mp hp).1
      have ll : rs.length = i := by
        have := congrArg List.length er
        rw [List.length_map, List.length_map, List.length_take] at this
        omega
      have fl : (firsts lo hi ws).length ≤ ws.length := by
        have := List.length_filter_le (fun p => tim lo hi (ws.take (p + 1))) (ups 0 ws.length)
        rw [ups_len] at this; exact this
      walk_at "go"
      refine ⟨rfl, ?_⟩
      walk_at "go"
      intro M hM
      have sM := same_new (o := .lst [nI p]) hM
      have rl' := rl.same sM
      have nMD : M ≠ D := (ne_of_none rl.at_ hM).symm
      refine ⟨_, rl'.at_, by rw [sizeLine_eq, List.length_map]; omega, Wd.Same.mut (s3.trans sM) hD, rs ++ [(M, [p])], rl'.put upd_same (Wd.Same.back (sH2.trans s3) hM) nMD nr, ?_, fun y hy => ?_⟩
      · rw [List.map_append, er, take_snocM _ hp]; rfl
      · rw [List.mem_append, List.mem_singleton] at hy
        rcases hy with hy | rfl
        · exact nr y hy
        · exact nMD
    obtain ⟨s3, rs, rl, er, _⟩ := h
    rw [List.length_map, List.take_length] at er
    have e1 : rs.map (·.2) = row1 lo hi ws := er
    have sH3 := sH2.trans s3
    have eR3 := s3 _ _ eR2
    clear er eFp s3 s2 eR eR2 wk1 sH sH2 hRR
    walk_at "go"
    refine w_loop (fun n σ H' => ∃ (RR : Addr) (rs : List (Addr × List Nat)) (v4 v5 v6 : Option V) (k : Nat), σ = [some (.ref W), some (.ref L), some (.ref R), some (.ref RR), v4, v5, v6] ∧ Same H H' ∧ H' R = some (.ins CR dx (ringF lo hi L)) ∧ RowsL H H' RR rs ∧ (∀ r ∈ rs, Rw ws.length k r.2) ∧ wt ws.length (rs.map (·.2)) ≤ 1024 ∧ fw lo hi ws n (rs.map (·.2)) = few lo hi ws ∧ k + n = ws.length + 1) (ws.length + 1) ?_ ?_
    · exact ⟨RR, rs, _, _, _, 0, rfl, sH3, eR3, rl, fun r hr => row1_rw r.2 (by rw [← e1]; exact List.mem_map.mpr ⟨r, hr, rfl⟩), by rw [e1]; exact Nat.le_trans wt_row1 p2, by rw [e1]; rfl, by omega⟩
    clear e1 rl sH3 eR3
    rintro n σ H4 ⟨RR, rs, v4, v5, v6, k, rfl, s4, eR4, rl, rw', wt', ef, kn⟩
    have wk4 := wk.same s4
    walk_at "go"
    match rs, rl, rw', wt', ef with
    | [], rl, rw', wt', ef =>
      refine ⟨false, .inl ⟨[], SqL.of rl.at_, rfl⟩, ?_⟩
      walk_at "go"
      have e0 : few lo hi ws = none := by
        rw [← ef]
        cases n with
        | zero => rfl
        | succ n => show (if ([] : List (List Nat)) = [] then none else _) = none; exact if_pos rfl
      exact q2 e0 _ s4
    | r0 :: rs0, rl, rw', wt', ef =>
      generalize hrs : r0 :: rs0 = rs at rl rw' wt' ef
      have ne' : rs ≠ [] := by rw [← hrs]; exact List.cons_ne_nil _ _
      have hk := (rw' r0 (by rw [← hrs]; exact List.mem_cons_self)).le
      match n, kn, ef with
      | 0, kn, _ => omega
      | n + 1, kn, ef =>
      have nm : rs.map (·.2) ≠ [] := fun z => ne' (List.map_eq_nil_iff.mp z)
      have lrs : rs.length ≤ 1024 := by have := len_wt ws.length (rs.map (·.2)); rw [List.length_map] at this; omega
      refine ⟨true, .inl ⟨_, SqL.of rl.at_, by rw [← hrs]; rfl⟩, ?_⟩
      refine L2.iteT ?_
      refine ⟨fun σ' H' => ∃ (RR : Addr) (rs : List (Addr × List Nat)) (v4 v5 v6 : Option V) (k : Nat), σ' = [some (.ref W), some (.ref L), some (.ref R), some (.ref RR), v4, v5, v6] ∧ Same H H' ∧ H' R = some (.ins CR dx (ringF lo hi L)) ∧ RowsL H H' RR rs ∧ (∀ r ∈ rs, Rw ws.length k r.2) ∧ wt ws.length (rs.map (·.2)) ≤ 1024 ∧ fw lo hi ws n (rs.map (·.2)) = few lo hi ws ∧ k + n = ws.length + 1, fun σ' H' h => ⟨n, Nat.lt_succ_self n, h⟩, ?_⟩
      walk_at "go"
      refine w_list (xs := rs.map fun r => V.ref r.1) (fun i σ H' => ∃ v5 : Option V, σ = [some (.ref W), some (.ref L), some (.ref R), some (.ref RR), v4, v5, v6] ∧ Same H4 H' ∧ ∀ j r, j < i → rs[j]? = some r → closes lo hi ws r.2 = false) ?_ ?_ ?_ ?_
      · exact ⟨_, rfl, fun _ _ h => h, fun j r hj => by omega⟩
      · rintro i σ H' _ ⟨v5, rfl, sm, _⟩
        exact SqL.of (sm _ _ rl.at_)
      · rintro i x σ H5 hx ⟨v5, rfl, sm, no⟩
        obtain ⟨r, hr', rfl⟩ := map_at2 hx
        have rm := List.mem_of_getElem? hr'
        have rr := rw' r rm
        have ro := rl.own r rm
        have er5 := sm _ _ ro.1
        have hne := rr.ne
        have lp : 0 < r.2.length := List.length_pos_iff.mpr hne
        have h1 := headN_at hne
        have h2 := lastN_at hne
        walk_at "go"
        refine ⟨_, rfl, R, dx, _, rfl, sm _ _ eR4, rfl, ?_⟩
        walk_at "go"
        refine g_ixL (SqL.of er5) (at_of (j := 0) (v := nI (headN r.2)) rfl (by rw [List.getElem?_map, h1]; rfl)) ?_
        walk_at "go"
        refine g_ixL (v := nI (lastN r.2)) (SqL.of er5) (atI_back (by rw [List.length_map, List.getElem?_map, h2]; rfl)) ?_
        walk_at "go"
        refine ⟨R, dx, L, lo, hi, zs, headN r.2, lastN r.2, rfl, sm _ _ eR4, wk4.same sm, ln, by rw [← wl]; exact rr.2.2 _ (headN_mem hne), by rw [← wl]; exact rr.2.2 _ (lastN_mem hne), fun H6 s6 => ?_⟩
        rw [hws]
        refine ⟨_, rfl, ?_⟩
        cases hc : fit lo hi ws (headN r.2) (lastN r.2) with
        | true =>
          walk_at "go"
          refine q1 r.2 ?_ _ r.1 ((s4.trans sm).trans s6) ro.2 (s6 _ _ er5)
          rw [← ef]
          unfold fw
          rw [if_neg nm]
          have hf : (rs.map (·.2)).find? (closes lo hi ws) = some r.2 := by
            rw [List.find?_eq_some_iff_getElem]
            refine ⟨hc, i, by rw [List.length_map]; exact (List.getElem?_eq_some_iff.mp hr').1, ?_, fun j hj => ?_⟩
            · rw [List.getElem_map]
              congr 1
              exact (List.getElem?_eq_some_iff.mp hr').2
            · rw [List.getElem_map]
              have jl : j < rs.length := by have := (List.getElem?_eq_some_iff.mp hr').1; omega
              have := no j rs[j] hj (List.getElem?_eq_getElem jl)
              rw [this]; rfl
          rw [hf]
        | false =>
          walk_at "go"
          refine ⟨_, rfl, sm.trans s6, fun j r2 hj hr2 => ?_⟩
          by_cases c : j < i
          · exact no j r2 c hr2
          · have : j = i := by omega
            subst this
            cases hr'.symm.trans hr2
            exact hc
      rintro σ H5 ⟨v5, rfl, sm, no⟩
      rw [List.length_map] at no
      have hf : (rs.map (·.2)).find? (closes lo hi ws) = none := by
        rw [List.find?_eq_none]
        intro x hx
        obtain ⟨r, hr', rfl⟩ := List.mem_map.mp hx
        obtain ⟨j, hj, rfl⟩ := List.mem_iff_getElem.mp hr'
        rw [no j rs[j] hj (List.getElem?_eq_getElem hj)]
        decide
      have ef' : fw lo hi ws n (stepR lo hi ws (rs.map (·.2))) = few lo hi ws := by
        rw [← ef]
        conv => rhs; unfold fw
        rw [if_neg nm, hf]
      have wst := wt_step (lo := lo) (hi := hi) (k := k) (rows := rs.map (·.2)) (fun r hr' => by obtain ⟨r2, h2, rfl⟩ := List.mem_map.mp hr'; exact rw' r2 h2)
      have lst := len_wt ws.length (stepR lo hi ws (rs.map (·.2)))
      have s5 := s4.trans sm
      have rl5 := rl.same sm
      have eR5 := sm _ _ eR4
      have wk5 := wk4.same sm
      clear ef hf no rl eR4 wk4
      walk_at "go"
      refine g_lc2 ?_
      walk_at "go"
      refine w_lc2 (SqL.of rl5.at_) (fun D i H' => Same H5 H' ∧ ∃ ys, RowsL H H' D ys ∧ ys.map (·.2) = ((rs.map (·.2)).take i).flatMap (growN lo hi ws) ∧ ∀ y ∈ ys, y.1 ≠ D) (fun D hD => ⟨same_new hD, [], ⟨upd_same, fun r hr => nomatch hr⟩, by rw [List.take_zero]; rfl, fun r hr => nomatch hr⟩) (fun D i H' hD _ h => SqL.of (h.1 _ _ rl5.at_)) (fun D i x H6 hD hx h => ?_) (fun RR2 H6 hRR2 h => ?_)
      · obtain ⟨r, hr', rfl⟩ := map_at2 hx
        obtain ⟨s6, ys, ry, ey, ny⟩ := h
        have rm := List.mem_of_getElem? hr'
        have rr := rw' r rm
        have ro := s6 _ _ (rl5.own r rm).1
        have h2 := lastN_at rr.ne
        have eR6 := s6 _ _ eR5
        have fp := flat_part (growN lo hi ws) (l := rs.map (·.2)) (i := i) (x := r.2) (by rw [List.getElem?_map, hr']; rfl)
        have gl : (growN lo hi ws r.2).length = (nexts lo hi ws (lastN r.2)).length := by unfold growN; rw [List.length_map]
        walk_at "go"
        refine ⟨rfl, ?_⟩
        walk_at "go"
        refine ⟨_, rfl, R, dx, _, rfl, eR6, rfl, ?_⟩
        walk_at "go"
        refine g_ixL (v := nI (lastN r.2)) (SqL.of ro) (atI_back (by rw [List.length_map, List.getElem?_map, h2]; rfl)) ?_
        walk_at "go"
        refine ⟨R, dx, L, lo, hi, zs, lastN r.2, rfl, eR6, wk5.same s6, ln, by rw [← wl]; exact rr.2.2 _ (lastN_mem rr.ne), fun H7 Nx s7 hNx eNx => ?_⟩
        rw [hws] at eNx
        refine ⟨Nx, rfl, ⟨_, SqL.of eNx⟩, ?_⟩
        refine inE_list (ys := (nexts lo hi ws (lastN r.2)).map nI) (fun j H' => Same H5 H' ∧ H' Nx = some (.lst ((nexts lo hi ws (lastN r.2)).map nI)) ∧ ∃ ys, RowsL H H' D ys ∧ ys.map (·.2) = ((rs.map (·.2)).take i).flatMap (growN lo hi ws) ++ ((nexts lo hi ws (lastN r.2)).take j).map (fun p => r.2 ++ [p]) ∧ ∀ y ∈ ys, y.1 ≠ D) ⟨s6.trans s7, eNx, ys, ry.same s7, by rw [List.take_zero, List.map_nil, List.append_nil]; exact ey, ny⟩ (fun j H' _ h => SqL.of h.2.1) (fun j y H8 hy h => ?_) (fun H8 h => ?_)
        · obtain ⟨p, hp, rfl⟩ := nI_at hy
          obtain ⟨s8, nx8, us, ru, eu, nu⟩ := h
          have jl := (List.getElem?_eq_some_iff.mp hp).1
          have lu : us.length ≤ 1024 := by
            have := congrArg List.length eu
            rw [List.length_map, List.length_append, List.length_map] at this
            have := List.length_take_le j (nexts lo hi ws (lastN r.2))
            show us.length ≤ 1024
            unfold stepR at lst wst
            omega
          walk_at "go"
          refine ⟨rfl, ?_⟩
          walk_at "go"
          intro M1 hM1
          have sM1 := same_new (o := .lst [nI p]) hM1
          have eM1 := upd_same (H := H8) (a := M1) (o := .lst [nI p])
          generalize upd H8 M1 (.lst [nI p]) = H9 at sM1 eM1
          have rl0 : r.2.length ≤ 1024 := by have := rr.1; have := rr.le; omega
          refine ⟨r.1, M1, _, _, rfl, rfl, sM1 _ _ (s8 _ _ (rl5.own r rm).1), eM1, by rw [sizeLine_eq, List.length_map, List.length_singleton]; omega, fun M hM => ?_⟩
          have sM := same_new (o := .lst (r.2.map nI ++ [nI p])) hM
          have ru9 := (ru.same sM1).same sM
          have sA := (s8.trans sM1).trans sM
          have nND : Nx ≠ D := fun z => by rw [z, ry.at_] at hNx; cases hNx
          have nMD : M ≠ D := (ne_of_none (ru.same sM1).at_ hM).symm
          refine ⟨_, ru9.at_, by rw [sizeLine_eq, List.length_map]; omega, Wd.Same.mut sA hD, by rw [upd_ne nND]; exact sM _ _ (sM1 _ _ nx8), us ++ [(M, r.2 ++ [p])], ru9.put (by rw [List.map_append]; exact upd_same) (Wd.Same.back (s5.trans (s8.trans sM1)) hM) nMD nu, ?_, fun y hy => ?_⟩
          · rw [List.map_append, eu, List.append_assoc, take_snocM _ hp]; rfl
          · rw [List.mem_append, List.mem_singleton] at hy
            rcases hy with hy | rfl
            · exact nu y hy
            · exact nMD
        · obtain ⟨s8, nx8, us, ru, eu, nu⟩ := h
          rw [List.length_map, List.take_length] at eu
          refine ⟨s8, us, ru, ?_, nu⟩
          rw [eu, List.take_add_one, List.getElem?_map, hr']
          show _ = ((rs.map (·.2)).take i ++ [r.2]).flatMap _
          rw [List.flatMap_append, List.flatMap_cons, List.flatMap_nil, List.append_nil]
          rfl
      · obtain ⟨s6, ys, ry, ey, ny⟩ := h
        rw [List.length_map, ← List.length_map (f := fun x : Addr × List Nat => x.2), List.take_length] at ey
        have ey' : ys.map (·.2) = stepR lo hi ws (rs.map (·.2)) := ey
        walk_at "go"
        exact ⟨RR2, ys, _, _, _, k + 1, rfl, s5.trans s6, s6 _ _ eR5, ry, fun y hy => step_rw (lo := lo) (hi := hi) (rows := rs.map (·.2)) (fun r hr' => by obtain ⟨r2, h2, rfl⟩ := List.mem_map.mp hr'; exact rw' r2 h2) y.2 (by rw [← ey']; exact List.mem_map.mpr ⟨y, hy, rfl⟩), by rw [ey']; omega, by rw [ey']; exact ef', by omega⟩
end
end K08
namespace K08
open PySem PySem.Spec PyProof.Rows L2 Wd
/-- works in a list, apart from the drawing's state -/
structure WkS (S : Addr) (H : Hp) (L : Addr) (zs : List Wk) : Prop where
  at_ : H L = some (.lst (zs.map fun z => V.ref z.1))
  nS : L ≠ S
  own : ∀ z ∈ zs, H z.1 = some (.tup [.int z.2.1, .int z.2.2]) ∧ z.1 ≠ S
theorem WkS.frm {S : Addr} {H H' : Hp} {L : Addr} {zs : List Wk} (t : WkS S H L zs) (f : Frm S H H') : WkS S H' L zs :=
  ⟨f _ _ t.nS t.at_, t.nS, fun z hz => ⟨f _ _ (t.own z hz).2 (t.own z hz).1, (t.own z hz).2⟩⟩
theorem WkS.wk {S : Addr} {H : Hp} {L : Addr} {zs : List Wk} (t : WkS S H L zs) : WkL H L zs := ⟨t.at_, fun z hz => (t.own z hz).1⟩
theorem WkS.put {S : Addr} {H : Hp} {L t : Addr} {a b : Int} {zs : List Wk} (w : WkS S H L zs) (h : H t = some (.tup [.int a, .int b])) (n : t ≠ S) : WkS S (upd H L (.lst ((zs.map fun z => V.ref z.1) ++ [.ref t]))) L (zs ++ [(t, a, b)]) := by
  refine ⟨by rw [upd_same, List.map_append]; rfl, w.nS, fun z hz => ?_⟩
  rw [List.mem_append, List.mem_singleton] at hz
  rcases hz with hz | rfl
  · exact ⟨by rw [upd_ne (ne_of (w.own z hz).1 w.at_ (fun z => nomatch z))]; exact (w.own z hz).1, (w.own z hz).2⟩
  · exact ⟨by rw [upd_ne (ne_of h w.at_ (fun z => nomatch z))]; exact h, n⟩
def okS (B : Int) (zs : List Wk) : Prop := ∀ z ∈ zs, 0 ≤ z.2.1 ∧ z.2.1 ≤ z.2.2 ∧ z.2.2 ≤ B
theorem okS_put {B a b : Int} {t : Addr} {zs : List Wk} (h : okS B zs) (h1 : 0 ≤ a) (h2 : a ≤ b) (h3 : b ≤ B) : okS B (zs ++ [(t, a, b)]) := fun z hz => by
  rw [List.mem_append, List.mem_singleton] at hz
  rcases hz with hz | rfl
  · exact h z hz
  · exact ⟨h1, h2, h3⟩
section
variable {P : Program} {w : World} {K : PySem.W.Frag} {mg : Str → Option Value} {base : Heap} {CN CR : Addr}
abbrev s_law_works : Stmt := top 29
theorem sc_law_works : FnScope ["_law_state", "_law_wide_here", "_law_found", "_law_k", "_law_least", "_law_times", "_law_most"] ["_law_state"] (C8.fnScope s_law_works) := C8.fnScope_by (by decide +kernel)
def sp_works (K : PySem.W.Frag) : Sp := fun vs H Q _ => ∃ (B : Hp) (S : Addr), vs = [.ref S] ∧ Dst K B H S ∧ ∀ H' L zs, Frm S H H' → Dst K B H' S → WkS S H' L zs → okZ zs → zs ≠ [] → zs.length ≤ 10 → Q (.ref L) H'
theorem ok_works (T : TxtW K mg CN) {f : Addr} {fd : FuncData} (D : C8.Def K mg "_law_works" s_law_works f fd) (b : Binds K fd ["_law_state"] []) (g_law_drawn : C8.Cal P w K mg base 1 "_law_drawn" (sp_drawn K) []) : C8.Cal P w K mg base 2 "_law_works" (sp_works K) [] := by
  refine C8.cal0 D b .nil sc_law_works (fun vs H Q E h => ?_) fun cdv A outer s H vs Q E hr h => ?_
  · obtain ⟨B, S, rfl, _⟩ := h; rfl
  · obtain ⟨B, S, rfl, d, q⟩ := h
    have nd := sc_law_works.nd
    refine ⟨_, (pss_cons (ps_set (i := 1) nd rfl (Or.inl rfl) (pe_ix (r := rIxL K) ix_list (pe_lst (pa_cons pe_int (pa_cons pe_int (pa_cons pe_int pa_nil)))) (C8.pe_c g_law_drawn hr (by first | decide | exact Nat.le_refl _ | omega) (by rfl) (pa_cons (pv 0) (pa_cons pe_int pa_nil))) (fun _ _ => rfl)))
      (pss_cons (ps_set (i := 2) nd rfl (Or.inl rfl) (pe_lst pa_nil))
      (pss_cons (ps_for PassesOwn.never rfl (pi_range1 rfl T.n_range (pa_cons (pe_op op_add pe_int (C8.pe_c g_law_drawn hr (by first | decide | exact Nat.le_refl _ | omega) (by rfl) (pa_cons (pv 0) (pa_cons (pe_ix (r := rIxL K) ix_list (pe_lst (pa_cons pe_int (pa_cons pe_int pa_nil))) (C8.pe_c g_law_drawn hr (by first | decide | exact Nat.le_refl _ | omega) (by rfl) (pa_cons (pv 0) (pa_cons pe_int pa_nil))) (fun _ _ => rfl)) pa_nil)))) pa_nil)) (pg_name (i := 3) nd rfl (Or.inl rfl)) (pss_cons (ps_set (i := 4) nd rfl (Or.inl rfl) (C8.pe_c g_law_drawn hr (by first | decide | exact Nat.le_refl _ | omega) (by rfl) (pa_cons (pv 0) (pa_cons pe_int pa_nil))))
      (pss_one (ps_expr (pe_bmK (K := K) rfl PySem.F.plainAttrs_list PySem.F.slot_list_append PySem.F.type_list_append mt_append (pv 2) (pa_cons (pe_tup (pa_cons (pv 4) (pa_cons (pe_op op_add (pv 4) (C8.pe_c g_law_drawn hr (by first | decide | exact Nat.le_refl _ | omega) (by rfl) (pa_cons (pv 0) (pa_cons (pv 1) pa_nil)))) pa_nil))) pa_nil))))))
      (pss_cons (ps_set (i := 5) nd rfl (Or.inr rfl) (pe_ix (r := rIxL K) ix_list (pe_lst (pa_cons pe_int (pa_cons pe_int (pa_cons pe_int (pa_cons pe_int pa_nil))))) (C8.pe_c g_law_drawn hr (by first | decide | exact Nat.le_refl _ | omega) (by rfl) (pa_cons (pv 0) (pa_cons pe_int pa_nil))) (fun _ _ => rfl)))
      (pss_one (ps_ret (pe_lc (own := [("_law_least", 4), ("_law_most", 6)]) (g := (gTup K 2 (gCons (gName 4) (gCons (gName 6) gNil)))) (tt := tYes) rfl nd (pi_list (pv 2)) (blkOk_by (N := ["_law_state", "_law_wide_here", "_law_found", "_law_k", "_law_least", "_law_times", "_law_most"]) (sc := C8.fnScope s_law_works) (by decide +kernel)) (fun _ _ _ _ _ => (pg_tup rfl (pgs_cons (pg_name (i := 4) nd rfl (Or.inl rfl)) (pgs_cons (pg_name (i := 6) nd rfl (Or.inl rfl)) pgs_nil)))) (fun _ _ _ _ _ => pts_nil) (fun _ _ _ _ _ => (pe_tup (pa_cons (pe_op op_mulW (pv 4) (pv 5)) (pa_cons (pe_op op_mulW (pv 6) (pv 5)) pa_nil))))))))))), ?_⟩
    walk_at "go"
    intro l1 hl1
    have d1 := d.same (same_new (o := .lst [.int 1, .int 3, .int 6]) hl1)
    walk_at "go"
    refine use_drawn (n := 3) d1 (by decide) (by decide) fun H2 a f2 d2 a0 a1 => ?_
    have e2 := f2 _ _ (d.ne hl1) upd_same
    obtain ⟨x, hx, hx2⟩ := atI_mem (xs := [.int 1, .int 3, .int 6]) a0 a1
    refine g_ixL (SqL.of e2) hx2 ?_
    obtain ⟨wd, rfl, w0, w1⟩ : ∃ z, x = V.int z ∧ 1 ≤ z ∧ z ≤ 6 := by
      simp only [List.mem_cons, List.not_mem_nil, or_false] at hx
      rcases hx with rfl | rfl | rfl <;> exact ⟨_, rfl, by decide, by decide⟩
    have f02 : Frm S H H2 := (Frm.new (o := .lst [.int 1, .int 3, .int 6]) hl1).trans f2
    clear e2 hx2 hx f2 d1
    walk_at "go"
    intro F hF
    have d3 := d2.same (same_new (o := .lst []) hF)
    have nF := d2.ne hF
    have bF := d2.fresh hF
    have f23 : Frm S H2 (upd H2 F (.lst [])) := .new hF
    have eF := upd_same (H := H2) (a := F) (o := .lst [])
    generalize upd H2 F (.lst []) = H3 at d3 f23 eF
    walk_at "go"
    intro l4 hl4
    have d4 := d3.same (same_new (o := .lst [.int 5, .int 10]) hl4)
    walk_at "go"
    refine use_drawn (n := 2) d4 (by decide) (by decide) fun H5 c f5 d5 c0 c1 => ?_
    have e5 := f5 _ _ (d3.ne hl4) upd_same
    obtain ⟨x, hx, hx2⟩ := atI_mem (xs := [.int 5, .int 10]) c0 c1
    refine g_ixL (SqL.of e5) hx2 ?_
    obtain ⟨mx, rfl, x0, x1⟩ : ∃ z, x = V.int z ∧ 1 ≤ z ∧ z ≤ 10 := by
      simp only [List.mem_cons, List.not_mem_nil, or_false] at hx
      rcases hx with rfl | rfl <;> exact ⟨_, rfl, by decide, by decide⟩
    have f35 : Frm S H3 H5 := (Frm.new (o := .lst [.int 5, .int 10]) hl4).trans f5
    clear e5 hx2 hx f5 d4
    walk_at "go"
    refine use_drawn d5 (by omega) (by omega) fun H6 n f6 d6 n0 n1 => ?_
    have f26 := (f23.trans f35).trans f6
    have eF6 := f6 _ _ nF (f35 _ _ nF eF)
    walk_at "go"
    refine w_range (by omega) (by omega) (fun i σ H' => ∃ (v3 v4 v5 v6 : Option V) (zs : List Wk), σ = [some (.ref S), some (.int wd), some (.ref F), v3, v4, v5, v6] ∧ Frm S H2 H' ∧ Dst K B H' S ∧ WkS S H' F zs ∧ okS 10 zs ∧ zs.length = i) ?_ ?_ ?_
    · exact ⟨_, _, _, _, [], rfl, f26, d6, ⟨eF6, nF, fun z hz => nomatch hz⟩, (fun z hz => nomatch hz), rfl⟩
    · clear eF6 f26 f6 d6 f35 d5 d3 f23 eF
      rintro i σ H7 hi ⟨v3, v4, v5, v6, zs, rfl, f7, d7, wk, ok, lz⟩
      walk_at "go"
      refine use_drawn (n := 6) d7 (by decide) (by decide) fun H8 le f8 d8 le0 le1 => ?_
      walk_at "go"
      have wk8 := wk.frm f8
      refine g_tyL wk8.at_ ?_
      walk_at "go"
      refine use_drawn d8 (by omega) (by omega) fun H9 y f9 d9 y0 y1 => ?_
      walk_at "go"
      intro t ht
      have st := same_new (o := .tup [.int le, .int (le + y)]) ht
      have wk9 := (wk8.frm f9).frm (.of st)
      walk_at "go"
      refine g_append wk9.at_ (by rw [List.length_map]; omega) ?_
      walk_at "go"
      exact ⟨_, _, _, _, zs ++ [(t, le, le + y)], rfl, Frm.mut (((f7.trans f8).trans f9).trans (.of st)) hF, (d9.same st).mut nF bF, wk9.put upd_same (d9.ne ht), okS_put ok le0 (by omega) (by omega), by rw [List.length_append, lz]; rfl⟩
    · clear eF6 f26 f6 d6 f35 d5 d3 f23 eF
      rintro σ H7 ⟨v3, v4, v5, v6, zs, rfl, f7, d7, wk, ok, lz⟩
      walk_at "go"
      intro l8 hl8
      have d8 := d7.same (same_new (o := .lst [.int 1, .int 1, .int 1, .int 100]) hl8)
      walk_at "go"
      refine use_drawn (n := 4) d8 (by decide) (by decide) fun H9 u f9 d9 u0 u1 => ?_
      have e9 := f9 _ _ (d7.ne hl8) upd_same
      obtain ⟨x, hx, hx2⟩ := atI_mem (xs := [.int 1, .int 1, .int 1, .int 100]) u0 u1
      refine g_ixL (SqL.of e9) hx2 ?_
      obtain ⟨tm, rfl, t0, t1⟩ : ∃ z, x = V.int z ∧ 1 ≤ z ∧ z ≤ 100 := by
        simp only [List.mem_cons, List.not_mem_nil, or_false] at hx
        rcases hx with rfl | rfl | rfl | rfl <;> exact ⟨_, rfl, by decide, by decide⟩
      have f79 : Frm S H7 H9 := (Frm.new (o := .lst [.int 1, .int 1, .int 1, .int 100]) hl8).trans f9
      have wk9 := wk.frm f79
      walk_at "go"
      refine w_lcList (SqL.of wk9.at_) (fun D i H' => Same H9 H' ∧ ∃ ys, WkS S H' D ys ∧ okS 1000 ys ∧ ys.length = i) (fun D hD => ⟨same_new hD, [], ⟨upd_same, d9.ne hD, fun z hz => nomatch hz⟩, (fun z hz => nomatch hz), rfl⟩) (fun D i H' hD _ h => SqL.of (h.1 _ _ wk9.at_)) (fun D i y H' hD hy h => ?_) (fun D H' hD h => ?_)
      · obtain ⟨z, hz, rfl⟩ := zs_at hy
        obtain ⟨s10, ys, wy, oy, ly⟩ := h
        have zm := List.mem_of_getElem? hz
        have il := (List.getElem?_eq_some_iff.mp hz).1
        obtain ⟨z0, z1, z2⟩ := ok z zm
        have m1 : 0 ≤ z.2.1 * tm := Int.mul_nonneg z0 (by omega)
        have m2 : z.2.1 * tm ≤ z.2.2 * tm := Int.mul_le_mul_of_nonneg_right z1 (by omega)
        have m3 : z.2.2 * tm ≤ 10 * tm := Int.mul_le_mul_of_nonneg_right z2 (by omega)
        walk_at "go"
        refine g_gtup (SqT.of (s10 _ _ (wk9.own z zm).1)) rfl ?_
        walk_at "go"
        refine ⟨rfl, ?_⟩
        walk_at "go"
        refine g_I (mulW_small (by omega) (by omega) (by omega) (by omega)) ?_
        walk_at "go"
        refine g_I (mulW_small (by omega) (by omega) (by omega) (by omega)) ?_
        walk_at "go"
        intro t ht
        have st := same_new (o := .tup [.int (z.2.1 * tm), .int (z.2.2 * tm)]) ht
        have wy2 := wy.frm (.of st)
        exact ⟨_, wy2.at_, by rw [sizeLine_eq, List.length_map]; omega, Wd.Same.mut (s10.trans st) hD, _, wy2.put upd_same ((d9.same s10).ne ht), okS_put oy m1 m2 (by omega), by rw [List.length_append, ly]; rfl⟩
      · obtain ⟨s10, ys, wy, oy, ly⟩ := h
        rw [List.length_map] at ly
        exact q H' D ys ((f02.trans f7).trans (f79.trans (.of s10))) (d9.same s10) wy oy (List.ne_nil_of_length_pos (by omega)) (by omega)

abbrev s_law_wide : Stmt := top 30
theorem sc_law_wide : FnScope ["_law_state", "_law_works_here", "_law_high", "_law_work"] ["_law_state", "_law_works_here"] (C8.fnScope s_law_wide) := C8.fnScope_by (by decide +kernel)
def sp_wide (K : PySem.W.Frag) : Sp := fun vs H Q _ => ∃ (B : Hp) (S L : Addr) (zs : List Wk), vs = [.ref S, .ref L] ∧ Dst K B H S ∧ WkS S H L zs ∧ okZ zs ∧ zs ≠ [] ∧ zs.length ≤ 10 ∧ ∀ H' W lo hi, Frm S H H' → Dst K B H' S → H' W = some (.tup [.int lo, .int hi]) → W ≠ S → okW lo hi → Q (.ref W) H'
theorem sum_le {B : Int} : ∀ {ns : List Int}, (∀ n ∈ ns, 0 ≤ n ∧ n ≤ B) → 0 ≤ ns.sum ∧ ns.sum ≤ ns.length * B
  | [], _ => ⟨Int.le_refl _, by simp⟩
  | n :: ns, h => by
    have h1 := h n List.mem_cons_self
    have h2 := sum_le (ns := ns) fun y hy => h y (List.mem_cons_of_mem _ hy)
    rw [List.sum_cons, List.length_cons]
    have e : (((ns.length + 1 : Nat) : Int)) * B = ns.length * B + B := by rw [Int.natCast_add, Int.add_mul]; simp
    rw [e]
    omega
theorem ok_wide (T : TxtW K mg CN) {f : Addr} {fd : FuncData} (D : C8.Def K mg "_law_wide" s_law_wide f fd) (b : Binds K fd ["_law_state", "_law_works_here"] []) (g_law_drawn : C8.Cal P w K mg base 1 "_law_drawn" (sp_drawn K) []) : C8.Cal P w K mg base 2 "_law_wide" (sp_wide K) [] := by
  refine C8.cal0 D b .nil sc_law_wide (fun vs H Q E h => ?_) fun cdv A outer s H vs Q E hr h => ?_
  · obtain ⟨B, S, L, zs, rfl, _⟩ := h; rfl
  · obtain ⟨B, S, L, zs, rfl, d, wk, ok, ne, ln, q⟩ := h
    have nd := sc_law_wide.nd
    have lp : 0 < zs.length := List.length_pos_iff.mpr ne
    have all : ∀ n ∈ zs.map (fun z : Wk => z.2.2), 0 ≤ n ∧ n ≤ 1000 := fun n hn => by
      obtain ⟨z, hz, rfl⟩ := List.mem_map.mp hn
      have := ok z hz; omega
    have sl := sum_le all
    rw [List.length_map] at sl
    refine ⟨_, (pss_cons (ps_set (i := 2) nd rfl (Or.inl rfl) (pe_op op_add (pe_callB (r := rMax K) (cr_max rfl) (by rfl) T.n_max (by decide +kernel) (pa_cons (pe_lc (own := [("_law_work", 3)]) (g := gName 3) (tt := tYes) rfl nd (pi_list (pv 1)) (blkOk_by (N := ["_law_state", "_law_works_here", "_law_high", "_law_work"]) (sc := C8.fnScope s_law_wide) (by decide +kernel)) (fun _ _ _ _ _ => pg_name (i := 3) nd rfl (Or.inl rfl)) (fun _ _ _ _ _ => pts_nil) (fun _ _ _ _ _ => (pe_ix (r := rIxT K) ix_tup (pv 3) pe_int (fun _ _ => rfl)))) pa_nil)) (C8.pe_c g_law_drawn hr (by first | decide | exact Nat.le_refl _ | omega) (by rfl) (pa_cons (pv 0) (pa_cons (pe_op op_add (pe_callB (r := rSum K) (cr_sum rfl) (by rfl) T.n_sum (by decide +kernel) (pa_cons (pe_lc (own := [("_law_work", 3)]) (g := gName 3) (tt := tYes) rfl nd (pi_list (pv 1)) (blkOk_by (N := ["_law_state", "_law_works_here", "_law_high", "_law_work"]) (sc := C8.fnScope s_law_wide) (by decide +kernel)) (fun _ _ _ _ _ => pg_name (i := 3) nd rfl (Or.inl rfl)) (fun _ _ _ _ _ => pts_nil) (fun _ _ _ _ _ => (pe_ix (r := rIxT K) ix_tup (pv 3) pe_int (fun _ _ => rfl)))) pa_nil)) pe_int) pa_nil)))))
      (pss_cons (ps_set (i := 2) nd rfl (Or.inl rfl) (pe_callB (call_min1 rfl) (by rfl) T.n_min (by decide +kernel) (pa_cons pe_int (pa_cons (pv 2) pa_nil))))
      (pss_one (ps_ret (pe_tup (pa_cons (pe_ix (r := rIxL K) ix_list (pe_lst (pa_cons pe_int (pa_cons (C8.pe_c g_law_drawn hr (by first | decide | exact Nat.le_refl _ | omega) (by rfl) (pa_cons (pv 0) (pa_cons (pe_op op_add (pv 2) pe_int) pa_nil))) (pa_cons (C8.pe_c g_law_drawn hr (by first | decide | exact Nat.le_refl _ | omega) (by rfl) (pa_cons (pv 0) (pa_cons (pe_op op_add (pe_op op_fdivW (pv 2) pe_int) pe_int) pa_nil))) pa_nil)))) (C8.pe_c g_law_drawn hr (by first | decide | exact Nat.le_refl _ | omega) (by rfl) (pa_cons (pv 0) (pa_cons pe_int pa_nil))) (fun _ _ => rfl)) (pa_cons (pv 2) pa_nil))))))), ?_⟩
    walk_at "go"
    refine w_lcList (SqL.of wk.at_) (fun D i H' => Same H H' ∧ H' D = some (.lst (((zs.take i).map fun z => z.2.2).map V.int))) (fun D hD => ⟨same_new hD, upd_same⟩) (fun D i H' hD _ h => SqL.of (h.1 _ _ wk.at_)) (fun D i y H' hD hy h => ?_) (fun D1 H1 hD1 h => ?_)
    · obtain ⟨z, hz, rfl⟩ := zs_at hy
      walk_at "go"
      refine ⟨rfl, ?_⟩
      walk_at "go"
      refine g_ixT (SqT.of (h.1 _ _ (wk.own z (List.mem_of_getElem? hz)).1)) rfl ?_
      exact ⟨_, h.2, by rw [sizeLine_eq, List.length_map, List.length_map]; have := List.length_take_le i zs; have := (List.getElem?_eq_some_iff.mp hz).1; omega, Wd.Same.mut h.1 hD, by rw [upd_same, take_snocM _ hz, List.map_append]; rfl⟩
    obtain ⟨s1, e1⟩ := h
    rw [List.length_map, List.take_length] at e1
    walk_at "go"
    refine ⟨D1, _, rfl, SqL.of e1, by rw [List.length_map]; exact lp, fun mx hmx _ => ?_⟩
    have mb := all mx hmx
    have wk1 := wk.frm (.of s1)
    walk_at "go"
    refine w_lcList (SqL.of wk1.at_) (fun D i H' => Same H1 H' ∧ H' D = some (.lst (((zs.take i).map fun z => z.2.2).map V.int))) (fun D hD => ⟨same_new hD, upd_same⟩) (fun D i H' hD _ h => SqL.of (h.1 _ _ wk1.at_)) (fun D i y H' hD hy h => ?_) (fun D2 H2 hD2 h => ?_)
    · obtain ⟨z, hz, rfl⟩ := zs_at hy
      walk_at "go"
      refine ⟨rfl, ?_⟩
      walk_at "go"
      refine g_ixT (SqT.of (h.1 _ _ (wk1.own z (List.mem_of_getElem? hz)).1)) rfl ?_
      exact ⟨_, h.2, by rw [sizeLine_eq, List.length_map, List.length_map]; have := List.length_take_le i zs; have := (List.getElem?_eq_some_iff.mp hz).1; omega, Wd.Same.mut h.1 hD, by rw [upd_same, take_snocM _ hz, List.map_append]; rfl⟩
    obtain ⟨s2, e2⟩ := h
    rw [List.length_map, List.take_length] at e2
    have d2 := (d.same s1).same s2
    walk_at "go"
    refine g_sum (SqL.of e2) ?_
    walk_at "go"
    generalize (zs.map fun z => z.2.2).sum = sm at sl ⊢
    refine use_drawn d2 (by omega) (by omega) fun H3 y f3 d3 y0 y1 => ?_
    walk_at "go"
    generalize hhi : (if mx + y < 1000 then mx + y else 1000) = hi
    have hi0 : 0 ≤ hi ∧ hi ≤ 1000 := by rw [← hhi]; split <;> omega
    have f03 : Frm S H H3 := (Frm.of (s1.trans s2)).trans f3
    walk_at "go"
    refine use_drawn d3 (by omega) (by omega) fun H4 a f4 d4 a0 a1 => ?_
    walk_at "go"
    refine g_I (divW_small (by decide) (by decide)) ?_
    walk_at "go"
    refine use_drawn d4 (by omega) (by omega) fun H5 c f5 d5 c0 c1 => ?_
    walk_at "go"
    intro l hl
    have d6 := d5.same (same_new (o := .lst [.int 0, .int a, .int c]) hl)
    walk_at "go"
    refine use_drawn (n := 3) d6 (by decide) (by decide) fun H7 v f7 d7 v0 v1 => ?_
    have h7 := f7 _ _ (d5.ne hl) upd_same
    obtain ⟨x, hx, hx2⟩ := atI_mem (xs := [.int 0, .int a, .int c]) v0 v1
    refine g_ixL (SqL.of h7) hx2 ?_
    obtain ⟨lo, rfl, lo0, lo1⟩ : ∃ z, x = V.int z ∧ 0 ≤ z ∧ z ≤ hi := by
      simp only [List.mem_cons, List.not_mem_nil, or_false] at hx
      rcases hx with rfl | rfl | rfl
      · exact ⟨_, rfl, by omega, by omega⟩
      · exact ⟨_, rfl, by omega, by omega⟩
      · exact ⟨_, rfl, by omega, by omega⟩
    walk_at "go"
    intro t ht
    exact q _ t lo hi (((((f03.trans f4).trans f5).trans (.new hl)).trans f7).trans (.new ht)) (d7.same (same_new ht)) upd_same (d7.ne ht) ⟨lo0, lo1, hi0.2⟩
end
end K08
namespace K08
open PySem PySem.Spec PyProof.Rows L2 Wd
/-- from place a up to p, around if need be -/
def gapA {α : Type} (l : List α) (a p : Nat) : List α := if a ≤ p then (l.drop a).take (p + 1 - a) else l.drop a ++ l.take (p + 1)
theorem gapA_L {α : Type} (l : List α) (b p : Nat) : gapA l (b + 1) p = gapL l b p := by
  unfold gapA gapL
  by_cases h : b < p
  · rw [if_pos (show b + 1 ≤ p from h), if_pos h]; congr 1; omega
  · rw [if_neg (show ¬ b + 1 ≤ p from h), if_neg h]
theorem gapA_0 {α : Type} (l : List α) (p : Nat) : gapA l 0 p = l.take (p + 1) := by
  unfold gapA
  rw [if_pos (Nat.zero_le _), List.drop_zero, Nat.sub_zero]
theorem gapA_map {α β : Type} (f : α → β) (l : List α) (b p : Nat) : (gapA l b p).map f = gapA (l.map f) b p := by
  unfold gapA
  split
  · rw [List.map_take, List.map_drop]
  · rw [List.map_append, List.map_drop, List.map_take]
theorem gapA_len {α : Type} (l : List α) (b p : Nat) : (gapA l b p).length ≤ 2 * l.length := by
  unfold gapA
  split
  · rw [List.length_take, List.length_drop]; omega
  · rw [List.length_append, List.length_drop, List.length_take]; omega
theorem gapA_mem {α : Type} {l : List α} {b p : Nat} {x : α} (h : x ∈ gapA l b p) : x ∈ l := by
  unfold gapA at h
  split at h
  · exact List.mem_of_mem_drop (List.mem_of_mem_take h)
  · rw [List.mem_append] at h
    exact h.elim List.mem_of_mem_drop List.mem_of_mem_take
section
variable {P : Program} {w : World} {K : PySem.W.Frag} {mg : Str → Option Value} {base : Heap} {CN CR : Addr}
abbrev s_law_gap : Stmt := top 31
theorem sc_law_gap : FnScope ["_law_works_here", "_law_one", "_law_other", "_law_some", "_law_work"] ["_law_works_here", "_law_one", "_law_other"] (C8.fnScope s_law_gap) := C8.fnScope_by (by decide +kernel)
def sp_gap (K : PySem.W.Frag) : Sp := fun vs H Q _ => ∃ (L : Addr) (zs : List Wk) (one : Int) (a p : Nat), vs = [.ref L, .int one, .int p] ∧ one + 1 = a ∧ WkL H L zs ∧ zs.length ≤ 10 ∧ p < zs.length ∧ a ≤ zs.length ∧ ∀ H' t, Same H H' → H' t = some (.tup [.int (sumA (gapA (zs.map (·.2)) a p)), .int (sumB (gapA (zs.map (·.2)) a p))]) → Q (.ref t) H'
theorem ok_gap (T : TxtW K mg CN) {f : Addr} {fd : FuncData} (D : C8.Def K mg "_law_gap" s_law_gap f fd) (b : Binds K fd ["_law_works_here", "_law_one", "_law_other"] []) : C8.Cal P w K mg base 1 "_law_gap" (sp_gap K) [] := by
  refine C8.cal0 D b .nil sc_law_gap (fun vs H Q E h => ?_) fun cdv A outer s H vs Q E hr h => ?_
  · obtain ⟨L, zs, one, a, p, rfl, _⟩ := h; rfl
  · obtain ⟨L, zs, one, a, p, rfl, e1, wk, ln, hp, ha, q⟩ := h
    have nd := sc_law_gap.nd
    have lg := gapA_len zs a p
    have e2 : (p : Int) + 1 = ((p + 1 : Nat) : Int) := by omega
    have tail : ∀ (H1 : Hp) (L2 : Addr), Same H H1 → H1 L2 = some (.lst ((gapA zs a p).map fun z => V.ref z.1)) → WkL H1 L2 (gapA zs a p) := fun H1 L2 s1 e => ⟨e, fun z hz => s1 _ _ (wk.own z (gapA_mem hz))⟩
    rw [← gapA_map] at q
    refine ⟨_, (pss_cons (ps_set (i := 3) nd rfl (Or.inl rfl) (pe_ifExp (pt_cmpR op_gt (pv 2) (pv 1) (nomark _)) (pe_slice (r := rSlL K) sl_list (pv 0) (po_some (pe_op op_add (pv 1) pe_int)) (po_some (pe_op op_add (pv 2) pe_int))) (pe_op op_cat (pe_slice (r := rSlL K) sl_list (pv 0) (po_some (pe_op op_add (pv 1) pe_int)) po_none) (pe_slice (r := rSlL K) sl_list (pv 0) po_none (po_some (pe_op op_add (pv 2) pe_int))))))
      (pss_one (ps_ret (pe_tup (pa_cons (pe_callB (r := rSum K) (cr_sum rfl) (by rfl) T.n_sum (by decide +kernel) (pa_cons (pe_lc (own := [("_law_work", 4)]) (g := gName 4) (tt := tYes) rfl nd (pi_list (pv 3)) (blkOk_by (N := ["_law_works_here", "_law_one", "_law_other", "_law_some", "_law_work"]) (sc := C8.fnScope s_law_gap) (by decide +kernel)) (fun _ _ _ _ _ => pg_name (i := 4) nd rfl (Or.inl rfl)) (fun _ _ _ _ _ => pts_nil) (fun _ _ _ _ _ => (pe_ix (r := rIxT K) ix_tup (pv 4) pe_int (fun _ _ => rfl)))) pa_nil)) (pa_cons (pe_callB (r := rSum K) (cr_sum rfl) (by rfl) T.n_sum (by decide +kernel) (pa_cons (pe_lc (own := [("_law_work", 4)]) (g := gName 4) (tt := tYes) rfl nd (pi_list (pv 3)) (blkOk_by (N := ["_law_works_here", "_law_one", "_law_other", "_law_some", "_law_work"]) (sc := C8.fnScope s_law_gap) (by decide +kernel)) (fun _ _ _ _ _ => pg_name (i := 4) nd rfl (Or.inl rfl)) (fun _ _ _ _ _ => pts_nil) (fun _ _ _ _ _ => (pe_ix (r := rIxT K) ix_tup (pv 4) pe_int (fun _ _ => rfl)))) pa_nil)) pa_nil)))))), ?_⟩
    walk_at "go"
    refine g_ite (fun hg => ?_) (fun hg => ?_)
    · have gg : gapA zs a p = (zs.drop a).take (p + 1 - a) := by unfold gapA; rw [if_pos (by omega)]
      walk_at "go"
      rw [e1, e2]
      refine g_slL (SqL.of wk.at_) fun L2 hL2 => ?_
      rw [cut_two zs _ (by omega) (by omega), ← gg]
      have s1 := same_new (o := .lst ((gapA zs a p).map fun z => V.ref z.1)) hL2
      have w1 := tail _ L2 s1 upd_same
      generalize upd H L2 (.lst ((gapA zs a p).map fun z => V.ref z.1)) = H1 at s1 w1
      walk_at "go"
      refine w_lcList (SqL.of w1.at_) (fun D i H' => Same H1 H' ∧ H' D = some (.lst ((((gapA zs a p).take i).map fun z => z.2.1).map V.int))) (fun D hD => ⟨same_new hD, upd_same⟩) (fun D i H' hD _ h => SqL.of ((h.1) _ _ w1.at_)) (fun D i y H' hD hy h => ?_) (fun D5 H5 hD5 h => ?_)
      · obtain ⟨z, hz, rfl⟩ := zs_at hy
        have il := (List.getElem?_eq_some_iff.mp hz).1
        walk_at "go"
        refine ⟨rfl, ?_⟩
        walk_at "go"
        refine g_ixT (SqT.of ((h.1) _ _ (w1.own z (List.mem_of_getElem? hz)))) rfl ?_
        exact ⟨_, h.2, by rw [sizeLine_eq, List.length_map, List.length_map]; have := List.length_take_le i (gapA zs a p); omega, Wd.Same.mut h.1 hD, by rw [upd_same, take_snocM _ hz, List.map_append]; rfl⟩
      obtain ⟨s5, e5⟩ := h
      rw [List.length_map, List.take_length] at e5
      walk_at "go"
      refine g_sum (SqL.of e5) ?_
      walk_at "go"
      refine w_lcList (SqL.of (s5 _ _ w1.at_)) (fun D i H' => Same H5 H' ∧ H' D = some (.lst ((((gapA zs a p).take i).map fun z => z.2.2).map V.int))) (fun D hD => ⟨same_new hD, upd_same⟩) (fun D i H' hD _ h => SqL.of ((Same.trans s5 h.1) _ _ w1.at_)) (fun D i y H' hD hy h => ?_) (fun D6 H6 hD6 h => ?_)
      · obtain ⟨z, hz, rfl⟩ := zs_at hy
        have il := (List.getElem?_eq_some_iff.mp hz).1
        walk_at "go"
        refine ⟨rfl, ?_⟩
        walk_at "go"
        refine g_ixT (SqT.of ((Same.trans s5 h.1) _ _ (w1.own z (List.mem_of_getElem? hz)))) rfl ?_
        exact ⟨_, h.2, by rw [sizeLine_eq, List.length_map, List.length_map]; have := List.length_take_le i (gapA zs a p); omega, Wd.Same.mut h.1 hD, by rw [upd_same, take_snocM _ hz, List.map_append]; rfl⟩
      obtain ⟨s6, e6⟩ := h
      rw [List.length_map, List.take_length] at e6
      walk_at "go"
      refine g_sum (SqL.of e6) ?_
      walk_at "go"
      intro t ht
      have ea : ((gapA zs a p).map fun z => z.2.1).sum = sumA ((gapA zs a p).map (·.2)) := by unfold sumA; rw [List.map_map]; rfl
      have eb : ((gapA zs a p).map fun z => z.2.2).sum = sumB ((gapA zs a p).map (·.2)) := by unfold sumB; rw [List.map_map]; rfl
      rw [ea, eb]
      exact q _ t (((s1.trans s5).trans s6).trans (same_new ht)) upd_same
    · have gg : gapA zs a p = zs.drop a ++ zs.take (p + 1) := by unfold gapA; rw [if_neg (by omega)]
      walk_at "go"
      rw [e1]
      refine g_slL (SqL.of wk.at_) fun L1 hL1 => ?_
      rw [cut_from zs _ (by omega)]
      have s0 := same_new (o := .lst ((zs.drop a).map fun z => V.ref z.1)) hL1
      have i1 := upd_same (H := H) (a := L1) (o := .lst ((zs.drop a).map fun z => V.ref z.1))
      generalize upd H L1 (.lst ((zs.drop a).map fun z => V.ref z.1)) = H0 at s0 i1
      walk_at "go"
      rw [e2]
      refine g_slL (SqL.of (s0 _ _ wk.at_)) fun L3 hL3 => ?_
      rw [cut_to zs _ (by omega)]
      have s2 := same_new (o := .lst ((zs.take (p + 1)).map fun z => V.ref z.1)) hL3
      have i2 := upd_same (H := H0) (a := L3) (o := .lst ((zs.take (p + 1)).map fun z => V.ref z.1))
      generalize upd H0 L3 (.lst ((zs.take (p + 1)).map fun z => V.ref z.1)) = H2 at s2 i2
      refine ⟨L1, L3, _, _, rfl, rfl, s2 _ _ i1, i2, by rw [sizeLine_eq, List.length_map, List.length_map, List.length_drop, List.length_take]; omega, fun L2 hL2 => ?_⟩
      rw [← List.map_append, ← gg]
      have s1 := (s0.trans s2).trans (same_new (o := .lst ((gapA zs a p).map fun z => V.ref z.1)) hL2)
      have w1 := tail _ L2 s1 upd_same
      generalize upd H2 L2 (.lst ((gapA zs a p).map fun z => V.ref z.1)) = H1 at s1 w1
      walk_at "go"
      refine w_lcList (SqL.of w1.at_) (fun D i H' => Same H1 H' ∧ H' D = some (.lst ((((gapA zs a p).take i).map fun z => z.2.1).map V.int))) (fun D hD => ⟨same_new hD, upd_same⟩) (fun D i H' hD _ h => SqL.of ((h.1) _ _ w1.at_)) (fun D i y H' hD hy h => ?_) (fun D5 H5 hD5 h => ?_)
      · obtain ⟨z, hz, rfl⟩ := zs_at hy
        have il := (List.getElem?_eq_some_iff.mp hz).1
        walk_at "go"
        refine ⟨rfl, ?_⟩
        walk_at "go"
        refine g_ixT (SqT.of ((h.1) _ _ (w1.own z (List.mem_of_getElem? hz)))) rfl ?_
        exact ⟨_, h.2, by rw [sizeLine_eq, List.length_map, List.length_map]; have := List.length_take_le i (gapA zs a p); omega, Wd.Same.mut h.1 hD, by rw [upd_same, take_snocM _ hz, List.map_append]; rfl⟩
      obtain ⟨s5, e5⟩ := h
      rw [List.length_map, List.take_length] at e5
      walk_at "go"
      refine g_sum (SqL.of e5) ?_
      walk_at "go"
      refine w_lcList (SqL.of (s5 _ _ w1.at_)) (fun D i H' => Same H5 H' ∧ H' D = some (.lst ((((gapA zs a p).take i).map fun z => z.2.2).map V.int))) (fun D hD => ⟨same_new hD, upd_same⟩) (fun D i H' hD _ h => SqL.of ((Same.trans s5 h.1) _ _ w1.at_)) (fun D i y H' hD hy h => ?_) (fun D6 H6 hD6 h => ?_)
      · obtain ⟨z, hz, rfl⟩ := zs_at hy
        have il := (List.getElem?_eq_some_iff.mp hz).1
        walk_at "go"
        refine ⟨rfl, ?_⟩
        walk_at "go"
        refine g_ixT (SqT.of ((Same.trans s5 h.1) _ _ (w1.own z (List.mem_of_getElem? hz)))) rfl ?_
        exact ⟨_, h.2, by rw [sizeLine_eq, List.length_map, List.length_map]; have := List.length_take_le i (gapA zs a p); omega, Wd.Same.mut h.1 hD, by rw [upd_same, take_snocM _ hz, List.map_append]; rfl⟩
      obtain ⟨s6, e6⟩ := h
      rw [List.length_map, List.take_length] at e6
      walk_at "go"
      refine g_sum (SqL.of e6) ?_
      walk_at "go"
      intro t ht
      have ea : ((gapA zs a p).map fun z => z.2.1).sum = sumA ((gapA zs a p).map (·.2)) := by unfold sumA; rw [List.map_map]; rfl
      have eb : ((gapA zs a p).map fun z => z.2.2).sum = sumB ((gapA zs a p).map (·.2)) := by unfold sumB; rw [List.map_map]; rfl
      rw [ea, eb]
      exact q _ t (((s1.trans s5).trans s6).trans (same_new ht)) upd_same

abbrev s_law_in : Stmt := top 32
theorem sc_law_in : FnScope ["_law_window", "_law_gap_here"] ["_law_window", "_law_gap_here"] (C8.fnScope s_law_in) := C8.fnScope_by (by decide +kernel)
def sp_in (K : PySem.W.Frag) : Sp := fun vs H Q _ => ∃ (W G : Addr) (lo hi a c : Int), vs = [.ref W, .ref G] ∧ SqT K H W [.int lo, .int hi] ∧ SqT K H G [.int a, .int c] ∧ Q (.bl (decide (lo ≤ a ∧ c ≤ hi))) H
theorem ok_in (T : TxtW K mg CN) {f : Addr} {fd : FuncData} (D : C8.Def K mg "_law_in" s_law_in f fd) (b : Binds K fd ["_law_window", "_law_gap_here"] []) : C8.Cal P w K mg base 1 "_law_in" (sp_in K) [] := by
  refine C8.cal0 D b .nil sc_law_in (fun vs H Q E h => ?_) fun cdv A outer s H vs Q E hr h => ?_
  · obtain ⟨W, G, lo, hi, a, c, rfl, _⟩ := h; rfl
  · obtain ⟨W, G, lo, hi, a, c, rfl, hW, hG, q⟩ := h
    have nd := sc_law_in.nd
    refine ⟨_, (pss_one (ps_ret (pe_and (pe_cmpR op_ge (pe_ix (r := rIxT K) ix_tup (pv 1) pe_int (fun _ _ => rfl)) (pe_ix (r := rIxT K) ix_tup (pv 0) pe_int (fun _ _ => rfl)) (nomark _)) (pe_one (pe_cmpR op_le (pe_ix (r := rIxT K) ix_tup (pv 1) pe_int (fun _ _ => rfl)) (pe_ix (r := rIxT K) ix_tup (pv 0) pe_int (fun _ _ => rfl)) (nomark _)))))), ?_⟩
    walk_at "go"
    refine g_ixT hG rfl ?_
    walk_at "go"
    refine g_ixT hW rfl ?_
    walk_at "go"
    refine g_ite (fun h1 => ?_) (fun h1 => ?_)
    · walk_at "go"
      refine g_ixT hG rfl ?_
      walk_at "go"
      refine g_ixT hW rfl ?_
      walk_at "go"
      have e : decide (lo ≤ a ∧ c ≤ hi) = decide (c ≤ hi) := by
        by_cases h2 : c ≤ hi
        · rw [decide_eq_true h2, decide_eq_true ⟨h1, h2⟩]
        · rw [decide_eq_false h2, decide_eq_false (fun z => h2 z.2)]
      rw [← e]
      exact q
    · rw [decide_eq_false (fun z => h1 z.1)] at q
      walk_at "go"
      exact q
end
end K08
namespace K08
open PySem PySem.Spec PyProof.Rows L2 Wd
/-! ### the order of rows -/
abbrev toI (r : List Nat) : List Int := r.map fun (n : Nat) => (n : Int)
def lx (a b : List Nat) : Prop := toI a < toI b
theorem lex_tri : ∀ (a b : List Int), ¬ a < b → ¬ b < a → a = b
  | [], [], _, _ => rfl
  | [], y :: ys, h, _ => absurd (List.Lex.nil : List.Lex (· < ·) [] (y :: ys)) h
  | x :: xs, [], _, h => absurd (List.Lex.nil : List.Lex (· < ·) [] (x :: xs)) h
  | x :: xs, y :: ys, h1, h2 => by
    by_cases c1 : x < y
    · exact absurd (List.Lex.rel c1 : List.Lex (· < ·) (x :: xs) (y :: ys)) h1
    · by_cases c2 : y < x
      · exact absurd (List.Lex.rel c2 : List.Lex (· < ·) (y :: ys) (x :: xs)) h2
      · have e : x = y := by omega
        subst e
        rw [lex_tri xs ys (fun z => h1 (List.Lex.cons z)) (fun z => h2 (List.Lex.cons z))]
theorem lex_asym : ∀ {a b : List Int}, a < b → ¬ b < a
  | _, _, .nil, h => by cases h
  | _, _, .cons h, h2 => by
    cases h2 with
    | cons h3 => exact lex_asym h h3
    | rel h3 => omega
  | _, _, .rel h, h2 => by
    cases h2 with
    | cons h3 => omega
    | rel h3 => omega
theorem lex_irr (a : List Int) : ¬ a < a := fun h => lex_asym h h
theorem lex_app : ∀ {a b : List Int}, a < b → a.length = b.length → ∀ c d : List Int, a ++ c < b ++ d
  | _, _, .nil, e, _, _ => by cases e
  | _, _, .cons h, e, c, d => List.Lex.cons (lex_app h (Nat.succ.inj e) c d)
  | _, _, .rel h, _, _, _ => List.Lex.rel h
theorem lex_pre2 : ∀ (a : List Int) {c d : List Int}, c < d → a ++ c < a ++ d
  | [], _, _, h => h
  | x :: a, _, _, h => List.Lex.cons (lex_pre2 a h)
theorem toI_inj : ∀ {a b : List Nat}, toI a = toI b → a = b
  | [], [], _ => rfl
  | [], _ :: _, h => by simp at h
  | _ :: _, [], h => by simp at h
  | x :: a, y :: b, h => by
    have h1 : (x : Int) :: toI a = (y : Int) :: toI b := h
    have h' := List.cons.inj h1
    have := toI_inj h'.2
    have e : x = y := by have := h'.1; omega
    rw [e, this]
section
variable (lo hi : Int) (ws : List (Int × Int))
def atN (r : List Nat) (k : Nat) : Nat := (r[k]?).getD 0
def pathB (r : List Nat) : Bool := tim lo hi (ws.take (headN r + 1)) && (List.range (r.length - 1)).all fun i => fit lo hi ws (atN r (i + 1)) (atN r i)
def prevN (r : List Nat) (k : Nat) : Nat := if k = 0 then lastN r else atN r (k - 1)
def goodB (r : List Nat) : Bool := !r.isEmpty && (tim lo hi (ws.take (headN r + 1)) && (List.range r.length).all fun k => fit lo hi ws (atN r k) (prevN r k))
def rowsK : Nat → List (List Nat)
  | 0 => row1 lo hi ws
  | k + 1 => stepR lo hi ws (rowsK k)
def subsN : Nat → List (List Nat)
  | 0 => [[]]
  | n + 1 => subsN n ++ (subsN n).map fun r => r ++ [n]
end
theorem subs_len : ∀ n, (subsN n).length = 2 ^ n
  | 0 => rfl
  | n + 1 => by
    show (subsN n ++ (subsN n).map fun r => r ++ [n]).length = _
    rw [List.length_append, List.length_map, subs_len n, Nat.pow_succ]
    omega
theorem snoc_of {r : List Nat} (h : r ≠ []) : r = r.dropLast ++ [lastN r] := by
  have e := List.dropLast_concat_getLast h
  have : r.getLast h = lastN r := by
    have := lastN_at h
    rw [List.getElem?_eq_getElem (by have := List.length_pos_iff.mpr h; omega)] at this
    rw [List.getLast_eq_getElem]
    exact Option.some.inj this
  rw [this] at e
  exact e.symm
theorem pw_snoc {r : List Nat} {p : Nat} (h : (r ++ [p]).Pairwise (· < ·)) : r.Pairwise (· < ·) ∧ ∀ x ∈ r, x < p := by
  obtain ⟨h1, _, h3⟩ := List.pairwise_append.mp h
  exact ⟨h1, fun x hx => h3 x hx p (List.mem_singleton.mpr rfl)⟩
theorem subs_mem : ∀ {n : Nat} {r : List Nat}, r ∈ subsN n ↔ r.Pairwise (· < ·) ∧ ∀ x ∈ r, x < n
  | 0, r => by
    show r ∈ [[]] ↔ _
    rw [List.mem_singleton]
    constructor
    · rintro rfl; exact ⟨List.Pairwise.nil, fun x hx => nomatch hx⟩
    · rintro ⟨_, h⟩
      cases r with
      | nil => rfl
      | cons x xs => exact absurd (h x List.mem_cons_self) (Nat.not_lt_zero _)
  | n + 1, r => by
    show r ∈ subsN n ++ (subsN n).map (fun r => r ++ [n]) ↔ _
    rw [List.mem_append, subs_mem, List.mem_map]
    constructor
    · rintro (⟨h1, h2⟩ | ⟨r', h, rfl⟩)
      · exact ⟨h1, fun x hx => Nat.lt_succ_of_lt (h2 x hx)⟩
      · obtain ⟨h1, h2⟩ := subs_mem.mp h
        refine ⟨List.pairwise_append.mpr ⟨h1, List.pairwise_singleton _ _, fun a ha b hb => by rw [List.mem_singleton] at hb; rw [hb]; exact h2 a ha⟩, fun x hx => ?_⟩
        rw [List.mem_append, List.mem_singleton] at hx
        rcases hx with hx | rfl
        · exact Nat.lt_succ_of_lt (h2 x hx)
        · exact Nat.lt_succ_self _
    · rintro ⟨h1, h2⟩
      by_cases hn : n ∈ r
      · right
        have ne : r ≠ [] := fun z => by rw [z] at hn; cases hn
        have e := snoc_of ne
        rw [e] at h1
        obtain ⟨p1, p2⟩ := pw_snoc h1
        have lm := h2 _ (lastN_mem ne)
        have ln : lastN r = n := by
          have hn' := hn
          rw [e, List.mem_append, List.mem_singleton] at hn'
          rcases hn' with hn' | hn'
          · have := p2 n hn'; omega
          · exact hn'.symm
        refine ⟨r.dropLast, subs_mem.mpr ⟨p1, fun x hx => by have := p2 x hx; omega⟩, ?_⟩
        rw [← ln]; exact e.symm
      · left
        exact ⟨h1, fun x hx => by have := h2 x hx; have : x ≠ n := fun z => hn (z ▸ hx); omega⟩
section
variable {lo hi : Int} {ws : List (Int × Int)}
theorem headN_snoc {r : List Nat} (h : r ≠ []) (p : Nat) : headN (r ++ [p]) = headN r := by
  unfold headN
  rw [List.getElem?_append_left (List.length_pos_iff.mpr h)]
theorem atN_left {r : List Nat} {p k : Nat} (h : k < r.length) : atN (r ++ [p]) k = atN r k := by
  unfold atN
  rw [List.getElem?_append_left h]
theorem atN_last {r : List Nat} {p : Nat} : atN (r ++ [p]) r.length = p := by
  unfold atN
  rw [List.getElem?_append_right (Nat.le_refl _), Nat.sub_self]; rfl
theorem path_snoc {r : List Nat} (h : r ≠ []) (p : Nat) : pathB lo hi ws (r ++ [p]) = (pathB lo hi ws r && fit lo hi ws p (lastN r)) := by
  have lp := List.length_pos_iff.mpr h
  unfold pathB
  rw [headN_snoc h, List.length_append, List.length_singleton, Nat.add_sub_cancel]
  have e : r.length = (r.length - 1) + 1 := by omega
  conv => lhs; rw [e, List.range_succ, List.all_append]
  have e1 : ((List.range (r.length - 1)).all fun i => fit lo hi ws (atN (r ++ [p]) (i + 1)) (atN (r ++ [p]) i)) = (List.range (r.length - 1)).all fun i => fit lo hi ws (atN r (i + 1)) (atN r i) := by
    rw [Bool.eq_iff_iff, List.all_eq_true, List.all_eq_true]
    constructor
    · intro h1 i hi'
      have := h1 i hi'
      rw [List.mem_range] at hi'
      rw [atN_left (by omega), atN_left (by omega)] at this
      exact this
    · intro h1 i hi'
      have := h1 i hi'
      rw [List.mem_range] at hi'
      rw [atN_left (by omega), atN_left (by omega)]
      exact this
  have e2 : ([r.length - 1].all fun i => fit lo hi ws (atN (r ++ [p]) (i + 1)) (atN (r ++ [p]) i)) = fit lo hi ws p (lastN r) := by
    rw [List.all_cons, List.all_nil, Bool.and_true, ← e, atN_last, atN_left (by omega)]
    rfl
  rw [e1, e2, Bool.and_assoc]
theorem good_iff {r : List Nat} (h : r ≠ []) : goodB lo hi ws r = (pathB lo hi ws r && closes lo hi ws r) := by
  have lp := List.length_pos_iff.mpr h
  have e : r.length = (r.length - 1) + 1 := by omega
  unfold goodB pathB
  have em : r.isEmpty = false := by
    cases r with
    | nil => exact absurd rfl h
    | cons _ _ => rfl
  rw [em]
  conv => lhs; rw [e, List.range_succ_eq_map, List.all_cons, List.all_map]
  have e1 : fit lo hi ws (atN r 0) (prevN r 0) = closes lo hi ws r := rfl
  have e2 : ((List.range (r.length - 1)).all ((fun k => fit lo hi ws (atN r k) (prevN r k)) ∘ Nat.succ)) = (List.range (r.length - 1)).all fun i => fit lo hi ws (atN r (i + 1)) (atN r i) := rfl
  rw [e1, e2, Bool.not_false, Bool.true_and, Bool.and_comm (closes lo hi ws r), ← Bool.and_assoc]
theorem rows_mem : ∀ {k : Nat} {r : List Nat}, r ∈ rowsK lo hi ws k ↔ Rw ws.length k r ∧ pathB lo hi ws r = true
  | 0, r => by
    show r ∈ row1 lo hi ws ↔ _
    constructor
    · intro h
      refine ⟨row1_rw r h, ?_⟩
      obtain ⟨p, hp, rfl⟩ := List.mem_map.mp h
      have := (first_mem.mp hp).2
      show (tim lo hi (ws.take (p + 1)) && true) = true
      rw [this]; rfl
    · rintro ⟨h1, h2⟩
      match r, h1, h2 with
      | [p], h1, h2 =>
        have h2' : (tim lo hi (ws.take (p + 1)) && true) = true := h2
        rw [Bool.and_true] at h2'
        exact List.mem_map.mpr ⟨p, first_mem.mpr ⟨h1.2.2 p (List.mem_singleton.mpr rfl), h2'⟩, rfl⟩
      | [], h1, _ => cases h1.1
      | _ :: _ :: _, h1, _ => have := h1.1; simp at this
  | k + 1, r => by
    show r ∈ stepR lo hi ws (rowsK lo hi ws k) ↔ _
    unfold stepR growN
    rw [List.mem_flatMap]
    constructor
    · rintro ⟨r0, h0, hr⟩
      obtain ⟨p, hp, rfl⟩ := List.mem_map.mp hr
      obtain ⟨w0, p0⟩ := rows_mem.mp h0
      refine ⟨w0.step hp, ?_⟩
      rw [path_snoc w0.ne, p0, (next_mem.mp hp).2.2]; rfl
    · rintro ⟨h1, h2⟩
      have e := snoc_of h1.ne
      have hl : r.dropLast.length = k + 1 := by rw [List.length_dropLast, h1.1]; rfl
      have ne : r.dropLast ≠ [] := fun z => by rw [z] at hl; cases hl
      have pw := h1.2.1
      rw [e] at pw
      obtain ⟨p1, p2⟩ := pw_snoc pw
      rw [e, path_snoc ne, Bool.and_eq_true] at h2
      have hm : ∀ x ∈ r.dropLast, x < ws.length := fun x hx => h1.2.2 x (List.dropLast_subset r hx)
      refine ⟨r.dropLast, rows_mem.mpr ⟨⟨hl, p1, hm⟩, h2.1⟩, List.mem_map.mpr ⟨lastN r, next_mem.mpr ⟨p2 _ (lastN_mem ne), h1.2.2 _ (lastN_mem h1.ne), h2.2⟩, e.symm⟩⟩
theorem rows_pw : ∀ k, (rowsK lo hi ws k).Pairwise lx
  | 0 => by
    show (row1 lo hi ws).Pairwise lx
    unfold row1 firsts
    rw [List.pairwise_map]
    refine ((ups_pw 0 ws.length).filter _).imp fun {a b} h => ?_
    exact (List.Lex.rel (show (a : Int) < (b : Int) by omega) : List.Lex (· < ·) [(a : Int)] [(b : Int)])
  | k + 1 => by
    show (stepR lo hi ws (rowsK lo hi ws k)).Pairwise lx
    unfold stepR
    rw [List.pairwise_flatMap]
    refine ⟨fun r hr => ?_, ?_⟩
    · unfold growN nexts
      rw [List.pairwise_map]
      refine ((ups_pw _ _).filter _).imp fun {a b} h => ?_
      unfold lx toI
      rw [List.map_append, List.map_append]
      exact lex_pre2 _ (List.Lex.rel (show (a : Int) < (b : Int) by omega))
    · refine List.Pairwise.imp_of_mem (fun {a b} ha hb h x hx y hy => ?_) (rows_pw k)
      obtain ⟨p, _, rfl⟩ := List.mem_map.mp hx
      obtain ⟨q, _, rfl⟩ := List.mem_map.mp hy
      unfold lx toI
      rw [List.map_append, List.map_append]
      exact lex_app h (by rw [List.length_map, List.length_map, (rows_mem.mp ha).1.1, (rows_mem.mp hb).1.1]) _ _
theorem rows_far {k : Nat} (h : ws.length ≤ k) : rowsK lo hi ws k = [] := by
  cases e : rowsK lo hi ws k with
  | nil => rfl
  | cons r rs =>
    have := (rows_mem.mp (show r ∈ rowsK lo hi ws k by rw [e]; exact List.mem_cons_self)).1.le
    omega
theorem rows_stay {k : Nat} (h : rowsK lo hi ws k = []) : ∀ j, rowsK lo hi ws (k + j) = []
  | 0 => h
  | j + 1 => by
    show stepR lo hi ws (rowsK lo hi ws (k + j)) = []
    rw [rows_stay h j]; rfl
theorem fw_some : ∀ {n k : Nat} {r : List Nat}, k + n = ws.length + 1 → fw lo hi ws n (rowsK lo hi ws k) = some r → ∃ j, k ≤ j ∧ r ∈ rowsK lo hi ws j ∧ closes lo hi ws r = true ∧ (∀ i, k ≤ i → i < j → ∀ r' ∈ rowsK lo hi ws i, closes lo hi ws r' = false) ∧ ∀ r' ∈ rowsK lo hi ws j, closes lo hi ws r' = true → ¬ lx r' r
  | 0, k, r, _, h => by cases h
  | n + 1, k, r, hk, h => by
    unfold fw at h
    by_cases c : rowsK lo hi ws k = []
    · rw [if_pos c] at h; cases h
    rw [if_neg c] at h
    cases hf : (rowsK lo hi ws k).find? (closes lo hi ws) with
    | some r0 =>
      rw [hf] at h
      cases h
      obtain ⟨hc, as, bs, hl, hno⟩ := List.find?_eq_some_iff_append.mp hf
      refine ⟨k, Nat.le_refl _, by rw [hl]; exact List.mem_append_right _ List.mem_cons_self, hc, fun i h1 h2 => by omega, fun r' hr' hc' => ?_⟩
      have pw := rows_pw (lo := lo) (hi := hi) (ws := ws) k
      rw [hl] at hr' pw
      rw [List.mem_append, List.mem_cons] at hr'
      rcases hr' with hr' | rfl | hr'
      · have := hno r' hr'; rw [hc'] at this; cases this
      · exact lex_irr _
      · have p2 := (List.pairwise_cons.mp (List.pairwise_append.mp pw).2.1).1 r' hr'
        exact lex_asym p2
    | none =>
      rw [hf] at h
      obtain ⟨j, h1, h2, h3, h4, h5⟩ := fw_some (n := n) (k := k + 1) (by omega) h
      refine ⟨j, by omega, h2, h3, fun i hi1 hi2 r' hr' => ?_, h5⟩
      by_cases e : i = k
      · subst e
        have := List.find?_eq_none.mp hf r' hr'
        cases hc : closes lo hi ws r' with
        | true => exact absurd hc this
        | false => rfl
      · exact h4 i (by omega) hi2 r' hr'
theorem fw_none : ∀ {n k : Nat}, k + n = ws.length + 1 → fw lo hi ws n (rowsK lo hi ws k) = none → ∀ j, k ≤ j → ∀ r ∈ rowsK lo hi ws j, closes lo hi ws r = false
  | 0, k, hk, _ => fun j hj r hr => by rw [rows_far (show ws.length ≤ j by omega)] at hr; cases hr
  | n + 1, k, hk, h => fun j hj r hr => by
    unfold fw at h
    by_cases c : rowsK lo hi ws k = []
    · have := rows_stay c (j - k)
      rw [show k + (j - k) = j by omega] at this
      rw [this] at hr; cases hr
    rw [if_neg c] at h
    cases hf : (rowsK lo hi ws k).find? (closes lo hi ws) with
    | some r0 => rw [hf] at h; cases h
    | none =>
      rw [hf] at h
      by_cases e : j = k
      · subst e
        have := List.find?_eq_none.mp hf r hr
        cases hc : closes lo hi ws r with
        | true => exact absurd hc this
        | false => rfl
      · exact fw_none (n := n) (k := k + 1) (by omega) h j (by omega) r hr
/-- less, by length and then as lists ascend -/
def before (a b : List Nat) : Prop := a.length < b.length ∨ (a.length = b.length ∧ lx a b)
theorem good_ne {r : List Nat} (h : goodB lo hi ws r = true) : r ≠ [] := fun z => by rw [z] at h; cases h
theorem good_row {r : List Nat} (h : goodB lo hi ws r = true) (hs : r ∈ subsN ws.length) : r ∈ rowsK lo hi ws (r.length - 1) ∧ closes lo hi ws r = true := by
  have ne := good_ne h
  have lp := List.length_pos_iff.mpr ne
  rw [good_iff ne, Bool.and_eq_true] at h
  obtain ⟨h1, h2⟩ := subs_mem.mp hs
  exact ⟨rows_mem.mpr ⟨⟨by omega, h1, h2⟩, h.1⟩, h.2⟩
theorem few_some {r : List Nat} (h : few lo hi ws = some r) : goodB lo hi ws r = true ∧ r ∈ subsN ws.length ∧ ∀ r' ∈ subsN ws.length, goodB lo hi ws r' = true → ¬ before r' r := by
  obtain ⟨j, _, h2, h3, h4, h5⟩ := fw_some (n := ws.length + 1) (k := 0) (Nat.zero_add _) h
  obtain ⟨w1, p1⟩ := rows_mem.mp h2
  refine ⟨by rw [good_iff w1.ne, p1, h3]; rfl, subs_mem.mpr ⟨w1.2.1, w1.2.2⟩, fun r' hs hg => ?_⟩
  obtain ⟨m1, c1⟩ := good_row hg hs
  have lp := List.length_pos_iff.mpr (good_ne hg)
  have l1 := w1.1
  rintro (hb | ⟨hb, hb2⟩)
  · have := h4 (r'.length - 1) (Nat.zero_le _) (by omega) r' m1
    rw [c1] at this; cases this
  · have e : r'.length - 1 = j := by omega
    rw [e] at m1
    exact h5 r' m1 c1 hb2
theorem few_none (h : few lo hi ws = none) : ∀ r ∈ subsN ws.length, goodB lo hi ws r = false := fun r hs => by
  cases hg : goodB lo hi ws r with
  | false => rfl
  | true =>
    obtain ⟨m1, c1⟩ := good_row hg hs
    have := fw_none (n := ws.length + 1) (k := 0) (Nat.zero_add _) h _ (Nat.zero_le _) r m1
    rw [c1] at this; cases this
theorem few_is {r0 : List Nat} (hg : goodB lo hi ws r0 = true) (hs : r0 ∈ subsN ws.length) (hm : ∀ r' ∈ subsN ws.length, goodB lo hi ws r' = true → ¬ before r' r0) : few lo hi ws = some r0 := by
  cases e : few lo hi ws with
  | none => rw [few_none e r0 hs] at hg; cases hg
  | some r =>
    obtain ⟨g1, s1, m1⟩ := few_some e
    have b1 := m1 r0 hs hg
    have b2 := hm r s1 g1
    have le : r.length = r0.length := by
      by_cases c1 : r.length < r0.length
      · exact absurd (.inl c1) b2
      · by_cases c2 : r0.length < r.length
        · exact absurd (.inl c2) b1
        · omega
    congr 1
    exact toI_inj (lex_tri _ _ (fun z => b2 (.inr ⟨le, z⟩)) (fun z => b1 (.inr ⟨le.symm, z⟩)))
end
end K08
namespace K08
open PySem PySem.Spec PyProof.Rows L2 Wd
theorem nI_toI (r : List Nat) : r.map nI = (toI r).map V.int := by rw [List.map_map]; rfl
section
variable {P : Program} {w : World} {K : PySem.W.Frag} {mg : Str → Option Value} {base : Heap} {CN CR : Addr}
theorem use_gap {L : Addr} {zs : List Wk} {one : Int} {a p : Nat} {H : Hp} {Q : VK} {E : XK} {vs : List V} (hv : vs = [.ref L, .int one, .int p]) (e : one + 1 = a) (wk : WkL H L zs) (ln : zs.length ≤ 10) (hp : p < zs.length) (ha : a ≤ zs.length)
    (k : ∀ H' t, Same H H' → H' t = some (.tup [.int (sumA (gapA (zs.map (·.2)) a p)), .int (sumB (gapA (zs.map (·.2)) a p))]) → Q (.ref t) H') : sp_gap K vs H Q E := ⟨L, zs, one, a, p, hv, e, wk, ln, hp, ha, k⟩
abbrev s_law_is_good : Stmt := top 33
theorem sc_law_is_good : FnScope ["_law_window", "_law_works_here", "_law_row", "_law_k"] ["_law_window", "_law_works_here", "_law_row"] (C8.fnScope s_law_is_good) := C8.fnScope_by (by decide +kernel)
def sp_is_good (K : PySem.W.Frag) : Sp := fun vs H Q _ => ∃ (W L A : Addr) (lo hi : Int) (zs : List Wk) (r : List Nat), vs = [.ref W, .ref L, .ref A] ∧ SqT K H W [.int lo, .int hi] ∧ WkL H L zs ∧ zs.length ≤ 10 ∧ H A = some (.lst (r.map nI)) ∧ (∀ x ∈ r, x < zs.length) ∧ r.length ≤ 100 ∧ ∀ H', Same H H' → Q (.bl (goodB lo hi (zs.map (·.2)) r)) H'
theorem ok_is_good (T : TxtW K mg CN) {f : Addr} {fd : FuncData} (D : C8.Def K mg "_law_is_good" s_law_is_good f fd) (b : Binds K fd ["_law_window", "_law_works_here", "_law_row"] []) (g_law_gap : C8.Cal P w K mg base 1 "_law_gap" (sp_gap K) []) (g_law_in : C8.Cal P w K mg base 1 "_law_in" (sp_in K) []) : C8.Cal P w K mg base 2 "_law_is_good" (sp_is_good K) [] := by
  refine C8.cal0 D b .nil sc_law_is_good (fun vs H Q E h => ?_) fun cdv A outer s H vs Q E hr h => ?_
  · obtain ⟨W, L, A, lo, hi, zs, r, rfl, _⟩ := h; rfl
  · obtain ⟨W, L, RA, lo, hi, zs, r, rfl, hW, wk, ln, hA, hx, rl, q⟩ := h
    have nd := sc_law_is_good.nd
    refine ⟨_, (pss_cons (ps_if (PW.pt (pw_or (pt_cmpR (r := rEqD K) (op_eqD hr.units) (pv 2) (pe_lst pa_nil) (nomark _)) (pw_or1 (pt_not (pt_val (C8.pe_c g_law_in hr (by first | decide | exact Nat.le_refl _ | omega) (by rfl) (pa_cons (pv 0) (pa_cons (C8.pe_c g_law_gap hr (by first | decide | exact Nat.le_refl _ | omega) (by rfl) (pa_cons (pv 1) (pa_cons (pe_op op_sub pe_int pe_int) (pa_cons (pe_ix (r := rIxL K) ix_list (pv 2) pe_int (fun _ _ => rfl)) pa_nil)))) pa_nil)))))))) (pss_one (ps_ret pe_bl)) pss_nil)
      (pss_cons (ps_for PassesOwn.never rfl (pi_range1 rfl T.n_range (pa_cons (pe_callB (r := Wd.rLen K) call_len1 (by rfl) T.n_len PySem.boot_len (pa_cons (pv 2) pa_nil)) pa_nil)) (pg_name (i := 3) nd rfl (Or.inl rfl)) (pss_one (ps_if (pt_not (pt_val (C8.pe_c g_law_in hr (by first | decide | exact Nat.le_refl _ | omega) (by rfl) (pa_cons (pv 0) (pa_cons (C8.pe_c g_law_gap hr (by first | decide | exact Nat.le_refl _ | omega) (by rfl) (pa_cons (pv 1) (pa_cons (pe_ix (r := rIxL K) ix_list (pv 2) (pe_op op_sub (pv 3) pe_int) (fun _ _ => rfl)) (pa_cons (pe_ix (r := rIxL K) ix_list (pv 2) (pv 3) (fun _ _ => rfl)) pa_nil)))) pa_nil))))) (pss_one (ps_ret pe_bl)) pss_nil)))
      (pss_one (ps_ret pe_bl)))), ?_⟩
    walk_at "go"
    intro l0 hl0
    have s0 := same_new (o := .lst []) hl0
    have e0 := upd_same (H := H) (a := l0) (o := .lst [])
    generalize upd H l0 (.lst []) = H0 at s0 e0
    have hA0 := s0 _ _ hA
    walk_at "go"
    refine g_eqLI (ns := toI r) (ms := []) (SqL.of (by rw [hA0, nI_toI])) (SqL.of e0) ?_
    walk_at "go"
    match r, hA, hx, rl, q, hA0 with
    | [], hA, hx, rl, q, hA0 =>
      refine g_ite (fun _ => ?_) (fun h => absurd rfl h)
      walk_at "go"
      exact q H0 s0
    | x0 :: r0, hA, hx, rl, q, hA0 =>
      generalize hr0 : x0 :: r0 = r at hA hx rl q hA0
      have ne : r ≠ [] := by rw [← hr0]; exact List.cons_ne_nil _ _
      have lp := List.length_pos_iff.mpr ne
      have h1 := headN_at ne
      have h2 := lastN_at ne
      have gd : goodB lo hi (zs.map (·.2)) r = (tim lo hi (gapA (zs.map (·.2)) 0 (headN r)) && (List.range r.length).all fun k => fit lo hi (zs.map (·.2)) (atN r k) (prevN r k)) := by
        unfold goodB
        have em : r.isEmpty = false := by rw [← hr0]; rfl
        rw [em, gapA_0]; rfl
      refine g_ite (fun h => absurd h (by rw [← hr0]; exact List.cons_ne_nil _ _)) (fun _ => ?_)
      walk_at "go"
      refine g_ixL (v := nI (headN r)) (SqL.of hA0) (at_of (j := 0) rfl (by rw [List.getElem?_map, h1]; rfl)) ?_
      walk_at "go"
      refine use_gap (a := 0) rfl (by decide) (wk.same s0) ln (hx _ (headN_mem ne)) (Nat.zero_le _) fun H1 t s1 et => ?_
      have s01 := s0.trans s1
      walk_at "go"
      refine ⟨W, t, lo, hi, _, _, rfl, tup_same s01 hW, SqT.of et, ?_⟩
      refine ⟨_, rfl, ?_⟩
      have td : decide (lo ≤ sumA (gapA (zs.map (·.2)) 0 (headN r)) ∧ sumB (gapA (zs.map (·.2)) 0 (headN r)) ≤ hi) = tim lo hi (gapA (zs.map (·.2)) 0 (headN r)) := rfl
      rw [td]
      cases ht : tim lo hi (gapA (zs.map (·.2)) 0 (headN r)) with
      | false =>
        rw [ht] at gd
        walk_at "go"
        rw [gd] at q
        exact q H1 s01
      | true =>
        rw [ht, Bool.true_and] at gd
        walk_at "go"
        have hA1 := s1 _ _ hA0
        refine g_len (.inl (SqL.of hA1)) ?_
        walk_at "go"
        rw [List.length_map]
        refine w_range (by omega) (by omega) (fun i σ H' => ∃ v3 : Option V, σ = [some (.ref W), some (.ref L), some (.ref RA), v3] ∧ Same H H' ∧ ∀ k, k < i → fit lo hi (zs.map (·.2)) (atN r k) (prevN r k) = true) ?_ ?_ ?_
        · exact ⟨_, rfl, s01, fun k hk => by omega⟩
        · rintro i σ H2 hi' ⟨v3, rfl, s2, al⟩
          have il : i < r.length := by omega
          have hA2 := s2 _ _ hA
          have hk : r[i]? = some (atN r i) := by unfold atN; rw [List.getElem?_eq_getElem il]; rfl
          have hkm : atN r i ∈ r := List.mem_of_getElem? hk
          have hpv : atI (r.map nI) ((i : Int) - 1) = some (nI (prevN r i)) ∧ prevN r i ∈ r := by
            unfold prevN
            by_cases c : i = 0
            · subst c
              rw [if_pos rfl]
              refine ⟨?_, lastN_mem ne⟩
              have : (((0 : Nat) : Int) - 1) = -1 := by decide
              rw [this]
              exact atI_back (by rw [List.length_map, List.getElem?_map, h2]; rfl)
            · rw [if_neg c]
              have pl : i - 1 < r.length := by omega
              have hk2 : r[i - 1]? = some (atN r (i - 1)) := by unfold atN; rw [List.getElem?_eq_getElem pl]; rfl
              exact ⟨at_of (j := i - 1) (by omega) (by rw [List.getElem?_map, hk2]; rfl), List.mem_of_getElem? hk2⟩
          walk_at "go"
          refine g_ixL (SqL.of hA2) hpv.1 ?_
          walk_at "go"
          refine g_ixL (v := nI (atN r i)) (SqL.of hA2) (at_of (j := i) rfl (by rw [List.getElem?_map, hk]; rfl)) ?_
          walk_at "go"
          refine use_gap (a := prevN r i + 1) rfl (by omega) (wk.same s2) ln (hx _ hkm) (hx _ hpv.2) fun H3 t3 s3 et3 => ?_
          have s23 := s2.trans s3
          walk_at "go"
          refine ⟨W, t3, lo, hi, _, _, rfl, tup_same s23 hW, SqT.of et3, ?_⟩
          refine ⟨_, rfl, ?_⟩
          have fd : decide (lo ≤ sumA (gapA (zs.map (·.2)) (prevN r i + 1) (atN r i)) ∧ sumB (gapA (zs.map (·.2)) (prevN r i + 1) (atN r i)) ≤ hi) = fit lo hi (zs.map (·.2)) (atN r i) (prevN r i) := by rw [gapA_L]; rfl
          rw [fd]
          cases hf : fit lo hi (zs.map (·.2)) (atN r i) (prevN r i) with
          | false =>
            walk_at "go"
            have g0 : goodB lo hi (zs.map (·.2)) r = false := by
              rw [gd]
              cases ha : (List.range r.length).all fun k => fit lo hi (zs.map (·.2)) (atN r k) (prevN r k) with
              | false => rfl
              | true =>
                have := List.all_eq_true.mp ha i (List.mem_range.mpr il)
                rw [hf] at this; cases this
            rw [g0] at q
            exact q H3 s23
          | true =>
            walk_at "go"
            refine ⟨_, rfl, s23, fun k hk' => ?_⟩
            by_cases c : k = i
            · subst c; exact hf
            · exact al k (by omega)
        · rintro σ H2 ⟨v3, rfl, s2, al⟩
          have et : ((r.length : Nat) : Int).toNat = r.length := by omega
          rw [et] at al
          walk_at "go"
          have g1 : goodB lo hi (zs.map (·.2)) r = true := by
            rw [gd, List.all_eq_true]
            intro k hk
            exact al k (List.mem_range.mp hk)
          rw [g1] at q
          exact q H2 s2
end
end K08
namespace K08
open PySem PySem.Spec PyProof.Rows L2 Wd
/-! ### pairs of a length and a row, sorted -/
abbrev rowD (r : List Nat) : PyData := .list ((toI r).map PyData.int)
abbrev lenD (r : List Nat) : PyData := .tuple [.int r.length, rowD r]
theorem alike_ints : ∀ xs ys : List Int, PySem.W.alikeAll (xs.map PyData.int) (ys.map PyData.int) = true
  | [], _ => by simp [PySem.W.alikeAll]
  | _ :: _, [] => by simp [PySem.W.alikeAll]
  | x :: xs, y :: ys => by simp [PySem.W.alikeAll, PySem.W.alike, alike_ints xs ys]
theorem alike_len (a b : List Nat) : PySem.W.alike (lenD a) (lenD b) = true := by
  have := alike_ints (toI a) (toI b)
  simp only [PySem.W.alike, PySem.W.alikeAll, Bool.true_and]
  rw [this]; rfl
theorem eqv_int (m n : Int) : PyData.eqv (.int m) (.int n) = decide (m = n) := by
  simp only [PyData.eqv]
  by_cases h : m = n <;> simp [h]
theorem lt_len (a b : List Nat) : PySem.W.dataLt (lenD a) (lenD b) = true → before a b := by
  intro h
  rw [PySem.W.dataLt_pair (by simp [PySem.W.alike]) (by have := alike_ints (toI a) (toI b); simp only [PySem.W.alike]; exact this), eqv_int, PySem.W.dataLt_int, PySem.W.dataLt_list] at h
  by_cases c : (a.length : Int) = (b.length : Int)
  · rw [if_pos (decide_eq_true c)] at h
    right
    refine ⟨by omega, ?_⟩
    rw [eqv_ints] at h
    by_cases c2 : toI a = toI b
    · rw [if_pos (decide_eq_true c2)] at h; cases h
    · rw [if_neg (by rw [decide_eq_false c2]; decide)] at h
      have h2 : PySem.W.rowLt ((toI a).map .int) ((toI b).map .int) = true := h
      rw [PySem.W.dataLt_ints] at h2
      show toI a < toI b
      exact of_decide_eq_true h2
  · rw [if_neg (by rw [decide_eq_false c]; decide)] at h
    left
    have := of_decide_eq_true h
    omega
theorem before_lt (a b : List Nat) (h : before a b) : PySem.W.dataLt (lenD a) (lenD b) = true := by
  rw [PySem.W.dataLt_pair (by simp [PySem.W.alike]) (by have := alike_ints (toI a) (toI b); simp only [PySem.W.alike]; exact this), eqv_int, PySem.W.dataLt_int, PySem.W.dataLt_list]
  rcases h with h | ⟨h1, h2⟩
  · rw [if_neg (by rw [decide_eq_false (by omega)]; decide)]
    exact decide_eq_true (by omega)
  · rw [if_pos (decide_eq_true (by omega)), eqv_ints]
    have ne : toI a ≠ toI b := fun z => by unfold lx at h2; rw [z] at h2; exact lex_irr _ h2
    rw [if_neg (by rw [decide_eq_false ne]; decide)]
    show PySem.W.rowLt ((toI a).map .int) ((toI b).map .int) = true
    rw [PySem.W.dataLt_ints]
    exact decide_eq_true h2
/-- a pair's address, its row's address, its row -/
abbrev Pr := Addr × Addr × List Nat
def prP (t : Pr) : V × PyData := (.ref t.1, lenD t.2.2)
theorem first_of_sorted {ts : List Pr} {p : V × PyData} {rest : List (V × PyData)} (h : (ts.map prP).mergeSort (PySem.W.dataLe false (·.2)) = p :: rest) : ∃ t ∈ ts, p = prP t ∧ ∀ u ∈ ts, ¬ before u.2.2 t.2.2 := by
  have pm : ((ts.map prP).mergeSort (PySem.W.dataLe false (·.2))).Perm (ts.map prP) := List.mergeSort_perm _ _
  have pw := PySem.W.sort_pairwise (PySem.W.sortLe_total _ _ _) (ts.map prP) (le := PySem.W.dataLe false (fun b : V × PyData => b.2))
  rw [h] at pm pw
  have hp : p ∈ ts.map prP := pm.mem_iff.mp List.mem_cons_self
  obtain ⟨t, ht, rfl⟩ := List.mem_map.mp hp
  refine ⟨t, ht, rfl, fun u hu hb => ?_⟩
  have hum : prP u ∈ prP t :: rest := pm.mem_iff.mpr (List.mem_map.mpr ⟨u, hu, rfl⟩)
  have hlt := before_lt _ _ hb
  rw [List.mem_cons] at hum
  rcases hum with e | hum
  · have e2 : lenD u.2.2 = lenD t.2.2 := congrArg Prod.snd e
    rw [e2] at hlt
    have := lt_len _ _ hlt
    rcases this with this | ⟨_, this⟩
    · omega
    · exact lex_irr _ this
  · have := (List.pairwise_cons.mp pw).1 _ hum
    have : (!PySem.W.dataLt (lenD u.2.2) (lenD t.2.2)) = true := this
    rw [hlt] at this; cases this
theorem sorted_nil {ts : List Pr} (h : (ts.map prP).mergeSort (PySem.W.dataLe false (·.2)) = []) : ts = [] := by
  have := congrArg List.length h
  rw [List.length_mergeSort, List.length_map] at this
  exact List.length_eq_zero_iff.mp this
theorem depth_len (r : List Nat) : (lenD r).depth ≤ 10 := by
  simp only [PyData.depth, PyData.depthAll, PySem.W.ke_depthAll]
  decide
theorem dall_len : ∀ ps : List (V × PyData), (∀ p ∈ ps, ∃ r, p.2 = lenD r) → PyData.canLayAll0 (ps.map (·.2)) = true ∧ PyData.depthAll (ps.map (·.2)) ≤ 10
  | [], _ => ⟨rfl, Nat.zero_le _⟩
  | p :: ps, h => by
    obtain ⟨r, e⟩ := h p List.mem_cons_self
    have ih := dall_len ps fun y hy => h y (List.mem_cons_of_mem _ hy)
    rw [List.map_cons, e]
    refine ⟨by simp only [PyData.canLayAll0, PyData.canLay0]; rw [PySem.W.ke_canLayAll0, ih.1]; rfl, ?_⟩
    have := depth_len r
    simp only [PyData.depthAll]
    omega
theorem shaped_len {ps : List (V × PyData)} (h : ∀ p ∈ ps, ∃ r, p.2 = lenD r) : SeqAt.shaped (.list (ps.map (·.2))) = true := by
  obtain ⟨h1, h2⟩ := dall_len ps h
  unfold SeqAt.shaped
  rw [Bool.and_eq_true]
  exact ⟨by simp only [PyData.canLay0]; exact h1, decide_eq_true (by simp only [PyData.depth]; omega)⟩
theorem dp_all {K : PySem.W.Frag} {H : Hp} : ∀ {ps : List (V × PyData)}, (∀ p ∈ ps, Dp K H p.1 p.2) → DpAll K H (ps.map (·.1)) (ps.map (·.2))
  | [], _ => .nil
  | p :: ps, h => .cons (h p List.mem_cons_self) (dp_all fun y hy => h y (List.mem_cons_of_mem _ hy))
section
variable {P : Program} {w : World} {K : PySem.W.Frag} {mg : Str → Option Value} {base : Heap} {CN CR : Addr}
abbrev s_law_best : Stmt := top 34
theorem sc_law_best : FnScope ["_law_window", "_law_works_here", "_law_rows", "_law_place", "_law_row", "_law_some"] ["_law_window", "_law_works_here"] (C8.fnScope s_law_best) := C8.fnScope_by (by decide +kernel)
def sp_best (K : PySem.W.Frag) : Sp := fun vs H Q _ => ∃ (W L : Addr) (lo hi : Int) (zs : List Wk), vs = [.ref W, .ref L] ∧ SqT K H W [.int lo, .int hi] ∧ WkL H L zs ∧ zs.length ≤ 10 ∧
  (few lo hi (zs.map (·.2)) = none → ∀ H', Same H H' → Q .non H') ∧ ∀ r, few lo hi (zs.map (·.2)) = some r → ∀ H' D, Same H H' → H D = none → H' D = some (.lst (r.map nI)) → Q (.ref D) H'
/-- pairs in a list, their rows made behind H0 -/
structure PrL (H0 H : Hp) (D : Addr) (ts : List Pr) : Prop where
  at_ : H D = some (.lst (ts.map fun t => V.ref t.1))
  own : ∀ t ∈ ts, H t.1 = some (.tup [.int t.2.2.length, .ref t.2.1]) ∧ H t.2.1 = some (.lst (t.2.2.map nI)) ∧ H0 t.2.1 = none
  ne : ∀ t ∈ ts, t.2.1 ≠ D
theorem ok_best (T : TxtW K mg CN) {f : Addr} {fd : FuncData} (D : C8.Def K mg "_law_best" s_law_best f fd) (b : Binds K fd ["_law_window", "_law_works_here"] []) (g_law_is_good : C8.Cal P w K mg base 2 "_law_is_good" (sp_is_good K) []) : C8.Cal P w K mg base 3 "_law_best" (sp_best K) [] := by
  refine C8.cal0 D b .nil sc_law_best (fun vs H Q E h => ?_) fun cdv A outer s H vs Q E hr h => ?_
  · obtain ⟨W, L, lo, hi, zs, rfl, _⟩ := h; rfl
  · obtain ⟨W, L, lo, hi, zs, rfl, hW, wk, ln, q1, q2⟩ := h
    have nd := sc_law_best.nd
    have p10 : ∀ i, i ≤ zs.length → 2 ^ i ≤ 1024 := fun i hi' => Nat.pow_le_pow_right (by decide) (show i ≤ 10 by omega)
    refine ⟨_, (pss_cons (ps_set (i := 2) nd rfl (Or.inl rfl) (pe_lst (pa_cons (pe_lst pa_nil) pa_nil)))
      (pss_cons (ps_for PassesOwn.never rfl (pi_range1 rfl T.n_range (pa_cons (pe_callB (r := Wd.rLen K) call_len1 (by rfl) T.n_len PySem.boot_len (pa_cons (pv 1) pa_nil)) pa_nil)) (pg_name (i := 3) nd rfl (Or.inr rfl)) (pss_one (ps_set (i := 2) nd rfl (Or.inl rfl) (pe_op op_cat (pv 2) (pe_lc (own := [("_law_row", 4)]) (g := gName 4) (tt := tYes) rfl nd (pi_list (pv 2)) (blkOk_by (N := ["_law_window", "_law_works_here", "_law_rows", "_law_place", "_law_row", "_law_some"]) (sc := C8.fnScope s_law_best) (by decide +kernel)) (fun _ _ _ _ _ => pg_name (i := 4) nd rfl (Or.inl rfl)) (fun _ _ _ _ _ => pts_nil) (fun _ _ _ _ _ => (pe_op op_cat (pv 4) (pe_lst (pa_cons (pv 3) pa_nil)))))))))
      (pss_cons (ps_set (i := 5) nd rfl (Or.inl rfl) (pe_callB (r := rSortD K) (cr_sortedD hr.units) (by rfl) T.n_sorted (by decide +kernel) (pa_cons (pe_lc (own := [("_law_row", 4)]) (g := gName 4) rfl nd (pi_list (pv 2)) (blkOk_by (N := ["_law_window", "_law_works_here", "_law_rows", "_law_place", "_law_row", "_law_some"]) (sc := C8.fnScope s_law_best) (by decide +kernel)) (fun _ _ _ _ _ => pg_name (i := 4) nd rfl (Or.inl rfl)) (fun _ _ _ _ _ => pts_one (pt_val (C8.pe_c g_law_is_good hr (by first | decide | exact Nat.le_refl _ | omega) (by rfl) (pa_cons (pv 0) (pa_cons (pv 1) (pa_cons (pv 4) pa_nil)))))) (fun _ _ _ _ _ => (pe_tup (pa_cons (pe_callB (r := Wd.rLen K) call_len1 (by rfl) T.n_len PySem.boot_len (pa_cons (pv 4) pa_nil)) (pa_cons (pv 4) pa_nil))))) pa_nil)))
      (pss_one (ps_ret (pe_ifExp (pt_cmpR (r := rNeD K) (op_neD hr.units) (pv 5) (pe_lst pa_nil) (nomark _)) (pe_ix (r := rIxT K) ix_tup (pe_ix (r := rIxL K) ix_list (pv 5) pe_int (fun _ _ => rfl)) pe_int (fun _ _ => rfl)) pe_non)))))), ?_⟩
    walk_at "go"
    intro l0 hl0
    have s0 := same_new (o := .lst []) hl0
    have e0 := upd_same (H := H) (a := l0) (o := .lst [])
    generalize upd H l0 (.lst []) = H0 at s0 e0
    walk_at "go"
    intro R0 hR0
    have s1 := s0.trans (same_new (o := .lst [.ref l0]) hR0)
    have rl0 : RowsL H (upd H0 R0 (.lst [.ref l0])) R0 [(l0, [])] := ⟨upd_same, fun r hr => by
      rw [List.mem_singleton] at hr
      subst hr
      exact ⟨same_new hR0 _ _ e0, hl0⟩⟩
    generalize upd H0 R0 (.lst [.ref l0]) = H1 at s1 rl0
    walk_at "go"
    refine g_len (.inl (SqL.of (s1 _ _ wk.at_))) ?_
    walk_at "go"
    rw [List.length_map]
    refine w_range (by omega) (by omega) (fun i σ H' => ∃ (RR : Addr) (rs : List (Addr × List Nat)) (v3 v4 v5 : Option V), σ = [some (.ref W), some (.ref L), some (.ref RR), v3, v4, v5] ∧ Same H H' ∧ RowsL H H' RR rs ∧ rs.map (·.2) = subsN i) ?_ ?_ ?_
    · exact ⟨R0, [(l0, [])], _, _, _, rfl, s1, rl0, rfl⟩
    · clear rl0 s1 hR0 e0 s0
      rintro i σ H2 hi' ⟨RR, rs, v3, v4, v5, rfl, s2, rl, er⟩
      have il : i < zs.length := by omega
      have lrs : rs.length ≤ 1024 := by have := congrArg List.length er; rw [List.length_map, subs_len] at this; have := p10 i (by omega); omega
      have lrs2 : rs.length + rs.length ≤ 1024 := by have := congrArg List.length er; rw [List.length_map, subs_len] at this; have := p10 (i + 1) il; rw [Nat.pow_succ] at this; omega
      walk_at "go"
      refine w_lcList (SqL.of rl.at_) (fun D j H' => Same H2 H' ∧ ∃ ys, RowsL H H' D ys ∧ ys.map (·.2) = ((rs.take j).map (·.2)).map (fun r => r ++ [i]) ∧ ∀ y ∈ ys, y.1 ≠ D) (fun D hD => ⟨same_new hD, [], ⟨upd_same, fun r hr => nomatch hr⟩, rfl, fun r hr => nomatch hr⟩) (fun D j H' hD _ h => SqL.of (h.1 _ _ rl.at_)) (fun D j y H' hD hy h => ?_) (fun D2 H3 hD2 h => ?_)
      · obtain ⟨r, hr', rfl⟩ := map_at2 hy
        obtain ⟨s3, ys, ry, ey, ny⟩ := h
        have rm := List.mem_of_getElem? hr'
        have jl := (List.getElem?_eq_some_iff.mp hr').1
        have ro := s3 _ _ (rl.own r rm).1
        have rsub : r.2 ∈ subsN i := by rw [← er]; exact List.mem_map.mpr ⟨r, rm, rfl⟩
        have r2l : r.2.length ≤ 1000 := by
          obtain ⟨h1, h2⟩ := subs_mem.mp rsub
          rcases up_len (a := 0) h1 (fun x hx => ⟨Nat.zero_le _, h2 x hx⟩) with q | q
          · omega
          · rw [q]; exact Nat.zero_le _
        have lys : ys.length ≤ 1024 := by
          have := congrArg List.length ey
          rw [List.length_map, List.length_map, List.length_map] at this
          have := List.length_take_le j rs
          omega
        walk_at "go"
        refine ⟨rfl, ?_⟩
        walk_at "go"
        intro M1 hM1
        have sM1 := same_new (o := .lst [nI i]) hM1
        have eM1 := upd_same (H := H') (a := M1) (o := .lst [nI i])
        generalize upd H' M1 (.lst [nI i]) = H4 at sM1 eM1
        refine ⟨r.1, M1, _, _, rfl, rfl, sM1 _ _ ro, eM1, by rw [sizeLine_eq, List.length_map, List.length_singleton]; omega, fun M hM => ?_⟩
        have sM := same_new (o := .lst (r.2.map nI ++ [nI i])) hM
        have ry4 := (ry.same sM1).same sM
        have nMD : M ≠ D := (ne_of_none (ry.same sM1).at_ hM).symm
        refine ⟨_, ry4.at_, by rw [sizeLine_eq, List.length_map]; omega, Wd.Same.mut ((s3.trans sM1).trans sM) hD, ys ++ [(M, r.2 ++ [i])], ry4.put (by rw [List.map_append]; exact upd_same) (Wd.Same.back ((s2.trans s3).trans sM1) hM) nMD ny, ?_, fun y hy => ?_⟩
        · rw [List.map_append, ey, take_snocM _ hr', List.map_append]; rfl
        · rw [List.mem_append, List.mem_singleton] at hy
          rcases hy with hy | rfl
          · exact ny y hy
          · exact nMD
      obtain ⟨s3, ys, ry, ey, _⟩ := h
      rw [List.length_map, List.take_length] at ey
      have lys : ys.length = rs.length := by have := congrArg List.length ey; rw [List.length_map, List.length_map, List.length_map] at this; exact this
      have rl3 := rl.same s3
      refine ⟨RR, D2, _, _, rfl, rfl, rl3.at_, ry.at_, by rw [sizeLine_eq, List.length_map, List.length_map]; omega, fun RR2 hRR2 => ?_⟩
      have s4 := same_new (o := .lst ((rs.map fun r => V.ref r.1) ++ ys.map fun r => V.ref r.1)) hRR2
      walk_at "go"
      refine ⟨RR2, rs ++ ys, _, _, _, rfl, (s2.trans s3).trans s4, ⟨by rw [upd_same, List.map_append], fun r hr => ?_⟩, ?_⟩
      · rw [List.mem_append] at hr
        rcases hr with hr | hr
        · exact ((rl3.same s4).own r hr)
        · exact ((ry.same s4).own r hr)
      · rw [List.map_append, ey, er]; rfl
    · clear rl0 s1 hR0 e0 s0
      rintro σ H2 ⟨RR, rs, v3, v4, v5, rfl, s2, rl, er⟩
      have et : ((zs.length : Nat) : Int).toNat = zs.length := by omega
      rw [et] at er
      have lrs : rs.length ≤ 1024 := by have := congrArg List.length er; rw [List.length_map, subs_len] at this; have := p10 zs.length (Nat.le_refl _); omega
      have wk2 := wk.same s2
      walk_at "go"
      refine w_lcList (SqL.of rl.at_) (fun D j H' => Same H2 H' ∧ ∃ ts, PrL H H' D ts ∧ ts.map (·.2.2) = ((rs.take j).map (·.2)).filter (goodB lo hi (zs.map (·.2))) ∧ ts.length ≤ j) (fun D hD => ⟨same_new hD, [], ⟨upd_same, (fun r hr => nomatch hr), fun r hr => nomatch hr⟩, rfl, Nat.le_refl _⟩) (fun D j H' hD _ h => SqL.of (h.1 _ _ rl.at_)) (fun D j y H' hD hy h => ?_) (fun D2 H3 hD2 h => ?_)
      · obtain ⟨r, hr', rfl⟩ := map_at2 hy
        obtain ⟨s3, ts, pt, ey, lt⟩ := h
        have rm := List.mem_of_getElem? hr'
        have jl := (List.getElem?_eq_some_iff.mp hr').1
        have ro := s3 _ _ (rl.own r rm).1
        have rsub : r.2 ∈ subsN zs.length := by rw [← er]; exact List.mem_map.mpr ⟨r, rm, rfl⟩
        obtain ⟨rp1, rp2⟩ := subs_mem.mp rsub
        have r2l : r.2.length ≤ 100 := by
          rcases up_len (a := 0) rp1 (fun x hx => ⟨Nat.zero_le _, rp2 x hx⟩) with q | q
          · omega
          · rw [q]; exact Nat.zero_le _
        have ex := filter_snoc (goodB lo hi (zs.map (·.2))) ((rs.take j).map (·.2)) r.2
        rw [← take_snocM (fun x : Addr × List Nat => x.2) hr'] at ex
        walk_at "go"
        refine ⟨rfl, ?_⟩
        walk_at "go"
        refine ⟨W, L, r.1, lo, hi, zs, r.2, rfl, tup_same (s2.trans s3) hW, wk2.same s3, ln, ro, rp2, r2l, fun H4 s4 => ?_⟩
        refine ⟨_, rfl, ?_⟩
        cases hg : goodB lo hi (zs.map (·.2)) r.2 with
        | false =>
          rw [hg, if_neg (by decide), List.append_nil] at ex
          walk_at "go"
          exact ⟨s3.trans s4, ts, ⟨s4 _ _ pt.at_, fun t ht => ⟨s4 _ _ (pt.own t ht).1, s4 _ _ (pt.own t ht).2.1, (pt.own t ht).2.2⟩, pt.ne⟩, by rw [ex]; exact ey, by omega⟩
        | true =>
          rw [if_pos hg] at ex
          walk_at "go"
          refine g_len (.inl (SqL.of (s4 _ _ ro))) ?_
          walk_at "go"
          rw [List.length_map]
          intro t ht
          have st := same_new (o := .tup [.int (r.2.length : Nat), .ref r.1]) ht
          have sA := (s3.trans s4).trans st
          have s4t := s4.trans st
          refine ⟨_, s4t _ _ pt.at_, by rw [sizeLine_eq, List.length_map]; omega, Wd.Same.mut sA hD, ts ++ [(t, r.1, r.2)], ⟨by rw [upd_same, List.map_append]; rfl, fun u hu => ?_, fun u hu => ?_⟩, by rw [List.map_append, ey, ex]; rfl, by rw [List.length_append, List.length_singleton]; omega⟩
          have nrD : r.1 ≠ D := fun z => by have := (rl.own r rm).1; rw [z, hD] at this; cases this
          · rw [List.mem_append, List.mem_singleton] at hu
            rcases hu with hu | rfl
            · obtain ⟨o1, o2, o3⟩ := pt.own u hu
              have n1 : u.1 ≠ D := ne_of o1 pt.at_ (fun z => nomatch z)
              exact ⟨by rw [upd_ne n1]; exact s4t _ _ o1, by rw [upd_ne (pt.ne u hu)]; exact s4t _ _ o2, o3⟩
            · have n1 : t ≠ D := (ne_of_none (s4 _ _ pt.at_) ht).symm
              exact ⟨by rw [upd_ne n1]; exact upd_same, by rw [upd_ne nrD]; exact s4t _ _ ro, (rl.own r rm).2⟩
          · rw [List.mem_append, List.mem_singleton] at hu
            rcases hu with hu | rfl
            · exact pt.ne u hu
            · exact fun z => by have := (rl.own r rm).1; rw [z, hD] at this; cases this
      obtain ⟨s3, ts, pt, ey, lt⟩ := h
      rw [List.length_map, List.take_length, er] at ey
      have dp : ∀ (H' : Hp), Same H3 H' → ∀ p ∈ ts.map prP, Dp K H' p.1 p.2 := fun H' s' p hp => by
        obtain ⟨t, ht, rfl⟩ := List.mem_map.mp hp
        obtain ⟨o1, o2, o3⟩ := pt.own t ht
        rw [nI_toI] at o2
        exact .tup (SqT.of (s' _ _ o1)) (.cons (.int _) (.cons (dp_ints (SqL.of (s' _ _ o2))) .nil))
      have dl : ∀ p ∈ ts.map prP, ∃ r, p.2 = lenD r := fun p hp => by
        obtain ⟨t, ht, rfl⟩ := List.mem_map.mp hp
        exact ⟨t.2.2, rfl⟩
      walk_at "go"
      refine ⟨D2, ts.map prP, rfl, SqL.of (by rw [List.map_map]; exact pt.at_), dp H3 (fun _ _ h => h), fun d hd d' hd' => ?_, .inl fun d hd => ?_, fun p hp => ?_, fun SL hSL => ?_⟩
      · obtain ⟨p, hp, rfl⟩ := List.mem_map.mp hd
        obtain ⟨p', hp', rfl⟩ := List.mem_map.mp hd'
        obtain ⟨r, e⟩ := dl p hp
        obtain ⟨r', e'⟩ := dl p' hp'
        rw [e, e']; exact alike_len r r'
      · obtain ⟨p, hp, rfl⟩ := List.mem_map.mp hd
        obtain ⟨r, e⟩ := dl p hp
        exact ⟨_, _, e⟩
      · obtain ⟨r, e⟩ := dl p hp
        rw [e]; exact depth_len r
      have pm : ((ts.map prP).mergeSort (PySem.W.dataLe false (·.2))).Perm (ts.map prP) := List.mergeSort_perm _ _
      have fs := fun p rest => first_of_sorted (ts := ts) (p := p) (rest := rest)
      have sn := @sorted_nil ts
      generalize (ts.map prP).mergeSort (PySem.W.dataLe false (·.2)) = ss at pm fs sn ⊢
      have sS := same_new (o := .lst (ss.map (·.1))) hSL
      have eS := upd_same (H := H3) (a := SL) (o := .lst (ss.map (·.1)))
      generalize upd H3 SL (.lst (ss.map (·.1))) = H4 at sS eS
      walk_at "go"
      intro l5 hl5
      have s5 := same_new (o := .lst []) hl5
      have e5 := upd_same (H := H4) (a := l5) (o := .lst [])
      generalize upd H4 l5 (.lst []) = H5 at s5 e5
      have s35 := sS.trans s5
      have sF := (s2.trans s3).trans s35
      refine ⟨.list (ss.map (·.2)), .list [], .lst (SqL.of (s5 _ _ eS)) (dp_all fun p hp => dp H5 s35 p (pm.mem_iff.mp hp)), .lst (SqL.of e5) .nil, shaped_len fun p hp => dl p (pm.mem_iff.mp hp), by decide, ?_⟩
      rcases ss with _ | ⟨p0, rest⟩
      · have t0 := sn rfl
        have en : few lo hi (zs.map (·.2)) = none := by
          cases e : few lo hi (zs.map (·.2)) with
          | none => rfl
          | some r =>
            obtain ⟨g1, m1, _⟩ := few_some e
            rw [List.length_map] at m1
            have : r ∈ (subsN zs.length).filter (goodB lo hi (zs.map (·.2))) := List.mem_filter.mpr ⟨m1, g1⟩
            rw [← ey, t0] at this
            cases this
        have ev : PyData.eqv (.list (([] : List (V × PyData)).map (·.2))) (.list []) = true := by simp [PyData.eqv, PyData.eqvAll]
        rw [ev]
        walk_at "go"
        exact q1 en _ sF
      · obtain ⟨t, ht, rfl, mn⟩ := fs _ _ rfl
        obtain ⟨o1, o2, o3⟩ := pt.own t ht
        have ev : PyData.eqv (.list ((prP t :: rest).map (·.2))) (.list []) = false := by simp [PyData.eqv, PyData.eqvAll]
        rw [ev]
        have tm : t.2.2 ∈ (subsN zs.length).filter (goodB lo hi (zs.map (·.2))) := by rw [← ey]; exact List.mem_map.mpr ⟨t, ht, rfl⟩
        obtain ⟨m1, g1⟩ := List.mem_filter.mp tm
        have ef : few lo hi (zs.map (·.2)) = some t.2.2 := few_is g1 (by rw [List.length_map]; exact m1) fun r' hs' hg' hb => by
          rw [List.length_map] at hs'
          have : r' ∈ ts.map (·.2.2) := by rw [ey]; exact List.mem_filter.mpr ⟨hs', hg'⟩
          obtain ⟨u, hu, rfl⟩ := List.mem_map.mp this
          exact mn u hu hb
        walk_at "go"
        refine g_ixL (v := .ref t.1) (SqL.of (s5 _ _ eS)) (at_of (j := 0) rfl rfl) ?_
        walk_at "go"
        refine g_ixT (SqT.of (s35 _ _ o1)) rfl ?_
        walk_at "go"
        exact q2 _ ef _ t.2.1 sF o3 (s35 _ _ o2)
end
end K08
namespace K08
open PySem PySem.Spec PyProof.Rows L2 Wd
section
variable {P : Program} {w : World} {K : PySem.W.Frag} {mg : Str → Option Value} {base : Heap} {CW : Addr}
/-- the classes of the refusals, at their places -/
structure Refs (K : PySem.W.Frag) (mg : Str → Option Value) (CD : Addr) (cs : List Addr) : Prop where
  n_isinstance : mg "isinstance" = none
  n_ValueError : mg "ValueError" = none
  g_DogError : mg "DogError" = some (.ref CD)
  g_BadWindow : ∃ C, cs[0]? = some C ∧ mg "BadWindow" = some (.ref C)
  g_BadPlan : ∃ C, cs[1]? = some C ∧ mg "BadPlan" = some (.ref C)
  g_BadDelays : ∃ C, cs[2]? = some C ∧ mg "BadDelays" = some (.ref C)
  g_BadWorks : ∃ C, cs[3]? = some C ∧ mg "BadWorks" = some (.ref C)
  g_NoPats : ∃ C, cs[4]? = some C ∧ mg "NoPats" = some (.ref C)
  g_NoPlace : ∃ C, cs[5]? = some C ∧ mg "NoPlace" = some (.ref C)
  g_BadTasks : ∃ C, cs[6]? = some C ∧ mg "BadTasks" = some (.ref C)
  g_BadBeat : ∃ C, cs[7]? = some C ∧ mg "BadBeat" = some (.ref C)
  g_TooMuch : ∃ C, cs[8]? = some C ∧ mg "TooMuch" = some (.ref C)
/-- a refusal without a dict of its own, of the i-th class: an error of DogError's, a ValueError, and of none of the others -/
structure IsRef (K : PySem.W.Frag) (CD : Addr) (cs : List Addr) (i : Nat) (C : Addr) : Prop where
  cls : cs[i]? = some C
  exc : ExcC K C
  dog : PySem.W.exmOne K (.ref C) (.ref CD) = some true
  val : PySem.W.kitOne K (.ref C) (.type "ValueError") = some true
  own : ∀ (j : Nat) (C' : Addr), cs[j]? = some C' → PySem.W.kitOne K (.ref C) (.ref C') = some (decide (i = j))
def kindW : List Str := ["BadWindow", "BadPlan", "BadDelays", "BadWorks", "NoPats", "NoPlace", "BadTasks", "BadBeat", "TooMuch"]
/-- what is wished of an exception: a refusal, whose word is told -/
def EKind (K : PySem.W.Frag) (CD : Addr) (cs : List Addr) (Q : VK) : XK := fun cls d H => ∃ (i : Nat) (C : Addr) (x : Str), cls = .ref C ∧ d = none ∧ IsRef K CD cs i C ∧ kindW[i]? = some x ∧ ∀ H', Same H H' → Q (.str x) H'
def TKind (K : PySem.W.Frag) (CD : Addr) (cs : List Addr) : (XK → Hp → VK → Prop) → Hp → VK → Prop := fun tl H Q => tl (EKind K CD cs Q) H Q
abbrev s_law_kind : Stmt := top 28
theorem sc_law_kind : FnScope ["_law_work", "e", "_law_kinds", "_law_words"] ["_law_work"] (C8.fnScope s_law_kind) := C8.fnScope_by (by decide +kernel)
theorem kind_gives {X : Cx} {g CD : Addr} {cs : List Addr} {cdg : Value} {q : Str} (T : Refs X.K X.mg CD cs) :
    LamX.GivesTo X ["_law_work", "e", "_law_kinds", "_law_words"] "_law_kind" (C8.fnScope s_law_kind) g cdg (C8.fnBody s_law_kind) "_law_work" q (TKind X.K CD cs) := by
  intro f c' s H Q tl act hc h
  have nd := sc_law_kind.nd
  obtain ⟨C0, e0, m0⟩ := T.g_BadWindow
  obtain ⟨C1, e1, m1⟩ := T.g_BadPlan
  obtain ⟨C2, e2, m2⟩ := T.g_BadDelays
  obtain ⟨C3, e3, m3⟩ := T.g_BadWorks
  obtain ⟨C4, e4, m4⟩ := T.g_NoPats
  obtain ⟨C5, e5, m5⟩ := T.g_NoPlace
  obtain ⟨C6, e6, m6⟩ := T.g_BadTasks
  obtain ⟨C7, e7, m7⟩ := T.g_BadBeat
  obtain ⟨C8', e8, m8⟩ := T.g_TooMuch
  refine ⟨_, pss_one (ps_try_as (X := (cxOf C8.CX0 X.prog X.w X.K X.mg X.base ["_law_work", "e", "_law_kinds", "_law_words"] "_law_kind" (C8.fnScope s_law_kind) g cdg X.A X.stack s H C8.E0).nox) (c := .ref CD) (i := 1)
      (tb := fun W D σ H => ∃ Ech : XK, (∀ cls d σ' H', Ech cls d H' → σ'.length = 4 → W cls d σ' H') ∧ σ[0]? = some (some (.ref f)) ∧ H c' = some (LamX.CodeO c' q) ∧ tl Ech H D.rt) (Wout := fun _ _ _ _ => False)
      rfl rfl nd rfl rfl ⟨rfl, by decide, .inl T.g_DogError⟩ LamX.takes0 (fun W pn xe tk _ => ?_) (fun a oe cls d pn hz hf => (pss_cons (ps_set (i := 2) nd rfl (Or.inl rfl) (pe_lst (pa_cons (pe_callB (r := rIsE2 X.K cls d a) (call_isE2 hz hf) (by rfl) T.n_isinstance (by decide +kernel) (pa_cons (pv 1) (pa_cons (pe_glob (v := .ref C0) rfl m0 rfl) pa_nil))) (pa_cons (pe_callB (r := rIsE2 X.K cls d a) (call_isE2 hz hf) (by rfl) T.n_isinstance (by decide +kernel) (pa_cons (pv 1) (pa_cons (pe_glob (v := .ref C1) rfl m1 rfl) pa_nil))) (pa_cons (pe_callB (r := rIsE2 X.K cls d a) (call_isE2 hz hf) (by rfl) T.n_isinstance (by decide +kernel) (pa_cons (pv 1) (pa_cons (pe_glob (v := .ref C2) rfl m2 rfl) pa_nil))) (pa_cons (pe_callB (r := rIsE2 X.K cls d a) (call_isE2 hz hf) (by rfl) T.n_isinstance (by decide +kernel) (pa_cons (pv 1) (pa_cons (pe_glob (v := .ref C3) rfl m3 rfl) pa_nil))) pa_nil))))))
      (pss_cons (ps_set (i := 2) nd rfl (Or.inl rfl) (pe_op op_cat (pv 2) (pe_lst (pa_cons (pe_callB (r := rIsE2 X.K cls d a) (call_isE2 hz hf) (by rfl) T.n_isinstance (by decide +kernel) (pa_cons (pv 1) (pa_cons (pe_glob (v := .ref C4) rfl m4 rfl) pa_nil))) (pa_cons (pe_callB (r := rIsE2 X.K cls d a) (call_isE2 hz hf) (by rfl) T.n_isinstance (by decide +kernel) (pa_cons (pv 1) (pa_cons (pe_glob (v := .ref C5) rfl m5 rfl) pa_nil))) (pa_cons (pe_callB (r := rIsE2 X.K cls d a) (call_isE2 hz hf) (by rfl) T.n_isinstance (by decide +kernel) (pa_cons (pv 1) (pa_cons (pe_glob (v := .ref C6) rfl m6 rfl) pa_nil))) (pa_cons (pe_callB (r := rIsE2 X.K cls d a) (call_isE2 hz hf) (by rfl) T.n_isinstance (by decide +kernel) (pa_cons (pv 1) (pa_cons (pe_glob (v := .ref C7) rfl m7 rfl) pa_nil))) pa_nil)))))))
      (pss_cons (ps_expr (pe_bmK (K := X.K) rfl PySem.F.plainAttrs_list PySem.F.slot_list_append PySem.F.type_list_append mt_append (pv 2) (pa_cons (pe_callB (r := rIsE2 X.K cls d a) (call_isE2 hz hf) (by rfl) T.n_isinstance (by decide +kernel) (pa_cons (pv 1) (pa_cons (pe_glob (v := .ref C8') rfl m8 rfl) pa_nil))) pa_nil)))
      (pss_cons (ps_set (i := 3) nd rfl (Or.inl rfl) (pe_lst (pa_cons pe_str (pa_cons pe_str (pa_cons pe_str (pa_cons pe_str (pa_cons pe_str (pa_cons pe_str (pa_cons pe_str (pa_cons pe_str (pa_cons pe_str pa_nil)))))))))))
      (pss_cons (ps_if (PW.pt (pw_or (pt_cmpR op_ne (pe_bmK (K := X.K) rfl PySem.F.plainAttrs_list PySem.F.slot_list_count PySem.F.type_list_count (r := rCntV X.K) mt_lcountV (pv 2) (pa_cons pe_bl pa_nil)) pe_int (nomark _)) (pw_or1 (pt_not (pt_val (pe_callB (r := rIsE2 X.K cls d a) (call_isE2 hz hf) (by rfl) T.n_isinstance (by decide +kernel) (pa_cons (pv 1) (pa_cons (pe_bltn (v := .ty "ValueError") (by rfl) T.n_ValueError (by decide +kernel) rfl) pa_nil)))))))) (pss_one (ps_ret pe_str)) pss_nil)
      (pss_one (ps_ret (pe_ix (r := rIxL X.K) ix_list (pv 3) (pe_bmK (K := X.K) rfl PySem.F.plainAttrs_list PySem.F.slot_list_index PySem.F.type_list_index (r := rIndex X.K) mt_index (pv 2) (pa_cons pe_bl pa_nil)) (fun _ _ => rfl))))))))))), ?_⟩
  · refine ⟨fun pins s' σ H' D I h' => ?_⟩
    obtain ⟨Ech, hW, h1, h2, h3⟩ := h'
    exact (pss_one (ps_ret (act _ pn xe Ech _ _ (takes_len tk) hW))).run pins s' σ H' D I ⟨h1, h2, h3⟩
  · refine ⟨EKind X.K CD cs Q, fun cls d σ' H' hE hlen => ?_, rfl, hc, h⟩
    obtain ⟨i, C, x, rfl, rfl, R, hx, k⟩ := hE
    obtain ⟨v0, v1, v2, v3, rfl⟩ : ∃ v0 v1 v2 v3, σ' = [v0, v1, v2, v3] := by
      match σ', hlen with
      | [v0, v1, v2, v3], _ => exact ⟨v0, v1, v2, v3, rfl⟩
    refine ⟨true, R.dog, fun _ a ha => ?_, fun q => nomatch q⟩
    show tSeq _ _ _ _ _
    have isC : ∀ (j : Nat) (C' : Addr) (H : Hp) (Q : VK), cs[j]? = some C' → Q (.bl (decide (i = j))) H → rIsE2 X.K (.ref C) none a [.ref a, .ref C'] H Q := fun j C' H Q e q => ⟨C, .ref C', .ref C', _, rfl, rfl, R.exc, rfl, fun u r => r, R.own j C' e, q⟩
    walk_at "go"
    refine isC 0 _ _ _ e0 ?_
    walk_at "go"
    refine isC 1 _ _ _ e1 ?_
    walk_at "go"
    refine isC 2 _ _ _ e2 ?_
    walk_at "go"
    refine isC 3 _ _ _ e3 ?_
    walk_at "go"
    intro l1 hl1
    walk_at "go"
    refine isC 4 _ _ _ e4 ?_
    walk_at "go"
    refine isC 5 _ _ _ e5 ?_
    walk_at "go"
    refine isC 6 _ _ _ e6 ?_
    walk_at "go"
    refine isC 7 _ _ _ e7 ?_
    walk_at "go"
    intro l2 hl2
    have n12 : l1 ≠ l2 := fun e => by rw [← e, upd_same] at hl2; cases hl2
    walk_at "go"
    refine ⟨l1, l2, _, _, rfl, rfl, by rw [upd_ne n12, upd_same], upd_same, (by show 8 ≤ sizeLine; decide), fun l3 hl3 => ?_⟩
    walk_at "go"
    refine g_tyL upd_same ?_
    walk_at "go"
    refine isC 8 _ _ _ e8 ?_
    walk_at "go"
    refine g_append upd_same (by show 8 < 100000; decide) ?_
    walk_at "go"
    intro l4 hl4
    have n34 : l3 ≠ l4 := fun e => by rw [← e, upd_same] at hl4; cases hl4
    have S5 := ((((same_new (o := .lst [V.bl (decide (i = 0)), V.bl (decide (i = 1)), V.bl (decide (i = 2)), V.bl (decide (i = 3))]) hl1).trans (same_new (o := .lst [V.bl (decide (i = 4)), V.bl (decide (i = 5)), V.bl (decide (i = 6)), V.bl (decide (i = 7))]) hl2)).trans
      (Same.mut (same_new (o := .lst ([V.bl (decide (i = 0)), V.bl (decide (i = 1)), V.bl (decide (i = 2)), V.bl (decide (i = 3))] ++ [V.bl (decide (i = 4)), V.bl (decide (i = 5)), V.bl (decide (i = 6)), V.bl (decide (i = 7))])) hl3)
        (o := .lst ([V.bl (decide (i = 0)), V.bl (decide (i = 1)), V.bl (decide (i = 2)), V.bl (decide (i = 3))] ++ [V.bl (decide (i = 4)), V.bl (decide (i = 5)), V.bl (decide (i = 6)), V.bl (decide (i = 7))] ++ [V.bl (decide (i = 8))])) hl3)).trans (same_new (o := .lst (kindW.map V.str)) hl4))
    have S6 := same_new (o := .lst (kindW.map V.str)) hl4
    have a3 := S6 l3 _ upd_same
    have a4 : upd _ l4 (.lst (kindW.map V.str)) l4 = some (.lst (kindW.map V.str)) := upd_same (H := upd (upd (upd (upd H' l1 (.lst [V.bl (decide (i = 0)), V.bl (decide (i = 1)), V.bl (decide (i = 2)), V.bl (decide (i = 3))])) l2 (.lst [V.bl (decide (i = 4)), V.bl (decide (i = 5)), V.bl (decide (i = 6)), V.bl (decide (i = 7))])) l3
      (.lst ([V.bl (decide (i = 0)), V.bl (decide (i = 1)), V.bl (decide (i = 2)), V.bl (decide (i = 3))] ++ [V.bl (decide (i = 4)), V.bl (decide (i = 5)), V.bl (decide (i = 6)), V.bl (decide (i = 7))]))) l3
        (.lst ([V.bl (decide (i = 0)), V.bl (decide (i = 1)), V.bl (decide (i = 2)), V.bl (decide (i = 3))] ++ [V.bl (decide (i = 4)), V.bl (decide (i = 5)), V.bl (decide (i = 6)), V.bl (decide (i = 7))] ++ [V.bl (decide (i = 8))])))
    have hi : i < 9 := (List.getElem?_eq_some_iff.mp hx).1
    have c9 : i = 0 ∨ i = 1 ∨ i = 2 ∨ i = 3 ∨ i = 4 ∨ i = 5 ∨ i = 6 ∨ i = 7 ∨ i = 8 := by omega
    -- of the nine answers one is True, at i
    have fA : ([V.bl (decide (i = 0)), V.bl (decide (i = 1)), V.bl (decide (i = 2)), V.bl (decide (i = 3))] ++ [V.bl (decide (i = 4)), V.bl (decide (i = 5)), V.bl (decide (i = 6)), V.bl (decide (i = 7))] ++ [V.bl (decide (i = 8))]).all flatV = true := rfl
    have nA : ([V.bl (decide (i = 0)), V.bl (decide (i = 1)), V.bl (decide (i = 2)), V.bl (decide (i = 3))] ++ [V.bl (decide (i = 4)), V.bl (decide (i = 5)), V.bl (decide (i = 6)), V.bl (decide (i = 7))] ++ [V.bl (decide (i = 8))]).countP (fun z => eqV z (.bl true)) = 1 := by
      rcases c9 with rfl | rfl | rfl | rfl | rfl | rfl | rfl | rfl | rfl <;> rfl
    have iA : ([V.bl (decide (i = 0)), V.bl (decide (i = 1)), V.bl (decide (i = 2)), V.bl (decide (i = 3))] ++ [V.bl (decide (i = 4)), V.bl (decide (i = 5)), V.bl (decide (i = 6)), V.bl (decide (i = 7))] ++ [V.bl (decide (i = 8))])[i]? = some (V.bl true) := by
      rcases c9 with rfl | rfl | rfl | rfl | rfl | rfl | rfl | rfl | rfl <;> rfl
    have mA : ∀ (m : Nat) (z' : V), m < i → ([V.bl (decide (i = 0)), V.bl (decide (i = 1)), V.bl (decide (i = 2)), V.bl (decide (i = 3))] ++ [V.bl (decide (i = 4)), V.bl (decide (i = 5)), V.bl (decide (i = 6)), V.bl (decide (i = 7))] ++ [V.bl (decide (i = 8))])[m]? = some z' → eqV z' (.bl true) = false := by
      intro m z' hm e
      have c8 : m = 0 ∨ m = 1 ∨ m = 2 ∨ m = 3 ∨ m = 4 ∨ m = 5 ∨ m = 6 ∨ m = 7 := by omega
      rcases c8 with rfl | rfl | rfl | rfl | rfl | rfl | rfl | rfl <;> (cases (Option.some.inj e); rw [decide_eq_false (by omega)]; rfl)
    generalize ([V.bl (decide (i = 0)), V.bl (decide (i = 1)), V.bl (decide (i = 2)), V.bl (decide (i = 3))] ++ [V.bl (decide (i = 4)), V.bl (decide (i = 5)), V.bl (decide (i = 6)), V.bl (decide (i = 7))] ++ [V.bl (decide (i = 8))]) = A at S5 S6 a3 a4 fA nA iA mA ⊢
    walk_at "go"
    refine g_tyL a3 ?_
    walk_at "go"
    refine ⟨l3, A, .bl true, rfl, rfl, SqL.of a3, rfl, fA, ?_⟩
    rw [nA]
    walk_at "go"
    refine ⟨C, .ty "ValueError", .type "ValueError", true, rfl, rfl, R.exc, rfl, fun u r => r, R.val, ?_⟩
    walk_at "go"
    refine g_tyL a3 ?_
    walk_at "go"
    refine ⟨l3, A, .bl true, i, .bl true, rfl, rfl, SqL.of a3, rfl, fA, iA, rfl, mA, ?_⟩
    refine g_ixL (v := .str x) (SqL.of a4) (at_of (j := i) rfl (by rw [List.getElem?_map, hx]; rfl)) ?_
    exact k _ S5
end
end K08
namespace K08
open PySem PySem.Spec PyProof.Rows L2 Wd
theorem okd_ints {ns : List Int} (h : ns.length ≤ 100000) : OkD 1 (.list (ns.map PyData.int)) := .lst (by rw [List.length_map]; exact h) (fun d hd => by
  obtain ⟨z, _, rfl⟩ := List.mem_map.mp hd
  exact .int _)
/-- works as data -/
def wkD (zs : List Wk) : PyData := .list (zs.map fun z => .tuple [.int z.2.1, .int z.2.2])
theorem wk_can : ∀ zs : List Wk, PyData.canLayAll0 (zs.map fun z => PyData.tuple [.int z.2.1, .int z.2.2]) = true
  | [] => rfl
  | z :: zs => by simp [PyData.canLayAll0, PyData.canLay0, wk_can zs]
theorem wk_depth : ∀ zs : List Wk, PyData.depthAll (zs.map fun z => PyData.tuple [.int z.2.1, .int z.2.2]) ≤ 1
  | [] => Nat.zero_le _
  | z :: zs => by
    have := wk_depth zs
    simp only [List.map_cons, PyData.depthAll, PyData.depth]
    omega
theorem wk_shaped (zs : List Wk) : SeqAt.shaped (wkD zs) = true := by
  have := wk_depth zs
  unfold SeqAt.shaped wkD
  rw [Bool.and_eq_true]
  exact ⟨by simp only [PyData.canLay0]; exact wk_can zs, decide_eq_true (by simp only [PyData.depth]; omega)⟩
theorem wk_eqv (zs : List Wk) : PyData.eqv (wkD zs) (wkD zs) = true := by
  unfold wkD
  rw [PyData.eqv]
  induction zs with
  | nil => simp [PyData.eqvAll]
  | cons z zs ih => simp [PyData.eqvAll, PyData.eqv, ih]
theorem wk_dp {K : PySem.W.Frag} {H : Hp} {L : Addr} {zs : List Wk} (w : WkL H L zs) : Dp K H (.ref L) (wkD zs) := by
  refine .lst (SqL.of w.at_) ?_
  have own := w.own
  clear w
  induction zs with
  | nil => exact .nil
  | cons z zs ih => exact .cons (.tup (SqT.of (own z List.mem_cons_self)) (.cons (.int _) (.cons (.int _) .nil))) (ih fun y hy => own y (List.mem_cons_of_mem _ hy))
theorem g_neWk {K : PySem.W.Frag} {a b : Addr} {zs : List Wk} {H : Hp} {Q : VK} (h1 : WkL H a zs) (h2 : WkL H b zs) (q : Q (.bl false) H) : rNeD K (.ref a) (.ref b) H Q :=
  ⟨_, _, wk_dp h1, wk_dp h2, wk_shaped _, wk_shaped _, by rw [wk_eqv]; exact q⟩
theorem WkL.ext {H H' : Hp} {L : Addr} {zs : List Wk} (w : WkL H L zs) (e : LamX.ExtN H H') : WkL H' L zs := ⟨e _ _ w.at_ (fun _ z => nomatch z), fun z hz => e _ _ (w.own z hz) (fun _ z => nomatch z)⟩
theorem g_kind {K : PySem.W.Frag} {CD : Addr} {cs : List Addr} {tl : XK → Hp → VK → Prop} {H : Hp} {Q : VK} (h : tl (EKind K CD cs Q) H Q) : TKind K CD cs tl H Q := h
section
variable {P : Program} {w : World} {K : PySem.W.Frag} {mg : Str → Option Value} {base : Heap} {CN : Addr}
abbrev s_law : Stmt := top 35
theorem sc_law : FnScope ["_law_script", "_law_state", "_law_turn", "_law_works_here", "_law_window", "_law_due", "_law_handed", "_law_again", "_law_found"] ["_law_script"] (C8.fnScope s_law) := C8.fnScope_by (by decide +kernel)
def lamQ : Str := "law.<locals>.<lambda>"
def sp_law (K : PySem.W.Frag) (Pt : Addr) : Sp := fun vs H Q _ => ∃ (sc : Addr) (ns : List Int), vs = [.ref sc] ∧ SqL K H sc (ns.map V.int) ∧ ns.length ≤ 63 ∧ H Pt = some (.tbl #[]) ∧ ∀ H', Q (.bl true) H'
/-- what due holds -/
def dueV (H : Hp) (o : Option (List Nat)) (v : V) : Prop := match o with
  | none => v = .non
  | some r => ∃ Du, v = .ref Du ∧ H Du = some (.lst (r.map nI))
theorem dueV.same {H H' : Hp} {o : Option (List Nat)} {v : V} (h : dueV H o v) (e : Same H H') : dueV H' o v := by
  cases o with
  | none => exact h
  | some r => obtain ⟨Du, h1, h2⟩ := h; exact ⟨Du, h1, e _ _ h2⟩
theorem dueV.ext {H H' : Hp} {o : Option (List Nat)} {v : V} (h : dueV H o v) (e : LamX.ExtN H H') : dueV H' o v := by
  cases o with
  | none => exact h
  | some r => obtain ⟨Du, h1, h2⟩ := h; exact ⟨Du, h1, e _ _ h2 (fun _ z => nomatch z)⟩
theorem use_best {W L : Addr} {lo hi : Int} {zs : List Wk} {H : Hp} {Q : VK} {E : XK} {vs : List V} (hv : vs = [.ref W, .ref L]) (hW : SqT K H W [.int lo, .int hi]) (wk : WkL H L zs) (ln : zs.length ≤ 10) (k : ∀ H' v, Same H H' → dueV H' (few lo hi (zs.map (·.2))) v → Q v H') : sp_best K vs H Q E :=
  ⟨W, L, lo, hi, zs, hv, hW, wk, ln, fun e H' s => k H' .non s (by rw [e]; exact (rfl : V.non = V.non)), fun r e H' D s _ hd => k H' (.ref D) s (by rw [e]; exact ⟨D, rfl, hd⟩)⟩
theorem ok_law (T : TxtW K mg CN) {CD : Addr} {cs : List Addr} (R : Refs K mg CD cs) (RN : IsRef K CD cs 4 CN) {c Pt : Addr} (TB : LamX.TabB base mg c Pt)
    {f fk : Addr} {fdk : FuncData} {dV kV doc pm ct oc : Value} {an od : Option Addr} {osl : Array (Option Value)}
    (lk : K.lookup f = some ⟨oc, od, .func (PySem.W.fnOf "law" "law" (C8.fnArgs s_law) (C8.fnBody s_law) (C8.fnScope s_law) dV kV doc pm an (.ref c) ct), osl⟩) (hcd : PySem.W.codeIn K (.ref c) "law" = true)
    (Dk : C8.Def K mg "_law_kind" s_law_kind fk fdk) (bk : Binds K fdk ["_law_work"] [])
    (g_law_start : C8.Cal P w K mg base 1 "_law_start" (sp_start K) []) (g_law_works : C8.Cal P w K mg base 2 "_law_works" (sp_works K) []) (g_law_wide : C8.Cal P w K mg base 2 "_law_wide" (sp_wide K) [])
    (g_law_best : C8.Cal P w K mg base 3 "_law_best" (sp_best K) []) (g_law_same : C8.Cal P w K mg base 2 "_law_same" (sp_same K 2) []) (g_fewest : CalX P w K mg base 6 "fewest" (sp_fewest K CN)) :
    FnOk P w K mg base C8.CX0 10 f (PySem.W.fnOf "law" "law" (C8.fnArgs s_law) (C8.fnBody s_law) (C8.fnScope s_law) dV kV doc pm an (.ref c) ct) ["_law_script"] (sp_law K Pt) := by
  refine fn_code lk hcd sc_law (fun vs H Q E h => ?_) fun A outer s H vs Q E hr h => ?_
  · obtain ⟨sc, ns, rfl, _⟩ := h; rfl
  · obtain ⟨sc, ns, rfl, hsc, hl, hT, q⟩ := h
    have nd := sc_law.nd
    obtain ⟨oc', od', dV', kV', doc', pm', an', cdv', ct', osl', rfl, lkk, hck⟩ := Dk.fn.ex
    refine ⟨_, (pss_cons (ps_set (i := 1) nd rfl (Or.inl rfl) (C8.pe_c g_law_start hr (by first | decide | exact Nat.le_refl _ | omega) (by rfl) (pa_cons (pv 0) pa_nil)))
      (pss_cons (ps_for PassesOwn.never rfl (pi_range1 rfl T.n_range (pa_cons pe_int pa_nil)) (pg_name (i := 2) nd rfl (Or.inl rfl)) (pss_cons (ps_set (i := 3) nd rfl (Or.inl rfl) (C8.pe_c g_law_works hr (by first | decide | exact Nat.le_refl _ | omega) (by rfl) (pa_cons (pv 1) pa_nil)))
      (pss_cons (ps_set (i := 4) nd rfl (Or.inr rfl) (C8.pe_c g_law_wide hr (by first | decide | exact Nat.le_refl _ | omega) (by rfl) (pa_cons (pv 1) (pa_cons (pv 3) pa_nil))))
      (pss_cons (ps_set (i := 5) nd rfl (Or.inl rfl) (C8.pe_c g_law_best hr (by first | decide | exact Nat.le_refl _ | omega) (by rfl) (pa_cons (pv 4) (pa_cons (pv 3) pa_nil))))
      (pss_cons (ps_set (i := 6) nd rfl (Or.inr rfl) (pe_callTy (r := rListOf K) call_list1 (by rfl) T.n_list (by decide +kernel) (pa_cons (pv 3) pa_nil)))
      (pss_one (ps_for PassesOwn.never rfl (pi_range1 rfl T.n_range (pa_cons pe_int pa_nil)) (pg_name (i := 7) nd rfl (Or.inl rfl)) (pss_cons (ps_set (i := 8) nd rfl (Or.inl rfl) (LamX.pe_lamcall (k := 7) (T := [(Pt, lamQ)]) (TT := TKind K CD cs) (by rfl) Dk.mgf Dk.kp lkk hck bk sc_law_kind rfl (Or.inl rfl) (kind_gives R) TB rfl (List.mem_singleton.mpr rfl) (fun p hp _ => by rw [List.mem_singleton.mp hp]; rfl) hr (LamX.lamS_by (show LamX.lamSB (C8.fnScope s_law) _ = true by decide +kernel)) rfl (fun _ _ _ _ _ => rfl) (fun A outer s H E f c' hr2 => (pe_cX g_fewest hr2 (by first | decide | exact Nat.le_refl _ | omega) (by rfl) (fun σ => passAt (takes_of rfl rfl rfl rfl) σ) (pa_cons (pv 4) (pa_cons (pv 6) pa_nil))))))
      (pss_cons (ps_if (PW.pt (pw_or (pt_not (pt_val (C8.pe_c g_law_same hr (by first | decide | exact Nat.le_refl _ | omega) (by rfl) (pa_cons (pv 8) (pa_cons (pe_ifExp (pt_cmpR op_isN1 (pv 5) pe_non (nomark _)) pe_str (pv 5)) pa_nil))))) (pw_or1 (pt_cmpR (r := rNeD K) (op_neD hr.units) (pv 6) (pv 3) (nomark _))))) (pss_one (ps_ret pe_bl)) pss_nil)
      (pss_one (ps_if (pt_val (pe_callB (r := rIsi K) call_isi (by rfl) T.n_isinstance (by decide +kernel) (pa_cons (pv 8) (pa_cons (pe_bltn (v := .ty "list") (by rfl) T.n_list (by decide +kernel) rfl) pa_nil)))) (pss_one (ps_expr (pe_bmK (K := K) rfl PySem.F.plainAttrs_list PySem.F.slot_list_append PySem.F.type_list_append mt_append (pv 8) (pa_cons pe_int pa_nil)))) pss_nil)))))))))))
      (pss_one (ps_ret pe_bl)))), ?_⟩
    walk_at "go"
    refine ⟨noT H, sc, ns, rfl, noT_list hsc, noT_same H, hl, fun H1 S nS s1 d1 => ?_⟩
    have tb1 : LamX.Tabs [(Pt, lamQ)] H1 := fun p hp => by
      rw [List.mem_singleton.mp hp]
      exact .nil (s1 _ _ hT)
    walk_at "go"
    refine w_range (by decide) (by decide) (fun i σ H' => ∃ v2 v3 v4 v5 v6 v7 v8 : Option V, σ = [some (.ref sc), some (.ref S), v2, v3, v4, v5, v6, v7, v8] ∧ Dst K (noT H) H' S ∧ LamX.Tabs [(Pt, lamQ)] H') ?_ ?_ ?_
    · exact ⟨_, _, _, _, _, _, _, rfl, d1, tb1⟩
    · clear d1 tb1
      rintro i σ H0 hi' ⟨v2, v3, v4, v5, v6, v7, v8, rfl, d, tb⟩
      walk_at "go"
      refine ⟨_, S, rfl, d, fun H2 L zs f2 d2 ws2 okz ne ln => ?_⟩
      have tb2 := tabs_frm tb d f2
      walk_at "go"
      refine ⟨_, S, L, zs, rfl, d2, ws2, okz, ne, ln, fun H3 W lo hi f3 d3 hW nW okw => ?_⟩
      have tb3 := tabs_frm tb2 d2 f3
      have wk3 := (ws2.frm f3).wk
      clear ws2 f2 f3 d2 tb2 tb d
      walk_at "go"
      refine use_best rfl (SqT.of hW) wk3 ln fun H4 dv s4 du => ?_
      have wk4 := wk3.same s4
      have hW4 := s4 _ _ hW
      have d4 := d3.same s4
      have tb4 := tabs_same tb3 s4
      clear s4 wk3 hW d3 tb3
      walk_at "go"
      refine g_listOf (SqL.of wk4.at_) ?_
      intro Hd hHd
      have s5 := same_new (o := .lst (zs.map fun z => V.ref z.1)) hHd
      have wh5 : WkL (upd H4 Hd (.lst (zs.map fun z => V.ref z.1))) Hd zs := ⟨upd_same, fun z hz => s5 _ _ (wk4.own z hz)⟩
      have wk5 := wk4.same s5
      have hW5 := s5 _ _ hW4
      have d5 := d4.same s5
      have tb5 := tabs_same tb4 s5
      have du5 := du.same s5
      generalize upd H4 Hd (.lst (zs.map fun z => V.ref z.1)) = H5 at wh5 wk5 hW5 d5 tb5 du5
      clear s5 wk4 hW4 d4 tb4 du hHd
      have rlen : ∀ r, few lo hi (zs.map (·.2)) = some r → r.length ≤ 100 := fun r e => by
        obtain ⟨_, m1, _⟩ := few_some e
        obtain ⟨p1, p2⟩ := subs_mem.mp m1
        rw [List.length_map] at p2
        rcases up_len (a := 0) p1 (fun x hx => ⟨Nat.zero_le _, p2 x hx⟩) with q | q
        · omega
        · rw [q]; exact Nat.zero_le _
      walk_at "go"
      refine w_range (by decide) (by decide) (fun j σ H' => ∃ v7 v8 : Option V, σ = [some (.ref sc), some (.ref S), some (.int i), some (.ref L), some (.ref W), some dv, some (.ref Hd), v7, v8] ∧ WkL H' L zs ∧ WkL H' Hd zs ∧ H' W = some (.tup [.int lo, .int hi]) ∧ Dst K (noT H) H' S ∧ LamX.Tabs [(Pt, lamQ)] H' ∧ dueV H' (few lo hi (zs.map (·.2))) dv) ?_ ?_ ?_
      · exact ⟨_, _, rfl, wk5, wh5, hW5, d5, tb5, du5⟩
      · clear wk5 wh5 hW5 d5 tb5 du5
        rintro j σ H6 hj ⟨v7, v8, rfl, wk6, wh6, hW6, d6, tb6, du6⟩
        walk_at "go"
        refine g_lam tb6 fun H7 x7 tb7 => ?_
        have wk7 := wk6.ext x7
        have wh7 := wh6.ext x7
        have hW7 := x7 _ _ hW6 (fun _ z => nomatch z)
        have d7 := d6.ext x7
        have du7 := du6.ext x7
        clear wk6 wh6 hW6 d6 tb6 du6 x7
        refine g_kind ?_
        walk_at "go"
        refine ⟨W, Hd, lo, hi, zs, rfl, SqT.of hW7, okw, wh7, okz, ne, ln, fun r e H8 Fo s8 hFo eFo => ?_, fun e H8 s8 => ?_⟩
        · rw [e] at du7
          obtain ⟨Du, rfl, eDu⟩ := du7
          have eDu8 := s8 _ _ eDu
          have rl := rlen r e
          walk_at "go"
          refine use_same (n := 1) (d := .list ((toI r).map PyData.int)) (dp_ints (SqL.of (by rw [← nI_toI]; exact eFo))) (dp_ints (SqL.of (by rw [← nI_toI]; exact eDu8))) (okd_ints (by rw [List.length_map]; omega)) fun H9 s9 => ?_
          have s89 := s8.trans s9
          walk_at "go"
          refine g_neWk (wh7.same s89) (wk7.same s89) ?_
          walk_at "go"
          have eFo9 := s9 _ _ eFo
          refine g_isi (b := true) (.ty "list") (ty_list (SqL.of eFo9)) (kit_ty (by decide +kernel)) ?_
          walk_at "go"
          refine g_tyL eFo9 ?_
          walk_at "go"
          refine g_append eFo9 (by rw [List.length_map]; omega) ?_
          walk_at "go"
          have sF : Same H7 (upd H9 Fo (.lst (r.map nI ++ [.int 0]))) := Wd.Same.mut s89 hFo
          exact ⟨_, _, rfl, wk7.same sF, wh7.same sF, sF _ _ hW7, d7.same sF, tabs_same tb7 sF, by rw [e]; exact ⟨Du, rfl, sF _ _ eDu⟩⟩
        · rw [e] at du7
          have du7' : dv = .non := du7
          subst du7'
          refine ⟨4, CN, "NoPats", rfl, rfl, RN, rfl, fun H9 s9 => ?_⟩
          have s89 := s8.trans s9
          walk_at "go"
          refine use_same (n := 1) (d := .str "NoPats") (.str _) (.str _) (.str _) fun H10 s10 => ?_
          have sF := s89.trans s10
          walk_at "go"
          refine g_neWk (wh7.same sF) (wk7.same sF) ?_
          walk_at "go"
          refine g_isi (b := false) (.ty "list") (.base (.str _)) (kit_ty (by decide +kernel)) ?_
          walk_at "go"
          exact ⟨_, _, rfl, wk7.same sF, wh7.same sF, sF _ _ hW7, d7.same sF, tabs_same tb7 sF, by rw [e]; exact (rfl : V.non = V.non)⟩
      · clear wk5 wh5 hW5 d5 tb5 du5
        rintro σ H6 ⟨v7, v8, rfl, wk6, wh6, hW6, d6, tb6, du6⟩
        walk_at "go"
        exact ⟨_, _, _, _, _, _, _, rfl, d6, tb6⟩
    · rintro σ H' ⟨v2, v3, v4, v5, v6, v7, v8, rfl, d, tb⟩
      walk_at "go"
      exact q H'
end
end K08
namespace K08
open PySem PySem.Spec PyProof.Rows L2 Wd
theorem law_at {l : PySem.W.OpenLaw} {w : World} {K : PySem.W.Frag} {h : Heap} {mg : Str → Option Value} {fa : Addr} (X : K.In h) (G : h.Ns mainGlobals mg) (hfa : mg "law" = some (.ref fa))
    {f_is_number : Addr} {oc_is_number kV_is_number dc_is_number pm_is_number cd_is_number ct_is_number : Value} {od_is_number an_is_number : Option Addr} {sl_is_number : Array (Option Value)}
    {f_is_range : Addr} {oc_is_range kV_is_range dc_is_range pm_is_range cd_is_range ct_is_range : Value} {od_is_range an_is_range : Option Addr} {sl_is_range : Array (Option Value)}
    {f_check_window : Addr} {oc_check_window kV_check_window dc_check_window pm_check_window cd_check_window ct_check_window : Value} {od_check_window an_check_window : Option Addr} {sl_check_window : Array (Option Value)}
    {f_check_works : Addr} {oc_check_works kV_check_works dc_check_works pm_check_works cd_check_works ct_check_works : Value} {od_check_works an_check_works : Option Addr} {sl_check_works : Array (Option Value)}
    {f_fewest : Addr} {oc_fewest kV_fewest dc_fewest pm_fewest cd_fewest ct_fewest : Value} {od_fewest an_fewest : Option Addr} {sl_fewest : Array (Option Value)}
    {f_law_start : Addr} {oc_law_start kV_law_start dc_law_start pm_law_start cd_law_start ct_law_start : Value} {od_law_start an_law_start : Option Addr} {sl_law_start : Array (Option Value)}
    {f_law_drawn : Addr} {oc_law_drawn kV_law_drawn dc_law_drawn pm_law_drawn cd_law_drawn ct_law_drawn : Value} {od_law_drawn an_law_drawn : Option Addr} {sl_law_drawn : Array (Option Value)}
    {f_law_same : Addr} {oc_law_same kV_law_same dc_law_same pm_law_same cd_law_same ct_law_same : Value} {od_law_same an_law_same : Option Addr} {sl_law_same : Array (Option Value)}
    {f_law_kind : Addr} {oc_law_kind kV_law_kind dc_law_kind pm_law_kind cd_law_kind ct_law_kind : Value} {od_law_kind an_law_kind : Option Addr} {sl_law_kind : Array (Option Value)}
    {f_law_works : Addr} {oc_law_works kV_law_works dc_law_works pm_law_works cd_law_works ct_law_works : Value} {od_law_works an_law_works : Option Addr} {sl_law_works : Array (Option Value)}
    {f_law_wide : Addr} {oc_law_wide kV_law_wide dc_law_wide pm_law_wide cd_law_wide ct_law_wide : Value} {od_law_wide an_law_wide : Option Addr} {sl_law_wide : Array (Option Value)}
    {f_law_gap : Addr} {oc_law_gap kV_law_gap dc_law_gap pm_law_gap cd_law_gap ct_law_gap : Value} {od_law_gap an_law_gap : Option Addr} {sl_law_gap : Array (Option Value)}
    {f_law_in : Addr} {oc_law_in kV_law_in dc_law_in pm_law_in cd_law_in ct_law_in : Value} {od_law_in an_law_in : Option Addr} {sl_law_in : Array (Option Value)}
    {f_law_is_good : Addr} {oc_law_is_good kV_law_is_good dc_law_is_good pm_law_is_good cd_law_is_good ct_law_is_good : Value} {od_law_is_good an_law_is_good : Option Addr} {sl_law_is_good : Array (Option Value)}
    {f_law_best : Addr} {oc_law_best kV_law_best dc_law_best pm_law_best cd_law_best ct_law_best : Value} {od_law_best an_law_best : Option Addr} {sl_law_best : Array (Option Value)}
    {fa0 : Addr} {oc_law kV_law dc_law pm_law ct_law : Value} {od_law an_law : Option Addr} {sl_law : Array (Option Value)}
    {C_Ring : Addr}
    {f_Ring_init : Addr} {oc_Ring_init kV_Ring_init dc_Ring_init pm_Ring_init cd_Ring_init ct_Ring_init : Value} {od_Ring_init an_Ring_init : Option Addr} {sl_Ring_init : Array (Option Value)}
    {f_Ring_is_timely : Addr} {oc_Ring_is_timely kV_Ring_is_timely dc_Ring_is_timely pm_Ring_is_timely cd_Ring_is_timely ct_Ring_is_timely : Value} {od_Ring_is_timely an_Ring_is_timely : Option Addr} {sl_Ring_is_timely : Array (Option Value)}
    {f_Ring_fits : Addr} {oc_Ring_fits kV_Ring_fits dc_Ring_fits pm_Ring_fits cd_Ring_fits ct_Ring_fits : Value} {od_Ring_fits an_Ring_fits : Option Addr} {sl_Ring_fits : Array (Option Value)}
    {f_Ring_first_places : Addr} {oc_Ring_first_places kV_Ring_first_places dc_Ring_first_places pm_Ring_first_places cd_Ring_first_places ct_Ring_first_places : Value} {od_Ring_first_places an_Ring_first_places : Option Addr} {sl_Ring_first_places : Array (Option Value)}
    {f_Ring_next_places : Addr} {oc_Ring_next_places kV_Ring_next_places dc_Ring_next_places pm_Ring_next_places cd_Ring_next_places ct_Ring_next_places : Value} {od_Ring_next_places an_Ring_next_places : Option Addr} {sl_Ring_next_places : Array (Option Value)}
    {cc Pt : Addr} {occ : Value} {odc : Option Addr} {slc : Array (Option Value)} {vsc : Array Value}
    {t_GREATEST_HIGH : Tok}
    {t_MOST_WORKS : Tok}
    {t_LONGEST_WORK : Tok}
    {CD C_0 C_1 C_2 C_3 C_4 C_5 C_6 C_7 C_8 : Addr}
    (a_is_number : PySem.W.nsIn K mainGlobals "is_number" = some (some (.ref f_is_number)))
    (l_is_number : K.lookup f_is_number = some ⟨oc_is_number, od_is_number, .func (PySem.W.fnOf "is_number" "is_number" (C8.fnArgs s_is_number) (C8.fnBody s_is_number) (C8.fnScope s_is_number) .none kV_is_number dc_is_number pm_is_number an_is_number cd_is_number ct_is_number), sl_is_number⟩)
    (c_is_number : PySem.W.codeIn K cd_is_number "is_number" = true)
    (k_is_number : PySem.W.keepIn K (.ref f_is_number) = true)
    (a_is_range : PySem.W.nsIn K mainGlobals "is_range" = some (some (.ref f_is_range)))
    (l_is_range : K.lookup f_is_range = some ⟨oc_is_range, od_is_range, .func (PySem.W.fnOf "is_range" "is_range" (C8.fnArgs s_is_range) (C8.fnBody s_is_range) (C8.fnScope s_is_range) .none kV_is_range dc_is_range pm_is_range an_is_range cd_is_range ct_is_range), sl_is_range⟩)
    (c_is_range : PySem.W.codeIn K cd_is_range "is_range" = true)
    (k_is_range : PySem.W.keepIn K (.ref f_is_range) = true)
    (a_check_window : PySem.W.nsIn K mainGlobals "check_window" = some (some (.ref f_check_window)))
    (l_check_window : K.lookup f_check_window = some ⟨oc_check_window, od_check_window, .func (PySem.W.fnOf "check_window" "check_window" (C8.fnArgs s_check_window) (C8.fnBody s_check_window) (C8.fnScope s_check_window) .none kV_check_window dc_check_window pm_check_window an_check_window cd_check_window ct_check_window), sl_check_window⟩)
    (c_check_window : PySem.W.codeIn K cd_check_window "check_window" = true)
    (k_check_window : PySem.W.keepIn K (.ref f_check_window) = true)
    (a_check_works : PySem.W.nsIn K mainGlobals "check_works" = some (some (.ref f_check_works)))
    (l_check_works : K.lookup f_check_works = some ⟨oc_check_works, od_check_works, .func (PySem.W.fnOf "check_works" "check_works" (C8.fnArgs s_check_works) (C8.fnBody s_check_works) (C8.fnScope s_check_works) .none kV_check_works dc_check_works pm_check_works an_check_works cd_check_works ct_check_works), sl_check_works⟩)
    (c_check_works : PySem.W.codeIn K cd_check_works "check_works" = true)
    (k_check_works : PySem.W.keepIn K (.ref f_check_works) = true)
    (a_fewest : PySem.W.nsIn K mainGlobals "fewest" = some (some (.ref f_fewest)))
    (l_fewest : K.lookup f_fewest = some ⟨oc_fewest, od_fewest, .func (PySem.W.fnOf "fewest" "fewest" (C8.fnArgs s_fewest) (C8.fnBody s_fewest) (C8.fnScope s_fewest) .none kV_fewest dc_fewest pm_fewest an_fewest cd_fewest ct_fewest), sl_fewest⟩)
    (c_fewest : PySem.W.codeIn K cd_fewest "fewest" = true)
    (k_fewest : PySem.W.keepIn K (.ref f_fewest) = true)
    (a_law_start : PySem.W.nsIn K mainGlobals "_law_start" = some (some (.ref f_law_start)))
    (l_law_start : K.lookup f_law_start = some ⟨oc_law_start, od_law_start, .func (PySem.W.fnOf "_law_start" "_law_start" (C8.fnArgs s_law_start) (C8.fnBody s_law_start) (C8.fnScope s_law_start) .none kV_law_start dc_law_start pm_law_start an_law_start cd_law_start ct_law_start), sl_law_start⟩)
    (c_law_start : PySem.W.codeIn K cd_law_start "_law_start" = true)
    (k_law_start : PySem.W.keepIn K (.ref f_law_start) = true)
    (a_law_drawn : PySem.W.nsIn K mainGlobals "_law_drawn" = some (some (.ref f_law_drawn)))
    (l_law_drawn : K.lookup f_law_drawn = some ⟨oc_law_drawn, od_law_drawn, .func (PySem.W.fnOf "_law_drawn" "_law_drawn" (C8.fnArgs s_law_drawn) (C8.fnBody s_law_drawn) (C8.fnScope s_law_drawn) .none kV_law_drawn dc_law_drawn pm_law_drawn an_law_drawn cd_law_drawn ct_law_drawn), sl_law_drawn⟩)
    (c_law_drawn : PySem.W.codeIn K cd_law_drawn "_law_drawn" = true)
    (k_law_drawn : PySem.W.keepIn K (.ref f_law_drawn) = true)
    (a_law_same : PySem.W.nsIn K mainGlobals "_law_same" = some (some (.ref f_law_same)))
    (l_law_same : K.lookup f_law_same = some ⟨oc_law_same, od_law_same, .func (PySem.W.fnOf "_law_same" "_law_same" (C8.fnArgs s_law_same) (C8.fnBody s_law_same) (C8.fnScope s_law_same) .none kV_law_same dc_law_same pm_law_same an_law_same cd_law_same ct_law_same), sl_law_same⟩)
    (c_law_same : PySem.W.codeIn K cd_law_same "_law_same" = true)
    (k_law_same : PySem.W.keepIn K (.ref f_law_same) = true)
    (a_law_kind : PySem.W.nsIn K mainGlobals "_law_kind" = some (some (.ref f_law_kind)))
    (l_law_kind : K.lookup f_law_kind = some ⟨oc_law_kind, od_law_kind, .func (PySem.W.fnOf "_law_kind" "_law_kind" (C8.fnArgs s_law_kind) (C8.fnBody s_law_kind) (C8.fnScope s_law_kind) .none kV_law_kind dc_law_kind pm_law_kind an_law_kind cd_law_kind ct_law_kind), sl_law_kind⟩)
    (c_law_kind : PySem.W.codeIn K cd_law_kind "_law_kind" = true)
    (k_law_kind : PySem.W.keepIn K (.ref f_law_kind) = true)
    (a_law_works : PySem.W.nsIn K mainGlobals "_law_works" = some (some (.ref f_law_works)))
    (l_law_works : K.lookup f_law_works = some ⟨oc_law_works, od_law_works, .func (PySem.W.fnOf "_law_works" "_law_works" (C8.fnArgs s_law_works) (C8.fnBody s_law_works) (C8.fnScope s_law_works) .none kV_law_works dc_law_works pm_law_works an_law_works cd_law_works ct_law_works), sl_law_works⟩)
    (c_law_works : PySem.W.codeIn K cd_law_works "_law_works" = true)
    (k_law_works : PySem.W.keepIn K (.ref f_law_works) = true)
    (a_law_wide : PySem.W.nsIn K mainGlobals "_law_wide" = some (some (.ref f_law_wide)))
    (l_law_wide : K.lookup f_law_wide = some ⟨oc_law_wide, od_law_wide, .func (PySem.W.fnOf "_law_wide" "_law_wide" (C8.fnArgs s_law_wide) (C8.fnBody s_law_wide) (C8.fnScope s_law_wide) .none kV_law_wide dc_law_wide pm_law_wide an_law_wide cd_law_wide ct_law_wide), sl_law_wide⟩)
    (c_law_wide : PySem.W.codeIn K cd_law_wide "_law_wide" = true)
    (k_law_wide : PySem.W.keepIn K (.ref f_law_wide) = true)
    (a_law_gap : PySem.W.nsIn K mainGlobals "_law_gap" = some (some (.ref f_law_gap)))
    (l_law_gap : K.lookup f_law_gap = some ⟨oc_law_gap, od_law_gap, .func (PySem.W.fnOf "_law_gap" "_law_gap" (C8.fnArgs s_law_gap) (C8.fnBody s_law_gap) (C8.fnScope s_law_gap) .none kV_law_gap dc_law_gap pm_law_gap an_law_gap cd_law_gap ct_law_gap), sl_law_gap⟩)
    (c_law_gap : PySem.W.codeIn K cd_law_gap "_law_gap" = true)
    (k_law_gap : PySem.W.keepIn K (.ref f_law_gap) = true)
    (a_law_in : PySem.W.nsIn K mainGlobals "_law_in" = some (some (.ref f_law_in)))
    (l_law_in : K.lookup f_law_in = some ⟨oc_law_in, od_law_in, .func (PySem.W.fnOf "_law_in" "_law_in" (C8.fnArgs s_law_in) (C8.fnBody s_law_in) (C8.fnScope s_law_in) .none kV_law_in dc_law_in pm_law_in an_law_in cd_law_in ct_law_in), sl_law_in⟩)
    (c_law_in : PySem.W.codeIn K cd_law_in "_law_in" = true)
    (k_law_in : PySem.W.keepIn K (.ref f_law_in) = true)
    (a_law_is_good : PySem.W.nsIn K mainGlobals "_law_is_good" = some (some (.ref f_law_is_good)))
    (l_law_is_good : K.lookup f_law_is_good = some ⟨oc_law_is_good, od_law_is_good, .func (PySem.W.fnOf "_law_is_good" "_law_is_good" (C8.fnArgs s_law_is_good) (C8.fnBody s_law_is_good) (C8.fnScope s_law_is_good) .none kV_law_is_good dc_law_is_good pm_law_is_good an_law_is_good cd_law_is_good ct_law_is_good), sl_law_is_good⟩)
    (c_law_is_good : PySem.W.codeIn K cd_law_is_good "_law_is_good" = true)
    (k_law_is_good : PySem.W.keepIn K (.ref f_law_is_good) = true)
    (a_law_best : PySem.W.nsIn K mainGlobals "_law_best" = some (some (.ref f_law_best)))
    (l_law_best : K.lookup f_law_best = some ⟨oc_law_best, od_law_best, .func (PySem.W.fnOf "_law_best" "_law_best" (C8.fnArgs s_law_best) (C8.fnBody s_law_best) (C8.fnScope s_law_best) .none kV_law_best dc_law_best pm_law_best an_law_best cd_law_best ct_law_best), sl_law_best⟩)
    (c_law_best : PySem.W.codeIn K cd_law_best "_law_best" = true)
    (k_law_best : PySem.W.keepIn K (.ref f_law_best) = true)
    (a_law : PySem.W.nsIn K mainGlobals "law" = some (some (.ref fa0)))
    (l_law : K.lookup fa0 = some ⟨oc_law, od_law, .func (PySem.W.fnOf "law" "law" (C8.fnArgs s_law) (C8.fnBody s_law) (C8.fnScope s_law) .none kV_law dc_law pm_law an_law (.ref cc) ct_law), sl_law⟩)
    (c_law : PySem.W.codeIn K (.ref cc) "law" = true)
    (k_law : PySem.W.keepIn K (.ref fa0) = true)
    (aC_Ring : PySem.W.nsIn K mainGlobals "Ring" = some (some (.ref C_Ring)))
    (a_Ring_init : PySem.W.findIn K (.ref C_Ring) "__init__" = some (some (.ref f_Ring_init)))
    (i_Ring_init : PySem.W.isFn K (.ref f_Ring_init) = true)
    (l_Ring_init : K.lookup f_Ring_init = some ⟨oc_Ring_init, od_Ring_init, .func (PySem.W.fnOf "__init__" "Ring.__init__" (C8.fnArgs s_Ring_init) (C8.fnBody s_Ring_init) (C8.fnScope s_Ring_init) .none kV_Ring_init dc_Ring_init pm_Ring_init an_Ring_init cd_Ring_init ct_Ring_init), sl_Ring_init⟩)
    (c_Ring_init : PySem.W.codeIn K cd_Ring_init "Ring.__init__" = true)
    (k_Ring_init : PySem.W.keepIn K (.ref f_Ring_init) = true)
    (a_Ring_is_timely : PySem.W.findIn K (.ref C_Ring) "is_timely" = some (some (.ref f_Ring_is_timely)))
    (i_Ring_is_timely : PySem.W.isFn K (.ref f_Ring_is_timely) = true)
    (l_Ring_is_timely : K.lookup f_Ring_is_timely = some ⟨oc_Ring_is_timely, od_Ring_is_timely, .func (PySem.W.fnOf "is_timely" "Ring.is_timely" (C8.fnArgs s_Ring_is_timely) (C8.fnBody s_Ring_is_timely) (C8.fnScope s_Ring_is_timely) .none kV_Ring_is_timely dc_Ring_is_timely pm_Ring_is_timely an_Ring_is_timely cd_Ring_is_timely ct_Ring_is_timely), sl_Ring_is_timely⟩)
    (c_Ring_is_timely : PySem.W.codeIn K cd_Ring_is_timely "Ring.is_timely" = true)
    (k_Ring_is_timely : PySem.W.keepIn K (.ref f_Ring_is_timely) = true)
    (a_Ring_fits : PySem.W.findIn K (.ref C_Ring) "fits" = some (some (.ref f_Ring_fits)))
    (i_Ring_fits : PySem.W.isFn K (.ref f_Ring_fits) = true)
    (l_Ring_fits : K.lookup f_Ring_fits = some ⟨oc_Ring_fits, od_Ring_fits, .func (PySem.W.fnOf "fits" "Ring.fits" (C8.fnArgs s_Ring_fits) (C8.fnBody s_Ring_fits) (C8.fnScope s_Ring_fits) .none kV_Ring_fits dc_Ring_fits pm_Ring_fits an_Ring_fits cd_Ring_fits ct_Ring_fits), sl_Ring_fits⟩)
    (c_Ring_fits : PySem.W.codeIn K cd_Ring_fits "Ring.fits" = true)
    (k_Ring_fits : PySem.W.keepIn K (.ref f_Ring_fits) = true)
    (a_Ring_first_places : PySem.W.findIn K (.ref C_Ring) "first_places" = some (some (.ref f_Ring_first_places)))
    (i_Ring_first_places : PySem.W.isFn K (.ref f_Ring_first_places) = true)
    (l_Ring_first_places : K.lookup f_Ring_first_places = some ⟨oc_Ring_first_places, od_Ring_first_places, .func (PySem.W.fnOf "first_places" "Ring.first_places" (C8.fnArgs s_Ring_first_places) (C8.fnBody s_Ring_first_places) (C8.fnScope s_Ring_first_places) .none kV_Ring_first_places dc_Ring_first_places pm_Ring_first_places an_Ring_first_places cd_Ring_first_places ct_Ring_first_places), sl_Ring_first_places⟩)
    (c_Ring_first_places : PySem.W.codeIn K cd_Ring_first_places "Ring.first_places" = true)
    (k_Ring_first_places : PySem.W.keepIn K (.ref f_Ring_first_places) = true)
    (a_Ring_next_places : PySem.W.findIn K (.ref C_Ring) "next_places" = some (some (.ref f_Ring_next_places)))
    (i_Ring_next_places : PySem.W.isFn K (.ref f_Ring_next_places) = true)
    (l_Ring_next_places : K.lookup f_Ring_next_places = some ⟨oc_Ring_next_places, od_Ring_next_places, .func (PySem.W.fnOf "next_places" "Ring.next_places" (C8.fnArgs s_Ring_next_places) (C8.fnBody s_Ring_next_places) (C8.fnScope s_Ring_next_places) .none kV_Ring_next_places dc_Ring_next_places pm_Ring_next_places an_Ring_next_places cd_Ring_next_places ct_Ring_next_places), sl_Ring_next_places⟩)
    (c_Ring_next_places : PySem.W.codeIn K cd_Ring_next_places "Ring.next_places" = true)
    (k_Ring_next_places : PySem.W.keepIn K (.ref f_Ring_next_places) = true)
    (pg_Ring : PySem.W.plainGet K C_Ring Str.empty = true)
    (hdd_Ring : PySem.W.hasDictIn K C_Ring = true)
    (po_Ring : PySem.W.plainOver K C_Ring = true)
    (sa_Ring : PySem.W.findIn K (.ref C_Ring) "__setattr__" = some (some (.builtin "object.__setattr__")))
    (mk_Ring : PySem.W.makesIn K C_Ring = true)
    (kc_Ring : PySem.W.keepIn K (.ref C_Ring) = true)
    (n_Ring_low : PySem.W.findIn K (.ref C_Ring) "low" = some none)
    (n_Ring_high : PySem.W.findIn K (.ref C_Ring) "high" = some none)
    (n_Ring_works : PySem.W.findIn K (.ref C_Ring) "works" = some none)
    (lc : K.lookup cc = some ⟨occ, odc, .fields vsc, slc⟩)
    (v11 : vsc[11]? = some (.ref Pt))
    (hch : PySem.W.codeHdIn K cc Pt = true)
    (nPt : K.lookup Pt = none)
    (z_isinstance : PySem.W.nsIn K mainGlobals "isinstance" = some none)
    (z_len : PySem.W.nsIn K mainGlobals "len" = some none)
    (z_int : PySem.W.nsIn K mainGlobals "int" = some none)
    (z_bool : PySem.W.nsIn K mainGlobals "bool" = some none)
    (z_range : PySem.W.nsIn K mainGlobals "range" = some none)
    (z_list : PySem.W.nsIn K mainGlobals "list" = some none)
    (z_tuple : PySem.W.nsIn K mainGlobals "tuple" = some none)
    (z_str : PySem.W.nsIn K mainGlobals "str" = some none)
    (z_sum : PySem.W.nsIn K mainGlobals "sum" = some none)
    (z_ValueError : PySem.W.nsIn K mainGlobals "ValueError" = some none)
    (z_max : PySem.W.nsIn K mainGlobals "max" = some none)
    (z_min : PySem.W.nsIn K mainGlobals "min" = some none)
    (z_sorted : PySem.W.nsIn K mainGlobals "sorted" = some none)
    (q_GREATEST_HIGH : PySem.W.nsIn K mainGlobals "GREATEST_HIGH" = some (some (.int 1000 t_GREATEST_HIGH)))
    (q_MOST_WORKS : PySem.W.nsIn K mainGlobals "MOST_WORKS" = some (some (.int 10 t_MOST_WORKS)))
    (q_LONGEST_WORK : PySem.W.nsIn K mainGlobals "LONGEST_WORK" = some (some (.int 1000 t_LONGEST_WORK)))
    (aD : PySem.W.nsIn K mainGlobals "DogError" = some (some (.ref CD)))
    (aC0 : PySem.W.nsIn K mainGlobals "BadWindow" = some (some (.ref C_0)))
    (aC1 : PySem.W.nsIn K mainGlobals "BadPlan" = some (some (.ref C_1)))
    (aC2 : PySem.W.nsIn K mainGlobals "BadDelays" = some (some (.ref C_2)))
    (aC3 : PySem.W.nsIn K mainGlobals "BadWorks" = some (some (.ref C_3)))
    (aC4 : PySem.W.nsIn K mainGlobals "NoPats" = some (some (.ref C_4)))
    (aC5 : PySem.W.nsIn K mainGlobals "NoPlace" = some (some (.ref C_5)))
    (aC6 : PySem.W.nsIn K mainGlobals "BadTasks" = some (some (.ref C_6)))
    (aC7 : PySem.W.nsIn K mainGlobals "BadBeat" = some (some (.ref C_7)))
    (aC8 : PySem.W.nsIn K mainGlobals "TooMuch" = some (some (.ref C_8)))
    (bD : PySem.W.subIn K (.ref CD) (.type "BaseException") = some true)
    (hD : PySem.W.hasDictIn K CD = true)
    (tD : PySem.W.typeIn K (.ref CD) = some (.type "type"))
    (xn : PySem.W.specialIn K (.builtin "object.__class__") "__get__" = some (some (.builtin "getset_descriptor.__get__")))
    (xt : PySem.W.takesIn K (.builtin "object.__class__") = some true)
    (x4 : PySem.W.excIn K C_4 [.type "ValueError", .type "Exception", .type "BaseException", .type "object"] "ValueError.__new__" = true)
    (kk4 : PySem.W.keepIn K (.ref C_4) = true)
    (b4 : PySem.W.subIn K (.ref C_4) (.type "BaseException") = some true)
    (t4 : PySem.W.typeIn K (.ref C_4) = some (.type "type"))
    (hg4 : PySem.W.findIn K (.ref C_4) "__getattribute__" = some (some (.builtin "BaseException.__getattribute__")))
    (hk4 : PySem.W.findIn K (.ref C_4) "__getattr__" = some none)
    (hd4 : PySem.W.hasDictIn K C_4 = true)
    (ha4 : PySem.W.findIn K (.ref C_4) "__class__" = some (some (.builtin "object.__class__")))
    (hm4 : PySem.W.mroIn K C_4 (.type "object") = some true)
    (sD4 : PySem.W.subIn K (.ref C_4) (.ref CD) = some true)
    (kv4 : PySem.W.kitOne K (.ref C_4) (.type "ValueError") = some true)
    (ki4_0 : PySem.W.kitOne K (.ref C_4) (.ref C_0) = some false)
    (ki4_1 : PySem.W.kitOne K (.ref C_4) (.ref C_1) = some false)
    (ki4_2 : PySem.W.kitOne K (.ref C_4) (.ref C_2) = some false)
    (ki4_3 : PySem.W.kitOne K (.ref C_4) (.ref C_3) = some false)
    (ki4_4 : PySem.W.kitOne K (.ref C_4) (.ref C_4) = some true)
    (ki4_5 : PySem.W.kitOne K (.ref C_4) (.ref C_5) = some false)
    (ki4_6 : PySem.W.kitOne K (.ref C_4) (.ref C_6) = some false)
    (ki4_7 : PySem.W.kitOne K (.ref C_4) (.ref C_7) = some false)
    (ki4_8 : PySem.W.kitOne K (.ref C_4) (.ref C_8) = some false)
    (hT : h.get? Pt = some { cls := .none, data := .fields #[] }) :
    LamX.LawAtS l w K C8.CX0 10 63 "_law_script" mg fa h := by
  have e := hfa.symm.trans (PySem.W.mg_of X G a_law)
  cases e
  have D_is_number : C8.Def K mg "is_number" s_is_number f_is_number _ := ⟨⟨_, _, _, _, _, _, _, _, _, _, rfl, l_is_number, c_is_number⟩, PySem.W.mg_of X G a_is_number, k_is_number⟩
  have B_is_number := C8.Fun.binds (ps := ["value"]) D_is_number.fn rfl fun _ _ _ _ _ _ us hl => match us, hl with | [_], _ => rfl
  have D_is_range : C8.Def K mg "is_range" s_is_range f_is_range _ := ⟨⟨_, _, _, _, _, _, _, _, _, _, rfl, l_is_range, c_is_range⟩, PySem.W.mg_of X G a_is_range, k_is_range⟩
  have B_is_range := C8.Fun.binds (ps := ["least", "most", "limit"]) D_is_range.fn rfl fun _ _ _ _ _ _ us hl => match us, hl with | [_, _, _], _ => rfl
  have D_check_window : C8.Def K mg "check_window" s_check_window f_check_window _ := ⟨⟨_, _, _, _, _, _, _, _, _, _, rfl, l_check_window, c_check_window⟩, PySem.W.mg_of X G a_check_window, k_check_window⟩
  have B_check_window := C8.Fun.binds (ps := ["window"]) D_check_window.fn rfl fun _ _ _ _ _ _ us hl => match us, hl with | [_], _ => rfl
  have D_check_works : C8.Def K mg "check_works" s_check_works f_check_works _ := ⟨⟨_, _, _, _, _, _, _, _, _, _, rfl, l_check_works, c_check_works⟩, PySem.W.mg_of X G a_check_works, k_check_works⟩
  have B_check_works := C8.Fun.binds (ps := ["works"]) D_check_works.fn rfl fun _ _ _ _ _ _ us hl => match us, hl with | [_], _ => rfl
  have D_fewest : C8.Def K mg "fewest" s_fewest f_fewest _ := ⟨⟨_, _, _, _, _, _, _, _, _, _, rfl, l_fewest, c_fewest⟩, PySem.W.mg_of X G a_fewest, k_fewest⟩
  have B_fewest := C8.Fun.binds (ps := ["window", "works"]) D_fewest.fn rfl fun _ _ _ _ _ _ us hl => match us, hl with | [_, _], _ => rfl
  have D_law_start : C8.Def K mg "_law_start" s_law_start f_law_start _ := ⟨⟨_, _, _, _, _, _, _, _, _, _, rfl, l_law_start, c_law_start⟩, PySem.W.mg_of X G a_law_start, k_law_start⟩
  have B_law_start := C8.Fun.binds (ps := ["_law_script"]) D_law_start.fn rfl fun _ _ _ _ _ _ us hl => match us, hl with | [_], _ => rfl
  have D_law_drawn : C8.Def K mg "_law_drawn" s_law_drawn f_law_drawn _ := ⟨⟨_, _, _, _, _, _, _, _, _, _, rfl, l_law_drawn, c_law_drawn⟩, PySem.W.mg_of X G a_law_drawn, k_law_drawn⟩
  have B_law_drawn := C8.Fun.binds (ps := ["_law_state", "_law_many"]) D_law_drawn.fn rfl fun _ _ _ _ _ _ us hl => match us, hl with | [_, _], _ => rfl
  have D_law_same : C8.Def K mg "_law_same" s_law_same f_law_same _ := ⟨⟨_, _, _, _, _, _, _, _, _, _, rfl, l_law_same, c_law_same⟩, PySem.W.mg_of X G a_law_same, k_law_same⟩
  have B_law_same := C8.Fun.binds (ps := ["_law_found", "_law_due"]) D_law_same.fn rfl fun _ _ _ _ _ _ us hl => match us, hl with | [_, _], _ => rfl
  have D_law_kind : C8.Def K mg "_law_kind" s_law_kind f_law_kind _ := ⟨⟨_, _, _, _, _, _, _, _, _, _, rfl, l_law_kind, c_law_kind⟩, PySem.W.mg_of X G a_law_kind, k_law_kind⟩
  have B_law_kind := C8.Fun.binds (ps := ["_law_work"]) D_law_kind.fn rfl fun _ _ _ _ _ _ us hl => match us, hl with | [_], _ => rfl
  have D_law_works : C8.Def K mg "_law_works" s_law_works f_law_works _ := ⟨⟨_, _, _, _, _, _, _, _, _, _, rfl, l_law_works, c_law_works⟩, PySem.W.mg_of X G a_law_works, k_law_works⟩
  have B_law_works := C8.Fun.binds (ps := ["_law_state"]) D_law_works.fn rfl fun _ _ _ _ _ _ us hl => match us, hl with | [_], _ => rfl
  have D_law_wide : C8.Def K mg "_law_wide" s_law_wide f_law_wide _ := ⟨⟨_, _, _, _, _, _, _, _, _, _, rfl, l_law_wide, c_law_wide⟩, PySem.W.mg_of X G a_law_wide, k_law_wide⟩
  have B_law_wide := C8.Fun.binds (ps := ["_law_state", "_law_works_here"]) D_law_wide.fn rfl fun _ _ _ _ _ _ us hl => match us, hl with | [_, _], _ => rfl
  have D_law_gap : C8.Def K mg "_law_gap" s_law_gap f_law_gap _ := ⟨⟨_, _, _, _, _, _, _, _, _, _, rfl, l_law_gap, c_law_gap⟩, PySem.W.mg_of X G a_law_gap, k_law_gap⟩
  have B_law_gap := C8.Fun.binds (ps := ["_law_works_here", "_law_one", "_law_other"]) D_law_gap.fn rfl fun _ _ _ _ _ _ us hl => match us, hl with | [_, _, _], _ => rfl
  have D_law_in : C8.Def K mg "_law_in" s_law_in f_law_in _ := ⟨⟨_, _, _, _, _, _, _, _, _, _, rfl, l_law_in, c_law_in⟩, PySem.W.mg_of X G a_law_in, k_law_in⟩
  have B_law_in := C8.Fun.binds (ps := ["_law_window", "_law_gap_here"]) D_law_in.fn rfl fun _ _ _ _ _ _ us hl => match us, hl with | [_, _], _ => rfl
  have D_law_is_good : C8.Def K mg "_law_is_good" s_law_is_good f_law_is_good _ := ⟨⟨_, _, _, _, _, _, _, _, _, _, rfl, l_law_is_good, c_law_is_good⟩, PySem.W.mg_of X G a_law_is_good, k_law_is_good⟩
  have B_law_is_good := C8.Fun.binds (ps := ["_law_window", "_law_works_here", "_law_row"]) D_law_is_good.fn rfl fun _ _ _ _ _ _ us hl => match us, hl with | [_, _, _], _ => rfl
  have D_law_best : C8.Def K mg "_law_best" s_law_best f_law_best _ := ⟨⟨_, _, _, _, _, _, _, _, _, _, rfl, l_law_best, c_law_best⟩, PySem.W.mg_of X G a_law_best, k_law_best⟩
  have B_law_best := C8.Fun.binds (ps := ["_law_window", "_law_works_here"]) D_law_best.fn rfl fun _ _ _ _ _ _ us hl => match us, hl with | [_, _], _ => rfl
  have F_Ring_init : C8.Fun K "__init__" "Ring.__init__" s_Ring_init f_Ring_init _ := ⟨_, _, _, _, _, _, _, _, _, _, rfl, l_Ring_init, c_Ring_init⟩
  have B_Ring_init := C8.Fun.binds (ps := ["self", "window", "works"]) F_Ring_init rfl fun _ _ _ _ _ _ us hl => match us, hl with | [_, _, _], _ => rfl
  have F_Ring_is_timely : C8.Fun K "is_timely" "Ring.is_timely" s_Ring_is_timely f_Ring_is_timely _ := ⟨_, _, _, _, _, _, _, _, _, _, rfl, l_Ring_is_timely, c_Ring_is_timely⟩
  have B_Ring_is_timely := C8.Fun.binds (ps := ["self", "works"]) F_Ring_is_timely rfl fun _ _ _ _ _ _ us hl => match us, hl with | [_, _], _ => rfl
  have F_Ring_fits : C8.Fun K "fits" "Ring.fits" s_Ring_fits f_Ring_fits _ := ⟨_, _, _, _, _, _, _, _, _, _, rfl, l_Ring_fits, c_Ring_fits⟩
  have B_Ring_fits := C8.Fun.binds (ps := ["self", "place", "behind"]) F_Ring_fits rfl fun _ _ _ _ _ _ us hl => match us, hl with | [_, _, _], _ => rfl
  have F_Ring_first_places : C8.Fun K "first_places" "Ring.first_places" s_Ring_first_places f_Ring_first_places _ := ⟨_, _, _, _, _, _, _, _, _, _, rfl, l_Ring_first_places, c_Ring_first_places⟩
  have B_Ring_first_places := C8.Fun.binds (ps := ["self"]) F_Ring_first_places rfl fun _ _ _ _ _ _ us hl => match us, hl with | [_], _ => rfl
  have F_Ring_next_places : C8.Fun K "next_places" "Ring.next_places" s_Ring_next_places f_Ring_next_places _ := ⟨_, _, _, _, _, _, _, _, _, _, rfl, l_Ring_next_places, c_Ring_next_places⟩
  have B_Ring_next_places := C8.Fun.binds (ps := ["self", "behind"]) F_Ring_next_places rfl fun _ _ _ _ _ _ us hl => match us, hl with | [_, _], _ => rfl
  have R : Refs K mg CD [C_0, C_1, C_2, C_3, C_4, C_5, C_6, C_7, C_8] :=
    ⟨PySem.W.mg_none_of X G z_isinstance, PySem.W.mg_none_of X G z_ValueError, PySem.W.mg_of X G aD, ⟨_, rfl, PySem.W.mg_of X G aC0⟩, ⟨_, rfl, PySem.W.mg_of X G aC1⟩, ⟨_, rfl, PySem.W.mg_of X G aC2⟩, ⟨_, rfl, PySem.W.mg_of X G aC3⟩, ⟨_, rfl, PySem.W.mg_of X G aC4⟩, ⟨_, rfl, PySem.W.mg_of X G aC5⟩, ⟨_, rfl, PySem.W.mg_of X G aC6⟩, ⟨_, rfl, PySem.W.mg_of X G aC7⟩, ⟨_, rfl, PySem.W.mg_of X G aC8⟩⟩
  have RN : IsRef K CD [C_0, C_1, C_2, C_3, C_4, C_5, C_6, C_7, C_8] 4 C_4 := by
    refine ⟨rfl, ⟨hg4, hk4, b4, hd4, ha4, xn, xt, hm4⟩, PySem.W.exm_ref bD hD tD sD4, kv4, fun j C' e => ?_⟩
    match j, e with
    | 0, e => cases e; exact ki4_0
    | 1, e => cases e; exact ki4_1
    | 2, e => cases e; exact ki4_2
    | 3, e => cases e; exact ki4_3
    | 4, e => cases e; exact ki4_4
    | 5, e => cases e; exact ki4_5
    | 6, e => cases e; exact ki4_6
    | 7, e => cases e; exact ki4_7
    | 8, e => cases e; exact ki4_8
  have T0 : Txt K mg := ⟨PySem.W.mg_none_of X G z_isinstance, PySem.W.mg_none_of X G z_len, PySem.W.mg_none_of X G z_int, PySem.W.mg_none_of X G z_bool, PySem.W.mg_none_of X G z_range, PySem.W.mg_none_of X G z_list, PySem.W.mg_none_of X G z_tuple, PySem.W.mg_none_of X G z_str, PySem.W.mg_none_of X G z_sum⟩
  have T : TxtW K mg C_4 := ⟨T0, PySem.W.mg_none_of X G z_max, PySem.W.mg_none_of X G z_min, PySem.W.mg_none_of X G z_sorted, ⟨_, PySem.W.mg_of X G q_GREATEST_HIGH⟩, ⟨_, PySem.W.mg_of X G q_MOST_WORKS⟩, ⟨_, PySem.W.mg_of X G q_LONGEST_WORK⟩, PySem.W.mg_of X G aC4, x4, kk4, b4, t4⟩
  have TR : TxtR K C_Ring := ⟨⟨pg_Ring, hdd_Ring, po_Ring, sa_Ring⟩, n_Ring_low, n_Ring_high, n_Ring_works⟩
  refine ⟨PySem.W.fnOf "law" "law" (C8.fnArgs s_law) (C8.fnBody s_law) (C8.fnScope s_law) .none kV_law dc_law pm_law an_law (.ref cc) ct_law, [(cc, Pt)], sp_law K Pt, fun p hp => by rw [List.mem_singleton.mp hp]; exact hT, fun p hp => by rw [List.mem_singleton.mp hp]; exact nPt, fun p hp => by rw [List.mem_singleton.mp hp]; exact PySem.W.codeHd_of_K X hch, fun s u => .of_eq rfl,
    fun H a ns hl _ ht hs => ⟨a, ns, rfl, hs, hl, ht _ (List.mem_singleton.mpr rfl), fun _ => rfl⟩, fun base KB GB tb => ?_⟩
  have g0 := ok_is_number (P := l.prog) (w := w) (base := base) T0 D_is_number B_is_number
  have g1 := ok_is_range T0 D_is_range B_is_range g0
  have g2 := ok_check_window T D_check_window B_check_window g1
  have g3 := ok_check_works T D_check_works B_check_works g1
  have m0 := ok_init T TR ⟨mk_Ring, a_Ring_init, i_Ring_init, kc_Ring⟩ (PySem.W.mg_of X G aC_Ring) F_Ring_init B_Ring_init g2 g3
  have m1 := ok_timely (P := l.prog) (w := w) (base := base) T TR ⟨a_Ring_is_timely, i_Ring_is_timely, k_Ring_is_timely⟩ F_Ring_is_timely B_Ring_is_timely
  have m2 := ok_fits T TR ⟨a_Ring_fits, i_Ring_fits, k_Ring_fits⟩ F_Ring_fits B_Ring_fits m1
  have m3 := ok_firsts T TR ⟨a_Ring_first_places, i_Ring_first_places, k_Ring_first_places⟩ F_Ring_first_places B_Ring_first_places m1
  have m4 := ok_nexts T TR ⟨a_Ring_next_places, i_Ring_next_places, k_Ring_next_places⟩ F_Ring_next_places B_Ring_next_places m2
  have g4 := ok_fewest T TR D_fewest B_fewest m0 m3 m2 m4
  have h1 := ok_start (P := l.prog) (w := w) (base := base) T0 D_law_start B_law_start
  have h2 := ok_drawn (P := l.prog) (w := w) (base := base) T0 D_law_drawn B_law_drawn
  have h3 := ok_gap (P := l.prog) (w := w) (base := base) T D_law_gap B_law_gap
  have h4 := ok_in (P := l.prog) (w := w) (base := base) T D_law_in B_law_in
  have h5 := ok_is_good T D_law_is_good B_law_is_good h3 h4
  exact ok_law T R RN (tb _ (List.mem_singleton.mpr rfl)) l_law c_law D_law_kind B_law_kind h1 (ok_works T D_law_works B_law_works h2) (ok_wide T D_law_wide B_law_wide h2) (ok_best T D_law_best B_law_best h5) (ok_same T0 D_law_same B_law_same 2) g4
end K08
open PySem PySem.W PyProof.Rows
set_option maxRecDepth 100000 in
set_option maxHeartbeats 0 in
theorem PySem.Challenge.cw_windowdog_k08_whole_the_fewest_pats_holds : PySem.Challenge.rw_windowdog_k08_whole_the_fewest_pats.Holds := by
  w_on; o_law; k_head; (case hw => w_witness2)
  k_fill
  refine LamX.walk_ofTs (l := PySem.Challenge.rw_windowdog_k08_whole_the_fewest_pats) (n := 63) (k := 10) (x := "_law_script") (CX := fun _ => C8.CX0) rfl (by decide) rfl ⟨rfl, by decide, by decide⟩ (fun w h Y => PySem.W.km_in_of Y) ?F (fun _ _ _ _ _ z => z)
  case F =>
    intro w mg fa h Y KX G hmg
    refine' K08.law_at KX G hmg ?a_is_number ?l_is_number ?c_is_number ?k_is_number ?a_is_range ?l_is_range ?c_is_range ?k_is_range ?a_check_window ?l_check_window ?c_check_window ?k_check_window ?a_check_works ?l_check_works ?c_check_works ?k_check_works ?a_fewest ?l_fewest ?c_fewest ?k_fewest ?a_law_start ?l_law_start ?c_law_start ?k_law_start ?a_law_drawn ?l_law_drawn ?c_law_drawn ?k_law_drawn ?a_law_same ?l_law_same ?c_law_same ?k_law_same ?a_law_kind ?l_law_kind ?c_law_kind ?k_law_kind ?a_law_works ?l_law_works ?c_law_works ?k_law_works ?a_law_wide ?l_law_wide ?c_law_wide ?k_law_wide ?a_law_gap ?l_law_gap ?c_law_gap ?k_law_gap ?a_law_in ?l_law_in ?c_law_in ?k_law_in ?a_law_is_good ?l_law_is_good ?c_law_is_good ?k_law_is_good ?a_law_best ?l_law_best ?c_law_best ?k_law_best ?a_law ?l_law ?c_law ?k_law ?aC_Ring ?a_Ring_init ?i_Ring_init ?l_Ring_init ?c_Ring_init ?k_Ring_init ?a_Ring_is_timely ?i_Ring_is_timely ?l_Ring_is_timely ?c_Ring_is_timely ?k_Ring_is_timely ?a_Ring_fits ?i_Ring_fits ?l_Ring_fits ?c_Ring_fits ?k_Ring_fits ?a_Ring_first_places ?i_Ring_first_places ?l_Ring_first_places ?c_Ring_first_places ?k_Ring_first_places ?a_Ring_next_places ?i_Ring_next_places ?l_Ring_next_places ?c_Ring_next_places ?k_Ring_next_places ?pg_Ring ?hdd_Ring ?po_Ring ?sa_Ring ?mk_Ring ?kc_Ring ?n_Ring_low ?n_Ring_high ?n_Ring_works ?lc ?v11 ?hch ?nPt ?z_isinstance ?z_len ?z_int ?z_bool ?z_range ?z_list ?z_tuple ?z_str ?z_sum ?z_ValueError ?z_max ?z_min ?z_sorted ?q_GREATEST_HIGH ?q_MOST_WORKS ?q_LONGEST_WORK ?aD ?aC0 ?aC1 ?aC2 ?aC3 ?aC4 ?aC5 ?aC6 ?aC7 ?aC8 ?bD ?hD ?tD ?xn ?xt ?x4 ?kk4 ?b4 ?t4 ?hg4 ?hk4 ?hd4 ?ha4 ?hm4 ?sD4 ?kv4 ?ki4_0 ?ki4_1 ?ki4_2 ?ki4_3 ?ki4_4 ?ki4_5 ?ki4_6 ?ki4_7 ?ki4_8 ?hT
    (case a_is_number => k_is)
    (case l_is_number => k_is)
    (case c_is_number => k_is)
    (case k_is_number => k_is)
    (case a_is_range => k_is)
    (case l_is_range => k_is)
    (case c_is_range => k_is)
    (case k_is_range => k_is)
    (case a_check_window => k_is)
    (case l_check_window => k_is)
    (case c_check_window => k_is)
    (case k_check_window => k_is)
    (case a_check_works => k_is)
    (case l_check_works => k_is)
    (case c_check_works => k_is)
    (case k_check_works => k_is)
    (case a_fewest => k_is)
    (case l_fewest => k_is)
    (case c_fewest => k_is)
    (case k_fewest => k_is)
    (case a_law_start => k_is)
    (case l_law_start => k_is)
    (case c_law_start => k_is)
    (case k_law_start => k_is)
    (case a_law_drawn => k_is)
    (case l_law_drawn => k_is)
    (case c_law_drawn => k_is)
    (case k_law_drawn => k_is)
    (case a_law_same => k_is)
    (case l_law_same => k_is)
    (case c_law_same => k_is)
    (case k_law_same => k_is)
    (case a_law_kind => k_is)
    (case l_law_kind => k_is)
    (case c_law_kind => k_is)
    (case k_law_kind => k_is)
    (case a_law_works => k_is)
    (case l_law_works => k_is)
    (case c_law_works => k_is)
    (case k_law_works => k_is)
    (case a_law_wide => k_is)
    (case l_law_wide => k_is)
    (case c_law_wide => k_is)
    (case k_law_wide => k_is)
    (case a_law_gap => k_is)
    (case l_law_gap => k_is)
    (case c_law_gap => k_is)
    (case k_law_gap => k_is)
    (case a_law_in => k_is)
    (case l_law_in => k_is)
    (case c_law_in => k_is)
    (case k_law_in => k_is)
    (case a_law_is_good => k_is)
    (case l_law_is_good => k_is)
    (case c_law_is_good => k_is)
    (case k_law_is_good => k_is)
    (case a_law_best => k_is)
    (case l_law_best => k_is)
    (case c_law_best => k_is)
    (case k_law_best => k_is)
    (case a_law => k_is)
    (case l_law => k_is)
    (case c_law => k_is)
    (case k_law => k_is)
    (case aC_Ring => k_is)
    (case a_Ring_init => k_is)
    (case i_Ring_init => k_is)
    (case l_Ring_init => k_is)
    (case c_Ring_init => k_is)
    (case k_Ring_init => k_is)
    (case a_Ring_is_timely => k_is)
    (case i_Ring_is_timely => k_is)
    (case l_Ring_is_timely => k_is)
    (case c_Ring_is_timely => k_is)
    (case k_Ring_is_timely => k_is)
    (case a_Ring_fits => k_is)
    (case i_Ring_fits => k_is)
    (case l_Ring_fits => k_is)
    (case c_Ring_fits => k_is)
    (case k_Ring_fits => k_is)
    (case a_Ring_first_places => k_is)
    (case i_Ring_first_places => k_is)
    (case l_Ring_first_places => k_is)
    (case c_Ring_first_places => k_is)
    (case k_Ring_first_places => k_is)
    (case a_Ring_next_places => k_is)
    (case i_Ring_next_places => k_is)
    (case l_Ring_next_places => k_is)
    (case c_Ring_next_places => k_is)
    (case k_Ring_next_places => k_is)
    (case pg_Ring => k_is)
    (case hdd_Ring => k_is)
    (case po_Ring => k_is)
    (case sa_Ring => k_is)
    (case mk_Ring => k_is)
    (case kc_Ring => k_is)
    (case n_Ring_low => k_is)
    (case n_Ring_high => k_is)
    (case n_Ring_works => k_is)
    (case lc => k_is)
    (case v11 => exact rfl)
    (case hch => kernel_rfl)
    (case nPt => kernel_rfl)
    (case z_isinstance => k_is)
    (case z_len => k_is)
    (case z_int => k_is)
    (case z_bool => k_is)
    (case z_range => k_is)
    (case z_list => k_is)
    (case z_tuple => k_is)
    (case z_str => k_is)
    (case z_sum => k_is)
    (case z_ValueError => k_is)
    (case z_max => k_is)
    (case z_min => k_is)
    (case z_sorted => k_is)
    (case q_GREATEST_HIGH => k_is)
    (case q_MOST_WORKS => k_is)
    (case q_LONGEST_WORK => k_is)
    (case aD => k_is)
    (case aC0 => k_is)
    (case aC1 => k_is)
    (case aC2 => k_is)
    (case aC3 => k_is)
    (case aC4 => k_is)
    (case aC5 => k_is)
    (case aC6 => k_is)
    (case aC7 => k_is)
    (case aC8 => k_is)
    (case bD => k_is)
    (case hD => k_is)
    (case tD => k_is)
    (case xn => k_is)
    (case xt => k_is)
    (case x4 => k_exc)
    (case kk4 => k_is)
    (case b4 => k_is)
    (case t4 => k_is)
    (case hg4 => k_is)
    (case hk4 => k_is)
    (case hd4 => k_is)
    (case ha4 => k_is)
    (case hm4 => k_is)
    (case sD4 => k_is)
    (case kv4 => kernel_rfl)
    (case ki4_0 => kernel_rfl)
    (case ki4_1 => kernel_rfl)
    (case ki4_2 => kernel_rfl)
    (case ki4_3 => kernel_rfl)
    (case ki4_4 => kernel_rfl)
    (case ki4_5 => kernel_rfl)
    (case ki4_6 => kernel_rfl)
    (case ki4_7 => kernel_rfl)
    (case ki4_8 => kernel_rfl)
    (case hT => exact PySem.W.km_tabs_of Y _ (by k_mem))
