import PyProof.Rows.All
import Wide.All
import OpenK.AllK
import Wide.FinOn
import HandS.ForMost
import HandS.Walk
import HandS.Deep
import HandS.Style
import HandS.Conv
import HandS.Strs
import HandS.StrMore
import HandS.Wide
import HandS.NoneIn
import HandS.Flow
import HandS.IsInst
import HandS.AnyAll
import HandS.EndTab
import HandS.TupAny
import HandS.Zip
import PyProof.GenCompD
import KE.GoesMore
import KE.GoesEnum
import HandS.Star
import PyProof.ListStr
import PyProof.ReprRoads
import KE.GoesZip
import HandS.Replace
import PySem.Challenge.RW_draftward_k02_whole_texts_to_tokens_and
import HandS.Evl
import PyProof.StrLawsRepr
import PyProof.FitsInt
import HandS.EndOwn
set_option Elab.async false
set_option linter.all false
set_option maxRecDepth 100000
set_option maxHeartbeats 4000000
/-! all(element for x in source) over any source, its element told at the level of the machine. -/
namespace Zn
open PySem PySem.Spec PyProof.Rows L2 GxR

/-- what the generator's own body finds around it -/
structure InGen (X : Cx) (scope : Scope) (cenv : Env) : Prop where
  sc : cenv.scope = scope
  cl : cenv.cells = cloFrom X.env.cells scope.names []
  gl : cenv.globals = X.env.globals
  bu : cenv.builtins = builtinsNs

/-- the thing v may be walked in n turns, and at turn i the element gives tr i -/
structure Feed (X : Cx) (σ : L2.St) (scope : Scope) (x : Str) (elt : Expr) (P : Addr) (v : V) (H : Hp) (n : Nat) (tr : Nat → Bool) : Prop where
  run : ∀ (pins : List (Addr × Obj)) (s1 : Shared) (u : Value), Inv X pins σ H s1 → RelV v u →
    ∃ (fp : List Addr) (Pf : Nat → Value → Prop), P ∉ fp ∧ (∀ b ∈ fp, b < s1.heap.objs.size) ∧
      (∀ (A : Around) (E : Value → Shared → Prop) (Q : Value → Shared → Prop),
        (∀ (o : Obj) (St : Nat → Heap → Prop), (∀ A' : Around, A'.handled = none → Walks X.prog X.w A' s1.heap.objs.size (s1.heap.objs.size :: fp) [s1.heap.objs.size] n Pf St) →
          St 0 (s1.heap.push o) → Q (.ref s1.heap.objs.size) { s1 with heap := s1.heap.push o }) → wpAny (model X.prog X.w) A (pyIter u) Q E s1) ∧
      ∀ (cenv : Env) (A' : Around) (E' : Value → Shared → Prop) (i : Nat) (y : Value) (s2 : Shared) (m2 : Str → Option Value), InGen X scope cenv → A'.handled = none → A'.depth ≤ X.A.depth + 1 → A'.units ≤ X.A.units + 8 →
        Pf i y → s2.heap.Ns cenv.locals m2 → m2 x = some y → (∀ b o, b ≠ P → s1.heap.get? b = some o → s2.heap.get? b = some o) →
        wpAny (model X.prog X.w) A' (eval elt cenv) (fun z s3 => z = .bool (tr i) ∧ Keeps s2 s3) E' s2

/-- the generator g is ready to be walked -/
def Rdy (X : Cx) (pins : List (Addr × Obj)) (σ : L2.St) (H : Hp) (P : Addr) (n : Nat) (tr : Nat → Bool) (g : Addr) (s : Shared) : Prop :=
  ∃ (fp wr : List Addr) (G : Array GenState → Array GenState → Prop) (F : Nat → Value → Prop) (St : Nat → Shared → Prop),
    WalksS X.prog X.w X.A.in1 g fp wr G n F St ∧ St 0 s ∧ TruthOf X.prog X.w X.A.in1 F tr ∧ ∀ s', Moved wr G s s' → ∃ H2, Tabbed P H H2 ∧ Inv X pins σ H2 s'

section
variable {X : Cx} {pins : List (Addr × Obj)} {σ : L2.St} {H : Hp} {s : Shared}
theorem gen_feed {c P : Addr} {elt iter : Expr} {x : Str} {px gpos : Pos} {scope : Scope} {te : TE} {k : Nat} {Q' : Value → Shared → Prop} {R : Nat → (Nat → Bool) → Hp → Prop}
    (hr : Room k X.A) (TB : TabB X.base X.mg c P) (hcode : X.env.code = .ref c) (S : GenS X.env scope x) (hi : PE X iter te)
    (hs : ∀ v, genFold iter X.env v = pure v) (I : Inv X pins σ H s) (h : te σ H fun v H1 => TabG H1 P ∧ ∃ n tr, Feed X σ scope x elt P v H1 n tr ∧ R n tr H1)
    (hQ : ∀ n tr H1 g s5, R n tr H1 → Rdy X pins σ H1 P n tr g s5 → Q' (.ref g) s5) :
    wpAny (model X.prog X.w) X.A (eval (.GeneratorExp elt [⟨.Name x px, iter, [], 0⟩] scope gpos) X.env) Q' X.xe s := by
  refine wpAny_GeneratorExp_walksQD hr.hd S.co (closure_ok S.free) S.cell S.dot S.loc S.kind (by have := hr.dp; omega) ?_ hs
  refine thn (hi.run pins s σ H _ I h) fun xv s1 hx => ?_
  obtain ⟨v, H1, I1, r1, ⟨ps, hP, ht⟩, n, tr, fd, q1⟩ := hx
  obtain ⟨fp0, Pf, nP, ltf, itf, el⟩ := fd.run pins s1 xv I1 r1
  refine itf _ _ _ fun o St W hst => ?_
  have hPs : s1.heap.get? P = some { cls := .none, data := .fields ps } := I1.hok P _ hP
  have hPlt := Heap.lt_size hPs
  have hP2 : (s1.heap.push o).get? P = some { cls := .none, data := .fields ps } := Heap.get?_push_of_some _ hPs
  have cd : PySem.W.CodeHd (s1.heap.push o) c P := TB.code.keeps fun b u e => Heap.get?_push_of_some _ (I1.bk b u e)
  have lim2 : (s1.heap.push o).NoLimit := I1.nolimit.push o
  have cont : ∀ (code : Value) (h3 : Heap) (tk : Nat) (ps' : Array Value), Heap.ExtBut P (s1.heap.push o) h3 → (s1.heap.push o).objs.size ≤ h3.objs.size →
      h3.get? P = some { cls := .none, data := .fields ps' } → (∃ more, ps' = ps ++ more) → TriplesOk ps'.toList →
      wpAny (model X.prog X.w) X.A (builtinsFor X.env.globals X.env.builtins) (fun bi s₄ =>
        ∃ Ia fp wr n₀ Pi St₀ pz F, Value.ref s1.heap.objs.size = .ref Ia ∧ (∀ A' : Around, A'.handled = none → Walks X.prog X.w A' Ia fp wr n₀ Pi St₀) ∧ St₀ 0 s₄.heap ∧
          (∀ b ∈ fp, b < s₄.heap.objs.size) ∧ s₄.heap.NoLimit ∧ cStatics ∉ wr ∧
          (∀ href : Heap, (∀ b o, s₄.heap.get? b = some o → href.get? b = some o) →
            QuietGenD X.prog X.w (genEnv scope (cloFrom X.env.cells scope.names []) s₄.heap.objs.size code bi X.env) x [] elt (List.range s₄.heap.objs.size) wr Pi pz F href (X.A.depth + 1) (X.A.units + 8)) ∧
          (∀ a h₅ tk gs, gs.bare = true → s₄.heap.objs.size < a → h₅.objs.size = a + 1 → (∀ b o, s₄.heap.get? b = some o → h₅.get? b = some o) →
            WalksS X.prog X.w X.A.in4 a (a :: s₄.heap.objs.size :: List.range s₄.heap.objs.size) (s₄.heap.objs.size :: wr) (GenOnlyQ s₄.gens.size) (passing pz n₀ 0).length
              (fun j y => ∃ i, (passing pz n₀ 0)[j]? = some i ∧ F i y) (GenAt X.prog X.w X.A.in4 a s₄.gens.size s₄.heap.objs.size (List.range s₄.heap.objs.size) wr pz n₀ F) →
            GenAt X.prog X.w X.A.in4 a s₄.gens.size s₄.heap.objs.size (List.range s₄.heap.objs.size) wr pz n₀ F 0 { s₄ with gens := s₄.gens.push gs, toks := tk, heap := h₅ } →
            Q' (.ref a) { s₄ with gens := s₄.gens.push gs, toks := tk, heap := h₅ })) X.xe { s1 with heap := h3, toks := tk } := by
    intro code h3 tk ps' hx hsz hP3 hmore ht3
    obtain ⟨bm, ob, e1, e2, e3, e4, e5, e6, e7, e8⟩ := TB.bm
    have hcP : cStatics ≠ P := by
      intro e
      obtain ⟨_, ⟨o', es, ep, ho, hd, _⟩, _⟩ := I1.nolimit
      rw [e, hPs] at ho
      cases ho
      cases hd
    have hcl : cStatics < s1.heap.objs.size := let ⟨_, hns, _⟩ := I1.nolimit; hns.lt
    have keep3 : ∀ b u, b ≠ P → s1.heap.get? b = some u → h3.get? b = some u := fun b u hb e => hx b u hb (Heap.get?_push_of_some _ e)
    have szp : (s1.heap.push o).objs.size = s1.heap.objs.size + 1 := Heap.size_push ..
    refine wpAny_builtinsFor (m := X.mg) (by rw [I1.ok.glob]; exact ((I1.mod.glob.keeps I1.bk).push o).extBut hx TB.gP) e1 e2 (keep3 _ _ e4 (I1.bk _ _ e5)) e6 e7 e8 ?_
    refine ⟨s1.heap.objs.size, s1.heap.objs.size :: fp0, [s1.heap.objs.size], n, Pf, St, (fun _ => true), (fun i y => y = .bool (tr i)), rfl, W, ?_, ?_, lim2.extBut hx hcP, ?_, ?_, ?_⟩
    · refine (W X.A hr.hd).frame _ _ _ hst fun b hb u e => hx b u (fun z => ?_) e
      subst z
      rcases List.mem_cons.mp hb with z2 | z2
      · exact Nat.ne_of_lt hPlt z2
      · exact nP z2
    · intro b hb
      have hb' : b < s1.heap.objs.size + 1 := by
        rcases List.mem_cons.mp hb with z | z
        · rw [z]
          exact Nat.lt_succ_self _
        · exact Nat.lt_succ_of_lt (ltf b z)
      exact Nat.lt_of_lt_of_le hb' (by rw [← szp]; exact hsz)
    · intro z
      rcases List.mem_cons.mp z with z | z
      · exact Nat.ne_of_lt hcl z
      · cases z
    · intro href hhref
      refine ⟨fun A' E' i y s₂ m₂ hA hD hU hPv hn hm hk => ?_, fun A' E' i y s₂ m₂ hA hD hU hPv hp hn hm hk => ?_⟩
      · simp only [List.forIn_nil]
        exact wpAny_pure ⟨rfl, keeps_refl _⟩
      · refine el _ A' E' i y s₂ m₂ ⟨rfl, rfl, rfl, rfl⟩ hA hD hU hPv hn hm fun b u hb e => ?_
        have h4 := keep3 b u hb e
        have l1 := Heap.lt_size e
        refine hk b (List.mem_range.mpr (Heap.lt_size h4)) (fun z => ?_) u (hhref b u h4)
        rcases List.mem_cons.mp z with z | z
        · exact Nat.ne_of_lt l1 z
        · cases z
    · intro g h5 tk5 gs hgb hag hsz5 hk5 W5 hat
      simp only [GxR.passing_true, List.length_range] at W5
      refine hQ n tr H1 g _ q1 ⟨_, _, _, _, _, W5.in4_1, hat, ?_, fun s' hm => ?_⟩
      · intro j y sj Qj Ej hy hQj
        obtain ⟨i, hij, rfl⟩ := hy
        obtain ⟨hj, ej⟩ := List.getElem?_eq_some_iff.mp hij
        rw [List.getElem_range] at ej
        subst ej
        exact wpAny_truthy_bool hQj
      · obtain ⟨more, em⟩ := hmore
        have nwr : ∀ b u, s1.heap.get? b = some u → b ∉ h3.objs.size :: [s1.heap.objs.size] := by
          intro b u e hb
          have hl := Heap.lt_size e
          rcases List.mem_cons.mp hb with z | z
          · refine Nat.ne_of_lt (Nat.lt_of_lt_of_le hl ?_) z
            show s1.heap.objs.size ≤ h3.objs.size
            exact Nat.le_trans (by rw [szp]; exact Nat.le_succ _) hsz
          · rcases List.mem_cons.mp z with z | z
            · exact Nat.ne_of_lt hl z
            · cases z
        have J := inv_tab (more := more) (h' := s'.heap) (g' := s'.gens) (d' := s'.drawn) (t' := s'.toks) I1 hP (fun b u hb e => hm.heap b u (nwr b u e) (hk5 b u (keep3 b u hb e)))
          (by rw [← em]; exact hm.heap P _ (nwr P _ hPs) (hk5 P _ hP3)) (AllBare.movedS (I1.bare.push hgb) hm)
        rw [sh_eta s1 s' hm.os] at J
        exact ⟨upd H1 P (.tbl (ps ++ more)), ⟨⟨ps ++ more, upd_same, by rw [← em]; exact ht3⟩, fun b hb => upd_ne hb⟩, J⟩
  refine ⟨lim2, ?_⟩
  cases hf : codeAmong gpos ps.toList with
  | none =>
    refine wpAny_genexprCodeX hcode (cd.code hP2 ht) (cd.tab hP2) hf fun c' h' tk hx hge hlt hco' _ htab' _ => ?_
    obtain ⟨o1, vs, f1, tf, fl, tg, inF, tx, tt, op, _, _, _, _, _, _, _, _, _, htr, _⟩ := hco'
    exact cont _ h' tk _ hx (Nat.le_trans hge (Nat.le_of_lt hlt)) htab'.2 ⟨_, rfl⟩ htr
  | some cv =>
    refine wpAny_genexprCode_hit hcode (cd.code hP2 ht) hf ?_
    exact cont cv (s1.heap.push o) s1.toks ps (Heap.ExtBut.refl _ _) (Nat.le_refl _) hP2 ⟨#[], by simp⟩ ht

/-- all(e for x in it): the reading -/
def tAllF (X : Cx) (scope : Scope) (x : Str) (elt : Expr) (P : Addr) (te : TE) : TE := fun σ H Q => te σ H fun v H1 => TabG H1 P ∧ ∃ n tr, Feed X σ scope x elt P v H1 n tr ∧ ∀ H2, Tabbed P H1 H2 → Q (.bl ((List.range n).all tr)) H2
theorem boot_all' : bootBuiltins "all" = some (.builtin "all") := by decide +kernel
theorem pe_allF {c P : Addr} {elt iter : Expr} {x : Str} {px p pos gpos : Pos} {scope : Scope} {te : TE} {k : Nat}
    (hr : Room k X.A) (hg : Gl X "all") (hm : X.mg "all" = none) (TB : TabB X.base X.mg c P) (hcode : X.env.code = .ref c) (S : GenS X.env scope x) (hi : PE X iter te)
    (hs : ∀ v, genFold iter X.env v = pure v)
    (he : starEach [.GeneratorExp elt [⟨.Name x px, iter, [], 0⟩] scope gpos] X.env = (false, eval (.GeneratorExp elt [⟨.Name x px, iter, [], 0⟩] scope gpos) X.env) :: starEach [] X.env := by rfl) :
    PE X (.Call (.Name "all" p) [.GeneratorExp elt [⟨.Name x px, iter, [], 0⟩] scope gpos] [] pos) (tAllF X scope x elt P te) := by
  refine ⟨fun pins s σ H Q I h => ?_⟩
  refine wpAny_Call_Name_kw (ld_blt I hg hm boot_all' (callWith_builtin1 ?_ he (by rfl)))
  rw [he]
  show wpAny _ _ (spliced ((false, eval (.GeneratorExp elt [⟨.Name x px, iter, [], 0⟩] scope gpos) X.env) :: backTo pos (starEach [] X.env))) _ _ s
  refine Calls.spliced_cons (gen_feed (R := fun n tr H1 => ∀ H2, Tabbed P H1 H2 → Q (.bl ((List.range n).all tr)) H2) hr TB hcode S hi hs I h fun n tr H1 g s5 hR hG => ?_)
  obtain ⟨fp, wr, G, F, St, W, hst, htr, hI⟩ := hG
  refine Calls.spliced_nil (call_all_walkS (W.self 0 _ _ _ hst ⟨g, fp, wr, G, _, F, St, _, rfl, W, hst, htr, fun s' hmv => ?_⟩))
  obtain ⟨H2, hT, J⟩ := hI s' hmv
  exact ⟨.bl _, H2, J, rfl, hR H2 hT⟩
end
end Zn
set_option Elab.async false
set_option linter.all false
set_option maxRecDepth 100000
set_option maxHeartbeats 4000000
/-! Quiet evaluation: expressions whose value leaves all that stood, at the level of the machine (for the elements of generator expressions). -/
namespace Zn
open PySem PySem.Spec PyProof.Rows L2 GxR

/-- what of the module every state of a body holds -/
structure Gnd (X : Cx) (h : Heap) : Prop where
  kin : X.K.In h
  glob : h.Ns mainGlobals X.mg
  blt : ∃ mb, h.Ns builtinsNs mb ∧ ∀ x : Str, x ≠ "__name__" → mb x = bootBuiltins x
  nl : h.NoLimit
theorem Gnd.keeps {X : Cx} {h h' : Heap} (g : Gnd X h) (k : ∀ b o, h.get? b = some o → h'.get? b = some o) : Gnd X h' :=
  ⟨g.kin.keeps k, g.glob.keeps k, let ⟨mb, a, b⟩ := g.blt; ⟨mb, a.keeps k, b⟩, g.nl.keeps k⟩
theorem gnd_of {X : Cx} {pins : List (Addr × Obj)} {σ : L2.St} {H : Hp} {s1 : Shared} {P : Addr} {ps : Array Value} {h2 : Heap} (I : Inv X pins σ H s1) (hP : H P = some (.tbl ps))
    (k : ∀ b o, b ≠ P → s1.heap.get? b = some o → h2.get? b = some o) : Gnd X h2 := by
  have kk : ∀ b o, X.base.get? b = some o → h2.get? b = some o := fun b o e => by
    obtain ⟨e1, e2⟩ := I.bs b o e
    refine k b o (fun z => ?_) e1
    rw [z, hP] at e2
    cases e2
  exact ⟨I.mod.kin.keeps kk, I.mod.glob.keeps kk, let ⟨mb, a, b⟩ := I.mod.blt; ⟨mb, a.keeps kk, b⟩, I.mod.nolimit.keeps kk⟩

theorem ktr {s s' s'' : Shared} (a : Keeps s s') (b : Keeps s' s'') : Keeps s s'' := by
  obtain ⟨h1, t1, rfl, k1⟩ := a
  obtain ⟨h2, t2, rfl, k2⟩ := b
  exact ⟨h2, t2, rfl, fun b o e => k2 b o (k1 b o e)⟩
theorem kup {s s' : Shared} (a : Keeps s s') : ∀ b o, s.heap.get? b = some o → s'.heap.get? b = some o := by
  obtain ⟨h1, t1, rfl, k1⟩ := a
  exact k1

def QE (X : Cx) (A : Around) (env : Env) (h0 : Heap) (e : Expr) (R : Value → Prop) : Prop :=
  ∀ (s : Shared) (E : Value → Shared → Prop), (∀ b o, h0.get? b = some o → s.heap.get? b = some o) → wpAny (model X.prog X.w) A (eval e env) (fun z s3 => R z ∧ Keeps s s3) E s
def QA (X : Cx) (A : Around) (env : Env) (h0 : Heap) (es : List Expr) (R : List Value → Prop) : Prop :=
  ∀ (pos : Pos) (s : Shared) (E : Value → Shared → Prop), (∀ b o, h0.get? b = some o → s.heap.get? b = some o) →
    wpAny (model X.prog X.w) A (spliced (backTo pos (starEach es env))) (fun us s3 => R us ∧ Keeps s s3) E s

section
variable {X : Cx} {A : Around} {env : Env} {h0 : Heap} {e a b : Expr} {R : Value → Prop} {pos p : Pos} {x : Str}
theorem QE.mono {R' : Value → Prop} (h : QE X A env h0 e R) (i : ∀ z, R z → R' z) : QE X A env h0 e R' := fun s E k => thn (h s E k) fun z s3 q => ⟨i z q.1, q.2⟩
theorem qe_loc {m : Str → Option Value} {v : Value} (hk : env.scope.kind = .function) (hx : env.kindOf x = some .local) (hn : h0.Ns env.locals m) (hm : m x = some v) (hd : (x == ("__debug__" : Str)) = false := by decide) :
    QE X A env h0 (.Name x p) (fun z => z = v) := fun s E k => wpAny_Name (wpAny_loadName_local hk hx (hn.keeps k) hm ⟨rfl, keeps_refl _⟩) hd
theorem qe_free {c : Addr} {v : Value} (hk : env.scope.kind = .function) (hx : env.kindOf x = some .free) (hc : env.cells.lookup x = some c) (hv : h0.IsCell c (some v)) (hd : (x == ("__debug__" : Str)) = false := by decide)
    (hd2 : (x == ("__classdict__" : Str)) = false := by decide) : QE X A env h0 (.Name x p) (fun z => z = v) := fun s E k => wpAny_Name (wpAny_loadName_free hk hx hc (hv.keeps k) ⟨rfl, keeps_refl _⟩ hd2) hd
theorem qe_int {i : Int} {j : Nat} : QE X A env h0 (.Constant (.int i) j p) (fun z => ∃ t, z = .int i t) := fun s E k => wpAny_Constant_int ⟨⟨_, rfl⟩, keeps_tok _ _⟩
theorem qe_str {i : Str} {j : Nat} : QE X A env h0 (.Constant (.str i) j p) (fun z => ∃ t, z = .str i t) := fun s E k => Calls.Constant_str ⟨⟨_, rfl⟩, keeps_tok _ _⟩
theorem qe_and {u v : Bool} (ha : QE X A env h0 a (fun z => z = .bool u)) (hb : u = true → QE X A env h0 b (fun z => z = .bool v)) : QE X A env h0 (.BoolOp .And [a, b] p) (fun z => z = .bool (u && v)) := fun s E k => by
  refine BoolOp_and (thn (ha s E k) fun z s1 q => ?_)
  obtain ⟨rfl, k1⟩ := q
  refine wpAny_truthy_bool ?_
  cases u with
  | false => exact ⟨rfl, k1⟩
  | true => exact thn (BoolOp_one (hb rfl s1 E fun b o z => kup k1 b o (k b o z))) fun z s2 q => ⟨by rw [q.1, Bool.true_and], ktr k1 q.2⟩
theorem qe_cmp {op : CmpOp} {Ra Rb : Value → Prop} (ha : QE X A env h0 a Ra) (hb : QE X A env h0 b Rb)
    (h : ∀ y z s E, Ra y → Rb z → wpAny (model X.prog X.w) A (compareOp op y z) (fun r s3 => R r ∧ Keeps s s3) E s) (hm : behindInMarks op b = false := by with_unfolding_all rfl) :
    QE X A env h0 (.Compare a [op] [b] p) R := fun s E k => by
  refine wpAny_Compare1 (thn (ha s E k) fun y s1 q1 => ?_) hm
  refine thn (hb s1 E fun b o z => kup q1.2 b o (k b o z)) fun z s2 q2 => ?_
  exact thn (h y z s2 E q1.1 q2.1) fun r s3 q3 => ⟨q3.1, ktr (ktr q1.2 q2.2) q3.2⟩
theorem qe_lt {i j : Int} (ha : QE X A env h0 a (fun z => ∃ t, z = .int i t)) (hb : QE X A env h0 b (fun z => ∃ t, z = .int j t)) : QE X A env h0 (.Compare a [.Lt] [b] p) (fun z => z = .bool (decide (i < j))) :=
  qe_cmp ha hb (fun y z s E ⟨t, e1⟩ ⟨u, e2⟩ => by rw [e1, e2]; exact PySem.P.lt_int ⟨rfl, keeps_refl _⟩) (nomark _)
theorem qe_ge {i j : Int} (ha : QE X A env h0 a (fun z => ∃ t, z = .int i t)) (hb : QE X A env h0 b (fun z => ∃ t, z = .int j t)) : QE X A env h0 (.Compare a [.GtE] [b] p) (fun z => z = .bool (decide (i ≥ j))) :=
  qe_cmp ha hb (fun y z s E ⟨t, e1⟩ ⟨u, e2⟩ => by rw [e1, e2]; exact PySem.P.ge_int ⟨rfl, keeps_refl _⟩) (nomark _)
theorem qe_not {v : Bool} (ha : QE X A env h0 a (fun z => z = .bool v)) : QE X A env h0 (.UnaryOp .Not a p) (fun z => z = .bool (!v)) := fun s E k => by
  refine UnaryOp_ (thn (ha s E k) fun z s1 q => ?_)
  obtain ⟨rfl, k1⟩ := q
  exact not_of (wpAny_truthy_bool ⟨rfl, k1⟩)
theorem qe_chain {op op' : CmpOp} {c : Expr} {Ra Rb Rc : Value → Prop} {u v : Bool} (ha : QE X A env h0 a Ra) (hb : QE X A env h0 b Rb) (hc : QE X A env h0 c Rc)
    (h1 : ∀ y z s E, Ra y → Rb z → wpAny (model X.prog X.w) A (compareOp op y z) (fun r s3 => r = .bool u ∧ Keeps s s3) E s) (h2 : ∀ y z s E, Rb y → Rc z → wpAny (model X.prog X.w) A (compareOp op' y z) (fun r s3 => r = .bool v ∧ Keeps s s3) E s)
    (hm : lastMarks [op, op'] [b, c] = false := by with_unfolding_all rfl) :
    QE X A env h0 (.Compare a [op, op'] [b, c] p) (fun z => z = .bool (u && v)) := fun s E k => by
  refine Compare_chain (thn (ha s E k) fun y s1 q1 => chain_link (thn (hb s1 E fun b o z => kup q1.2 b o (k b o z)) fun z s2 q2 => thn (h1 y z s2 E q1.1 q2.1) fun r s3 q3 => ?_)) hm
  obtain ⟨rfl, k3⟩ := q3
  have k13 := ktr (ktr q1.2 q2.2) k3
  refine wpAny_truthy_bool ?_
  cases u with
  | false => exact ite_ff ⟨rfl, k13⟩
  | true =>
    refine ite_tt (chain_last (thn (hc s3 E fun b o z => kup k13 b o (k b o z)) fun y' s4 q4 => thn (h2 z y' s4 E q2.1 q4.1) fun r s5 q5 => ⟨by rw [q5.1, Bool.true_and], ktr (ktr k13 q4.2) q5.2⟩))
theorem qe_lelt {i j l : Int} {c : Expr} (ha : QE X A env h0 a (fun z => ∃ t, z = .int i t)) (hb : QE X A env h0 b (fun z => ∃ t, z = .int j t)) (hc : QE X A env h0 c (fun z => ∃ t, z = .int l t)) 
    (hm : lastMarks [.LtE, .Lt] [b, c] = false := by with_unfolding_all rfl) :
    QE X A env h0 (.Compare a [.LtE, .Lt] [b, c] p) (fun z => z = .bool (decide (i ≤ j) && decide (j < l))) :=
  qe_chain ha hb hc (fun y z s E ⟨t, e1⟩ ⟨u, e2⟩ => by rw [e1, e2]; exact PySem.P.le_int ⟨rfl, keeps_refl _⟩) (fun y z s E ⟨t, e1⟩ ⟨u, e2⟩ => by rw [e1, e2]; exact PySem.P.lt_int ⟨rfl, keeps_refl _⟩) hm
theorem qe_lele {i j l : Str} {c : Expr} (ha : QE X A env h0 a (fun z => ∃ t, z = .str i t)) (hb : QE X A env h0 b (fun z => ∃ t, z = .str j t)) (hc : QE X A env h0 c (fun z => ∃ t, z = .str l t)) 
    (hm : lastMarks [.LtE, .LtE] [b, c] = false := by with_unfolding_all rfl) :
    QE X A env h0 (.Compare a [.LtE, .LtE] [b, c] p) (fun z => z = .bool (!decide (j.cps.toList < i.cps.toList) && !decide (l.cps.toList < j.cps.toList))) :=
  qe_chain ha hb hc (fun y z s E ⟨t, e1⟩ ⟨u, e2⟩ => by rw [e1, e2]; exact PySem.P.le_str ⟨rfl, keeps_refl _⟩) (fun y z s E ⟨t, e1⟩ ⟨u, e2⟩ => by rw [e1, e2]; exact PySem.P.le_str ⟨rfl, keeps_refl _⟩) hm
theorem qa_nil : QA X A env h0 [] (fun us => us = []) := fun pos s E k => Calls.spliced_nil ⟨rfl, keeps_refl _⟩
theorem qa_cons {es : List Expr} {Ra : Value → Prop} {Rs : List Value → Prop} (ha : QE X A env h0 a Ra) (hs : QA X A env h0 es Rs) (he : starEach (a :: es) env = (false, eval a env) :: starEach es env := by rfl) :
    QA X A env h0 (a :: es) (fun us => ∃ u r, us = u :: r ∧ Ra u ∧ Rs r) := fun pos s E k => by
  rw [he]
  show wpAny _ _ (spliced ((false, eval a env) :: backTo pos (starEach es env))) _ _ s
  refine Calls.spliced_cons (thn (ha s E k) fun u s1 q1 => ?_)
  exact thn (hs pos s1 E fun b o z => kup q1.2 b o (k b o z)) fun r s2 q2 => ⟨⟨u, r, rfl, q1.1, q2.1⟩, ktr q1.2 q2.2⟩
theorem qe_callB {id : String} {es : List Expr} {Rs : List Value → Prop} (hk : env.scope.kind = .function) (hg : env.kindOf x = some .globalImplicit) (gl : env.globals = mainGlobals) (bu : env.builtins = builtinsNs) (G : Gnd X h0) (hm : X.mg x = none) (hv : bootBuiltins x = some (.builtin id))
    (ha : QA X A env h0 (a :: es) Rs) (h : ∀ us s E, Rs us → Gnd X s.heap → wpAny (model X.prog X.w) A (call (.builtin id) us) (fun r s3 => R r ∧ Keeps s s3) E s) (hn : x ≠ "__name__" := by decide) (hdb : (x == ("__debug__" : Str)) = false := by decide)
    (he : starEach (a :: es) env = (false, eval a env) :: starEach es env := by rfl) (hpl : (backTo pos (starEach es env)).any (·.1) = false := by rfl) : QE X A env h0 (.Call (.Name x p) (a :: es) [] pos) R := fun s E k => by
  have g := G.keeps k
  obtain ⟨mb, b1, b2⟩ := g.blt
  refine wpAny_Call_Name_kw (Calls.Name_function_global hk hg (Calls.loadGlobal_builtin (by rw [gl]; exact g.glob) hm (by rw [bu]; exact b1) ((b2 x hn).trans hv) ?_) hdb)
  refine callWith_builtin1 (thn (ha pos s E k) fun us s1 q1 => ?_) he hpl
  exact thn (h us s1 E q1.1 (g.keeps (kup q1.2))) fun r s2 q2 => ⟨q2.1, ktr q1.2 q2.2⟩
theorem qe_callF {f : Addr} {es : List Expr} {Rs : List Value → Prop} (hk : env.scope.kind = .function) (hg : env.kindOf x = some .globalImplicit) (gl : env.globals = mainGlobals) (G : Gnd X h0) (hm : X.mg x = some (.ref f)) (hkp : PySem.W.keepIn X.K (.ref f) = true)
    (ha : QA X A env h0 (a :: es) Rs) (h : ∀ us s E, Rs us → Gnd X s.heap → wpAny (model X.prog X.w) A (call (.ref f) us) (fun r s3 => R r ∧ Keeps s s3) E s) (hdb : (x == ("__debug__" : Str)) = false := by decide)
    (he : starEach (a :: es) env = (false, eval a env) :: starEach es env := by rfl) (hpl : (backTo pos (starEach es env)).any (·.1) = false := by rfl) : QE X A env h0 (.Call (.Name x p) (a :: es) [] pos) R := fun s E k => by
  have g := G.keeps k
  refine wpAny_Call_Name_kw (Calls.Name_function_global hk hg (Calls.loadGlobal_global (by rw [gl]; exact g.glob) hm ?_) hdb)
  refine PySem.W.callWith_K (h₀ := h0) G.kin hkp (thn (ha pos s E k) fun us s1 q1 => ⟨(g.keeps (kup q1.2)).kin, ?_⟩) he hpl
  exact thn (h us s1 E q1.1 (g.keeps (kup q1.2))) fun r s2 q2 => ⟨q2.1, ktr q1.2 q2.2⟩
theorem boot_isi : bootBuiltins "isinstance" = some (.builtin "isinstance") := by decide +kernel
/-- isinstance(x, T), by the kind of x's value -/
theorem qe_isi {T : String} {Rx : Value → Prop} {v : Bool} {pT : Pos} {nT : Str} (hk : env.scope.kind = .function) (hg : env.kindOf "isinstance" = some .globalImplicit) (gl : env.globals = mainGlobals) (bu : env.builtins = builtinsNs) (G : Gnd X h0) (hm : X.mg "isinstance" = none)
    (hgT : env.kindOf nT = some .globalImplicit) (hmT : X.mg nT = none) (hvT : bootBuiltins nT = some (.type T)) (hx : QE X A env h0 a Rx)
    (h : ∀ u s E, Rx u → wpAny (model X.prog X.w) A (call (.builtin "isinstance") [u, .type T]) (fun r s3 => r = .bool v ∧ Keeps s s3) E s) (hnT : nT ≠ "__name__" := by decide) (hdT : (nT == ("__debug__" : Str)) = false := by decide)
    (he : starEach [a, .Name nT pT] env = (false, eval a env) :: starEach [.Name nT pT] env := by rfl) :
    QE X A env h0 (.Call (.Name "isinstance" p) [a, .Name nT pT] [] pos) (fun z => z = .bool v) := by
  have hT : QE X A env h0 (.Name nT pT) (fun z => z = .type T) := fun s E k => by
    have g := G.keeps k
    obtain ⟨mb, b1, b2⟩ := g.blt
    exact Calls.Name_function_global hk hgT (Calls.loadGlobal_builtin (by rw [gl]; exact g.glob) hmT (by rw [bu]; exact b1) ((b2 nT hnT).trans hvT) ⟨rfl, keeps_refl _⟩) hdT
  refine qe_callB (id := "isinstance") hk hg gl bu G hm boot_isi (qa_cons hx (qa_cons hT qa_nil) he) (fun us s E hu G' => ?_) (by decide) (by decide) he (by rfl)
  obtain ⟨u, r, rfl, hu1, u2, r2, rfl, rfl, rfl⟩ := hu
  exact h u s E hu1
/-- the call of a def of one returned expression -/
theorem call_pure {f : Addr} {fd : FuncData} {xn qual : Str} {st : Stmt} {N ps : List Str} {us : List Value} {s : Shared} {E : Value → Shared → Prop} (F : Fun X.K xn qual st f fd) (S : FnScope N ps (defScope st)) (hb : defBody st = [.Return (some e) pos])
    (hbi : BindsTo s fd ⟨us, []⟩ (ps.zip us)) (hd : A.depth < recursionLimit) (G : Gnd X s.heap) (hl : us.length = ps.length)
    (h : ∀ (env : Env) (h1 : Heap) (m : Str → Option Value), env.scope = defScope st → env.globals = mainGlobals → env.builtins = builtinsNs → Gnd X h1 → h1.Ns env.locals m → (∀ (i : Nat) (y : Str) (u : Value), ps[i]? = some y → us[i]? = some u → env.kindOf y = some .local → m y = some u) →
      QE X (A.deeper env) env h1 e R) : wpAny (model X.prog X.w) A (call (.ref f) us) (fun z s3 => R z ∧ Keeps s s3) E s := by
  obtain ⟨oc, od, kV, doc, pm, an, cdv, ct, osl, rfl, lk, hcd⟩ := F.ex
  have hkind : ∀ y ∈ ps.zip us, (defScope st).names.lookup y.1 = some .local ∨ ((defScope st).names.lookup y.1 = some .cell ∧ ((cellsFrom (s.heap.objs.size + 1) (defScope st).names []).lookup y.1).isSome = true) := fun ⟨n, v⟩ hy => by
    rcases S.par n (List.of_mem_zip hy).1 with q | q
    · exact .inl q
    · exact .inr ⟨q, PySem.W.cellsFrom_some _ _ _ (.inl q)⟩
  refine wpAny_call (codeAny_call_function hd (G.kin _ _ lk) rfl S.co S.gen rfl (PySem.W.codeRec_of G.kin hcd) (hbi _ _ _ _ ?_))
  refine wpAny_newFunctionEnv_cells S.kind hkind fun env he s1 x => ?_
  subst he
  obtain ⟨h1, tk, es1, hk1⟩ := x.done
  have ndP : ps.Nodup := by rw [← S.pre]; exact S.nd.sublist (List.take_sublist _ _)
  have g1 : Gnd X s1.heap := G.keeps x.toInCall.keep
  refine ⟨g1.nl, codeAny_func ?_⟩
  show wpAny _ _ (execs (defBody st) _) _ _ _
  rw [hb]
  refine wpAny_execs_cons (wpAny_Return_some (thn (h _ s1.heap _ rfl rfl rfl g1 x.toInCall.ns (fun i y u h1 h2 h3 => bindL_get ndP h1 h2 h3) s1 _ fun _ _ z => z) fun z s2 q => ?_))
  refine ⟨q.1, ktr ⟨h1, tk, es1, ?_⟩ q.2⟩
  exact hk1
end
end Zn
set_option Elab.async false
set_option linter.all false
set_option maxRecDepth 100000
set_option maxHeartbeats 4000000
/-! Rules that the layer lacks: repr of data, list(text), a starred text in a display, x in a tuple of data, enumerate(tuple). -/
namespace Zn
open PySem PySem.Spec PyProof.Rows L2 GxR
section
variable {X : Cx}
theorem vals_one {x : V} {us : List Value} (r : Vals [x] us) : ∃ u, us = [u] ∧ RelV x u := by
  cases r with
  | cons a b =>
    cases b
    exact ⟨_, rfl, a⟩
/-- repr(x), where nothing else is being told (the guards around are none) -/
def rRepr (K : PySem.W.Frag) : List V → Hp → VK → Prop := fun xs H Q => ∃ x d, xs = [x] ∧ Dp K H x d ∧ PyData.showable d = true ∧ d.hasDict = false ∧ d.depth ≤ 60 ∧ d.shown.length ≤ sizeLine ∧ ((∃ a, x = .ref a) ∨ ∃ z, x = .str z) ∧ Q (.str d.shown) H
theorem cr_repr (hg : X.A.guards = some []) (hu : X.A.units + 64 < cLine) : CallR X (.builtin "repr") (rRepr X.K) := by
  intro pins s σ H xs us Q I r h
  obtain ⟨x, d, rfl, hd, hs, hn, hdp, hz, hx, q⟩ := h
  obtain ⟨u, rfl, ru⟩ := vals_one r
  rcases hx with ⟨a, rfl⟩ | ⟨z, rfl⟩
  · obtain ⟨as, rd⟩ := Dp.reads I d _ u hd ru
    cases ru
    exact repr_of_reads' rd hs (fun e => by rw [hn] at e; cases e) hg (by omega) (fun _ _ e => e) (fun h' u tk hk => ⟨.str d.shown, H, I.kept (t' := tk) hk, ⟨_, rfl⟩, q⟩) hz
  · obtain ⟨t, rfl⟩ := ru
    cases hd
    simp only [PyData.shown] at hz q
    exact PySem.P.repr_of_str ⟨.str _, H, I.tok _, ⟨_, rfl⟩, q⟩ hz

/-- the signs of a text, each a text -/
def signs (z : Str) : List V := z.cps.toList.map fun c => V.str ⟨#[c]⟩
theorem signs_length (z : Str) : (signs z).length = z.cps.size := by
  unfold signs
  rw [List.length_map, Array.length_toList]
theorem vals_signs {z : Str} {acc : Array Value} (h : ItemsOf (SignAt z) acc z.cps.size) : Vals (signs z) acc.toList := by
  obtain ⟨hs, hi⟩ := h
  have key : ∀ (l : List Nat) (us : List Value), l.length = us.length → (∀ (j : Nat) (c : Nat), l[j]? = some c → ∃ u, us[j]? = some (.str ⟨#[c]⟩ u)) → Vals (l.map fun c => V.str ⟨#[c]⟩) us := by
    intro l
    induction l with
    | nil =>
      intro us e _
      cases us with
      | nil => exact .nil
      | cons _ _ => cases e
    | cons c r ih =>
      intro us e g
      cases us with
      | nil => cases e
      | cons u us =>
        obtain ⟨t, ht⟩ := g 0 c rfl
        have ht' : u = .str ⟨#[c]⟩ t := by simpa using ht
        refine .cons ⟨t, ht'⟩ (ih us (by simpa using e) fun j c' hj => ?_)
        obtain ⟨t2, e2⟩ := g (j + 1) c' (by simpa using hj)
        exact ⟨t2, by simpa using e2⟩
  refine key z.cps.toList acc.toList (by simp [hs]) fun j c hj => ?_
  have hj' : z.cps[j]? = some c := by rw [← hj]; simp
  have hlt : j < acc.size := by
    rw [hs]
    exact (Array.getElem?_eq_some_iff.mp hj').1
  obtain ⟨c2, u, e1, e2⟩ := hi j acc[j] (by simp [hlt])
  rw [hj'] at e1
  cases e1
  exact ⟨u, by simp [hlt, e2]⟩
/-- list(text) -/
def rListS : List V → Hp → VK → Prop := fun xs H Q => ∃ z : Str, xs = [.str z] ∧ z.cps.size ≤ sizeLine ∧ ∀ l, H l = none → Q (.ref l) (upd H l (.lst (signs z)))
theorem cr_listS (hc : X.A.handled = none) : CallR X (.type "list") rListS := by
  intro pins s σ H xs us Q I r h
  obtain ⟨z, rfl, hz, q⟩ := h
  obtain ⟨u, rfl, t, rfl⟩ := vals_one r
  refine call_list_str hc z t (fun h' tk acc' c' hk hS hacc => ?_) hz
  have hf : H s.heap.objs.size = none := I.hok.fresh (Nat.le_refl _)
  have new : ObjOk X.prog X.w (upd H s.heap.objs.size (.lst (signs z))) h' s.heap.objs.size (.lst (signs z)) := ⟨by rw [signs_length]; exact hz, acc'.toList, c', vals_signs hacc, by simpa using hS⟩
  exact ⟨.ref _, _, I.laid (t' := tk) hk (Nat.le_refl _) new, rfl, q _ hf⟩
/-- *text in a display -/
def tStarS (te : TE) (t : TA) : TA := fun σ H Q => te σ H fun x H1 => ∃ z : Str, x = .str z ∧ z.cps.size ≤ sizeLine ∧ t σ H1 fun ys H2 => Q (signs z ++ ys) H2
theorem sh_all (s s' : Shared) (h1 : s'.gens = s.gens) (h2 : s'.drawn = s.drawn) (h3 : s'.os = s.os) : ({ s with heap := s'.heap, toks := s'.toks } : Shared) = s' := by
  cases s'
  cases h1
  cases h2
  cases h3
  rfl
theorem pa_starS {e : Expr} {es : List Expr} {te : TE} {t : TA} {p : Pos} (hc : X.A.handled = none) (he : PE X e te) (hr : PA X es t) (hs : starEach (.Starred e p :: es) X.env = (true, eval e X.env) :: starEach es X.env := by rfl) : PA X (.Starred e p :: es) (tStarS te t) := by
  refine ⟨fun pos pins s σ H Q I h => ?_⟩
  refine PySem.W.items_star (thn (he.run pins s σ H _ I h) fun v s1 hv => ?_) hs
  obtain ⟨y, H1, I1, ry, z, rfl, hz, q⟩ := hv
  obtain ⟨tk, rfl⟩ := ry
  have main : wpAny (model X.prog X.w) X.A (collect (.str z tk)) (fun us s2 => wpAny (model X.prog X.w) X.A (spliced (backTo pos (starEach es X.env))) (fun ws s3 => AP X pins σ Q (us ++ ws) s3) X.xe s2) X.xe s1 := by
    refine wpAny_collect_str hc z tk (fun s' acc hk hg hd ho hacc => ?_) hz
    have J : Inv X pins σ H1 s' := by
      have := I1.kept (h' := s'.heap) (t' := s'.toks) hk
      rw [sh_all s1 s' hg hd ho] at this
      exact this
    exact thn (hr.run pos pins s' σ H1 _ J q) fun ws s3 hw => by
      obtain ⟨vs, H3, I3, r3, q3⟩ := hw
      exact ⟨signs z ++ vs, H3, I3, (vals_signs hacc).append r3, q3⟩
  unfold PySem.W.StarOf notIterableAtAll
  exact wpAny_bind (wpAny_specialOf (typeIs_str s1 z tk) PySem.F.slot_str_iter.lookup (wpAny_pure ⟨rfl, main⟩))

/-- x in t, t a tuple of data -/
def rInT (K : PySem.W.Frag) : R2 := fun x y H Q => ∃ d ds, Dp K H x d ∧ Dp K H y (.tuple ds) ∧ SeqAt.shaped d = true ∧ SeqAt.shaped (.tuple ds) = true ∧ Q (.bl (ds.any fun z => PyData.eqv z d)) H
theorem op_inT (hu : X.A.units + 65 < cLine) : OpR X (compareOp .In) (rInT X.K) := by
  intro pins s σ H x y v u Q I rx ry h
  obtain ⟨d, ds, hd, he, sd, se, q⟩ := h
  obtain ⟨as, r1⟩ := Dp.reads I d x v hd rx
  obtain ⟨bs, r2⟩ := Dp.reads I (.tuple ds) y u he ry
  exact SeqAt.in_tuple_reads r2 r1 (SeqAt.canLay_of_shaped se) (SeqAt.canLay_of_shaped sd) (room_in_shaped sd hu) ⟨.bl _, H, I, rfl, q⟩
end

/-! ### enumerate(tuple) -/
set_option maxHeartbeats 1000000 in
theorem meets_enumT {v : Value} {o : Obj} {G : Heap → Prop} (B : Begins v o G) :
    Meets (Builtin.«enumerate.__new__» ⟨[.type "enumerate", v], []⟩) (fun _ R s => G s.heap ∧
      R (.ok (.ret (.ref (s.heap.push o).objs.size))) { s with heap := (s.heap.push o).push { cls := .type "enumerate", data := .fields #[.none, .bool false, .ref s.heap.objs.size, rawInt 0, .none, .none] } }) :=
  .of_wp fun prog w A R s h => by
    obtain ⟨hp, g, d, tk, os⟩ := s
    obtain ⟨h1, h⟩ := h
    have hsub := sub_enumerate
    have q1 : ∀ {A' : Around} {E : Value → Shared → Prop} {Q : Value → Shared → Prop}, Q (.ref hp.objs.size) ⟨hp.push o, g, d, tk, os⟩ → wpAny (model prog w) A' (pyIter v) Q E ⟨hp, g, d, tk, os⟩ :=
      fun q => B.iter prog w _ _ ⟨hp, g, d, tk, os⟩ _ h1 q
    wp_walk using q1
    refine wpAny_stack_any fun st => wpAny_pure ?_
    split
    · rename_i c _ _ _ _ _
      cases (c == Value.type "enumerate")
      · wp_walk using q1
        exact ⟨_, rfl, h⟩
      · wp_walk using q1
        exact ⟨_, rfl, h⟩
    · wp_walk using q1
      exact ⟨_, rfl, h⟩
section
variable {prog : Program} {w : World} {A : Around} {E : Value → Shared → Prop} {s : Shared}
theorem call_enumB {v : Value} {o : Obj} {G : Heap → Prop} {Q : Value → Shared → Prop} (B : Begins v o G) (h1 : G s.heap)
    (h : ∀ h', IsEnum h' (s.heap.objs.size + 1) s.heap.objs.size 0 .none → h'.get? s.heap.objs.size = some o → h'.objs.size = s.heap.objs.size + 2 →
      (∀ b o, s.heap.get? b = some o → h'.get? b = some o) → Q (.ref (s.heap.objs.size + 1)) { s with heap := h' }) : wpAny (model prog w) A (call (.type "enumerate") [v]) Q E s := by
  refine callType_new F.called_enumerate (by decide) (F.typeCall_enumerate_1 _) (F.newCall_enumerate_1 _) (fun obj => F.args_object_init_2 obj _) F.entry_enumerate_new (meets_enumT B) ⟨h1, ?_⟩
  have hz : (s.heap.push o).objs.size = s.heap.objs.size + 1 := Heap.size_push ..
  show _ ∧ _
  rw [hz]
  have he : IsEnum ((s.heap.push o).push { cls := .type "enumerate", data := .fields #[.none, .bool false, .ref s.heap.objs.size, rawInt 0, .none, .none] }) (s.heap.objs.size + 1) s.heap.objs.size 0 .none := by
    have q := Heap.get?_push_size (s.heap.push o) (o := { cls := .type "enumerate", data := .fields #[.none, .bool false, .ref s.heap.objs.size, rawInt 0, .none, .none] }) rfl
    rw [hz] at q
    exact q
  exact ⟨⟨_, he, rfl⟩, h _ he (Heap.get?_push_of_some _ (Heap.get?_push_size _ B.free)) (by rw [Heap.size_push, hz]) fun b o x => Heap.get?_push_of_some _ (Heap.get?_push_of_some _ x)⟩
end
theorem next_enum_endT {prog : Program} {w : World} {A : Around} {E : Value → Shared → Prop} {s : Shared} {e it t : Addr} {i : Nat} {c : Int} {items : Array Value} {old : Value} {Q : Option Value → Shared → Prop} (hh : A.handled = none)
    (he : IsEnum s.heap e it c old) (hit : s.heap.IsTupleIter it t i) (ht : s.heap.IsTuple t items) (hx : items[i]? = none) (hQ : ∀ h', Heap.ExtBut it s.heap h' → Q none { s with heap := h' }) : wpAny (model prog w) A (pyNext (.ref e)) Q E s := by
  have hT : s.TypeIs (.ref e) "enumerate" := ⟨_, he, rfl⟩
  unfold pyNext
  refine wpAny_bind (wpAny_attempt (wpAny_callSpecial?_slot (name := Str.ofString "__next__") hT F.slot_enumerate_next (wpAny_call_entry F.slot_enumerate_next hT F.entry_enumerate_next ?_ (F.args_enumerate_next_1 _))))
  show wpAny _ _ (field (.ref e) 2 >>= _) _ _ _
  refine wpAny_bind (wpAny_field he rfl (x := .ref it) rfl (wpAny_bind (wpAny_nextOf_tuple_end hh hit ht hx fun h' x he' hx' => ?_)))
  obtain ⟨o, ho, hc⟩ := hx'
  exact wpAny_bind (wpAny_isInstance (T := "StopIteration") (b := true) ⟨o, ho, hc⟩ isSubtype_stop (wpAny_pure (hQ _ he')))
/-- the tuple at a, each item in a new pair with its place -/
def ItT (K : PySem.W.Frag) (a : Addr) : It :=
  ⟨fun i H => ∃ (xs : List V) (x : V), SqT K H a xs ∧ xs[i]? = some x, fun i H v H' => ∃ T x, v = .ref T ∧ H T = none ∧ H' = upd H T (.tup [.int (i : Nat), x]) ∧ ∀ xs, SqT K H a xs → xs[i]? = some x, fun i H => ∃ xs : List V, SqT K H a xs ∧ xs.length ≤ i⟩
theorem turn_enumT {P : Program} {w : World} {K : PySem.W.Frag} {elts : List Expr} {kk : Nat} {tpos : Pos} (a e it : Addr) (hae : a ≠ e) (hai : a ≠ it) :
    Turn P w K (.Tuple elts kk tpos) (ItT K a) [e, it] e (fun i h => (∃ old, IsEnum h e it ((i : Nat) : Int) old) ∧ h.IsTupleIter it a i ∧ e ≠ it) where
  mem := by simp
  obj := fun i h st b hb => by
    obtain ⟨⟨old, he⟩, ⟨o, ho, hc, hd⟩, _⟩ := st
    have e' : b = e ∨ b = it := by simpa using hb
    rcases e' with z | z
    · rw [z]; exact ⟨_, he, fun v q => nomatch q⟩
    · rw [z]; exact ⟨o, ho, fun v q => by rw [hd] at q; cases q⟩
  keep := fun i h h' st k => by
    obtain ⟨⟨old, he⟩, hi, hne⟩ := st
    exact ⟨⟨old, k e (by simp) _ he⟩, hi.at fun o q => k it (by simp) o q, hne⟩
  item := by
    intro X hP hw hK hc i pins s σ H E I hf st hg
    subst hP hw hK
    obtain ⟨⟨old, he⟩, hit, hne⟩ := st
    obtain ⟨xs, x, hq, hx⟩ := hg
    obtain ⟨its, rv, p, hz⟩ := I.tuple hq
    obtain ⟨u, hu, ru⟩ := rv.get hx
    have hel := Heap.lt_size he
    have hil : it < s.heap.objs.size := by obtain ⟨_, q, _⟩ := hit; exact Heap.lt_size q
    have hu' : its.toArray[i]? = some u := by simpa using hu
    have hlt : i < its.toArray.size := (Array.getElem?_eq_some_iff.mp hu').1
    have hpt : s.heap.IsTuple a its.toArray := p
    have D := Draws.tuple (prog := X.prog) (w := X.w) (A := X.A.in1) (I.ok.hd hc) it a hai its.toArray
    refine wpAny_pyNext_enum_itemD D he ⟨hit, hpt⟩ hlt hne (by simp [hne, hae.symm]) fun x' h' tk hx' ho hst hT hsz hk => ?_
    rw [hu'] at hx'
    cases hx'
    refine ⟨_, rfl, wpAny_letOwnedTupleGo_enum (s := { s with heap := h', toks := tk + 1 }) ho fun h'' he' sb => ?_⟩
    have hT2 : h''.get? s.heap.objs.size = some { cls := .type "tuple", data := .seq #[.int i tk, u] } := (sb.2 _ (Nat.ne_of_gt hel)).trans hT
    have I1 : Inv X pins σ (upd H s.heap.objs.size (.tup [.int (i : Nat), x])) { s with heap := h'', toks := tk + 1 } :=
      I.turnedNew (ch := [e, it]) (fun b ob hb q => (sb.2 b (fun z => hb (by simp [z]))).trans (hk b ob (fun z => hb (by simp [z])) (fun z => hb (by simp [z])) q)) hf (Nat.le_refl _)
        ⟨by show 2 ≤ sizeLine; decide, [.int i tk, u], .cons ⟨_, rfl⟩ (.cons ru .nil), ⟨_, hT2, rfl, _, rfl⟩⟩
    refine ⟨.ref s.heap.objs.size, _, I1, rfl, ⟨_, x, rfl, I.hok.fresh (Nat.le_refl _), rfl, fun ys hy => by rw [I.tuple_inj hy hq]; exact hx⟩, ⟨⟨u, ?_⟩, hst.1.at fun o q => (sb.2 it (Ne.symm hne)).trans q, hne⟩, fun b hb => ?_⟩
    · have e1 : ((i + 1 : Nat) : Int) = (i : Int) + 1 := by omega
      rw [e1]
      exact he'
    · have hb' : b < s.heap.objs.size := by
        have e' : b = e ∨ b = it := by simpa using hb
        rcases e' with z | z
        · rw [z]; exact hel
        · rw [z]; exact hil
      rw [upd_ne (Nat.ne_of_lt hb')]
      exact (hf b hb).1
  done := by
    intro X hP hw hK hc i pins s σ H E I hf st hg
    subst hP hw hK
    obtain ⟨⟨old, he⟩, hit, hne⟩ := st
    obtain ⟨xs, hq, hx⟩ := hg
    obtain ⟨its, rv, p, hz⟩ := I.tuple hq
    obtain ⟨f0, f1, f2, f3, f4, f5⟩ := hf it (by simp)
    have hl := rv.length
    have hpt : s.heap.IsTuple a its.toArray := p
    have hx0 : its.toArray[i]? = none := Array.getElem?_eq_none_iff.mpr (by simp only [List.size_toArray]; omega)
    exact next_enum_endT (I.ok.hd hc) he hit hpt hx0 fun h' sb => ⟨rfl, I.turned (t' := s.toks) (fun b o hb q => sb b o hb q) f0 f1 f3 f4 f5⟩
  self := fun A i s Q E st h => let ⟨⟨_, he⟩, _⟩ := st; wpAny_pyIter_enum he h
def iEnumT (K : PySem.W.Frag) (ta : TA) : TI := fun σ H R => ta σ H fun vs H1 => ∃ a xs, vs = [.ref a] ∧ SqT K H1 a xs ∧ R (ItT K a) H1
theorem pi_enumT {X : Cx} {e : Expr} {ta : TA} {p pos tpos : Pos} {elts : List Expr} {kk : Nat} (hg : Gl X "enumerate") (hm : X.mg "enumerate" = none) (ha : PA X [e] ta) (hs : starEach [e] X.env = [(false, eval e X.env)] := by rfl) :
    PI X (.Tuple elts kk tpos) (.Call (.Name "enumerate" p) [e] [] pos) (iEnumT X.K ta) := by
  refine ⟨fun pins s σ H R I h => ?_⟩
  refine Call_ (ld_blt I hg hm boot_enumerate (callWith_type1 (thn (ha.run pos pins s σ H _ I h) fun us s1 hv => ?_) hs rfl))
  obtain ⟨vs, H1, I1, r1, a, xs, rfl, hq, q⟩ := hv
  obtain ⟨u, rfl, ru⟩ := vals_one r1
  cases ru
  obtain ⟨its, rv, p', hz⟩ := I1.tuple hq
  have hpt : s1.heap.IsTuple a its.toArray := p'
  have hlt : a < s1.heap.objs.size := p'.lt
  refine call_enumB (begins_tuple a its.toArray) hpt fun h' he hit hsz hk => wpAny_pyIter_enum he ?_
  have I2 : Inv X pins σ H1 { s1 with heap := h' } := I1.kept (t' := s1.toks) hk
  refine ⟨s1.heap.objs.size + 1, [s1.heap.objs.size + 1, s1.heap.objs.size], _, _, H1, rfl, I2, turn_enumT a (s1.heap.objs.size + 1) s1.heap.objs.size (Nat.ne_of_lt (Nat.lt_succ_of_lt hlt)) (Nat.ne_of_lt hlt), ⟨⟨.none, he⟩, ⟨_, hit, rfl, rfl⟩, Nat.succ_ne_self _⟩, fun b hb => ?_, q⟩
  have hle : s1.heap.objs.size ≤ b := by
    rcases (by simpa using hb : b = s1.heap.objs.size + 1 ∨ b = s1.heap.objs.size) with z | z
    · rw [z]; exact Nat.le_succ _
    · rw [z]; exact Nat.le_refl _
  exact I1.fpOk hle (I1.hok.fresh hle)
theorem walk_enumT {K : PySem.W.Frag} {a : Addr} {xs : List V} : Walk (ItT K a) xs.length (fun H => SqT K H a xs) (YPair (fun i => some (.int (i : Nat))) (fun i => xs[i]?)) := by
  refine ⟨fun i _ hi q => ⟨xs, xs[i], q, by simp [hi]⟩, fun _ q => ⟨xs, q, Nat.le_refl _⟩, fun i H v H' _ q y => ?_⟩
  obtain ⟨T, x, h1, h2, h3, h4⟩ := y
  exact ⟨T, .int (i : Nat), x, h1, h2, h3, rfl, h4 xs q⟩
end Zn
set_option Elab.async false
set_option linter.all false
set_option maxRecDepth 100000
set_option maxHeartbeats 4000000
/-! len(set(x)) of a text and of a list of texts: how many different ones. -/
namespace Zn
open PySem PySem.Spec PyProof.Rows L2 GxR
/-- how many different ones are among the first i -/
def dcnt (xs : List Str) : Nat → Nat
  | 0 => 0
  | i + 1 => if (xs.take i).any (· == xs.getD i Str.empty) then dcnt xs i else dcnt xs i + 1
theorem dcnt_le (xs : List Str) : ∀ i, dcnt xs i ≤ i
  | 0 => Nat.le_refl _
  | i + 1 => by
    have h := dcnt_le xs i
    unfold dcnt
    split <;> omega
theorem dcnt_nodup {xs : List Str} (h : xs.Nodup) : ∀ i, i ≤ xs.length → dcnt xs i = i
  | 0, _ => rfl
  | i + 1, hi => by
    have ih := dcnt_nodup h i (by omega)
    unfold dcnt
    have e1 : xs.getD i Str.empty = xs[i] := by simp [List.getD_eq_getElem?_getD, List.getElem?_eq_getElem (show i < xs.length by omega)]
    have no : (xs.take i).any (· == xs.getD i Str.empty) = false := by
      rw [e1]
      cases hb : (xs.take i).any (· == xs[i]) with
      | false => rfl
      | true =>
        obtain ⟨y, hy, ey⟩ := List.any_eq_true.mp hb
        obtain ⟨j, hj, ej⟩ := List.getElem_of_mem hy
        rw [List.length_take] at hj
        rw [List.getElem_take] at ej
        have e2 : xs[j] = xs[i] := ej.trans (eq_of_beq ey)
        exact absurd e2 (List.pairwise_iff_getElem.mp h j i (by omega) (by omega) (by omega))
    rw [no, ih]
    rfl
section
variable {prog : Program} {w : World} {A : Around} {R : Result → Shared → Prop} {I : Addr} {fp wr : List Addr} {G : Array GenState → Array GenState → Prop} {n : Nat} {P : Nat → Value → Prop} {St : Nat → Shared → Prop}
/-- the set at S holds the first i -/
abbrev Holds (prog : Program) (w : World) (h : Heap) (S : Addr) (xs : List Str) (i : Nat) : Prop := h.SetOf (PySem.strKind prog w) S (fun k => (xs.take i).any (· == k)) (dcnt xs i)
theorem holds_at {h h' : Heap} {S : Addr} {xs : List Str} {i : Nat} (x : Holds prog w h S xs i) (k : ∀ o, h.get? S = some o → h'.get? S = some o) : Holds prog w h' S xs i := by
  obtain ⟨o, es, ep, t, ho, rest⟩ := x
  exact ⟨o, es, ep, t, k o ho, rest⟩
theorem setLoop (W : WalksS prog w A.in1 I fp wr G n P St) (S : Addr) (nS : S ∉ fp) (xs : List Str) (hlen : xs.length = n) (hroom : n + 1 < scanBound)
    (val : ∀ i v, P i v → ∃ t, v = .str (xs.getD i Str.empty) t) :
    ∀ (k i : Nat) (s : Shared), n - i = k → i ≤ n → St i s → Holds prog w s.heap S xs i → (∀ s', Moved (S :: wr) G s s' → Holds prog w s'.heap S xs n → R (.ok (.ret .none)) s') →
      codeAny (model prog w) A (.builtin "set.update.loop" ⟨[.ref S, .ref I], []⟩) R s := by
  have nSw : S ∉ wr := fun h => nS (W.sub _ h)
  have up : ∀ b ∈ wr, b ∈ S :: wr := fun b hb => List.mem_cons_of_mem _ hb
  intro k
  induction k with
  | zero =>
    intro i s hk hi hst hS hR
    have hin : i = n := by omega
    subst hin
    refine codeAny_builtin PyProof.Rows.F.entry_set_update_loop ?_
    rw [Around.under_plainId PyProof.Rows.F.plain_set_update_loop _]
    show wpAny _ A.in1 (pyNext (.ref I) >>= _) _ _ s
    exact wpAny_bind (W.done s _ _ hst fun s' hm => wpAny_pure (hR s' (hm.mono up) (holds_at hS fun o e => hm.heap S o nSw e)))
  | succ k ih =>
    intro i s hk hi hst hS hR
    have hlt : i < n := by omega
    refine codeAny_builtin PyProof.Rows.F.entry_set_update_loop ?_
    rw [Around.under_plainId PyProof.Rows.F.plain_set_update_loop _]
    show wpAny _ A.in1 (pyNext (.ref I) >>= _) _ _ s
    refine wpAny_bind (W.item i s _ _ hlt hst fun v s' hP hst' hm => ?_)
    obtain ⟨t, rfl⟩ := val i v hP
    have hS' := holds_at hS fun o e => hm.heap S o nSw e
    show wpAny _ A.in1 (holding [Value.str (xs.getD i Str.empty) t] (setAdd S (.str (xs.getD i Str.empty) t)) >>= _) _ _ s'
    refine wpAny_bind (wpAny_holding ?_)
    unfold setAdd
    refine wpAny_holding (wpAny_bind ((PySem.strKind prog w).pyHash (k := xs.getD i Str.empty) (strKind_is _ _ _ _) ?_))
    have hle := dcnt_le xs i
    refine wpAny_setAddHashed_of (knd := PySem.strKind prog w) (s := { s' with toks := s'.toks + 1 }) (strKind_is _ _ _ _) rfl hS' (by omega) fun h' sb hS2 => ?_
    have hSi : Holds prog w h' S xs (i + 1) := by
      have e1 : xs.take (i + 1) = xs.take i ++ [xs.getD i Str.empty] := by
        rw [List.take_add_one, List.getD_eq_getElem?_getD, List.getElem?_eq_getElem (show i < xs.length by omega)]
        rfl
      refine SetOf_congr hS2 (fun k' => ?_) (by rfl)
      show ((xs.take i).any (· == k') || decide (k' = xs.getD i Str.empty)) = (xs.take (i + 1)).any (· == k')
      rw [e1, List.any_append]
      congr 1
      by_cases e : k' = xs.getD i Str.empty
      · subst e
        simp
      · have hb : (xs.getD i Str.empty == k') = false := by simpa [beq_iff_eq] using (fun h' : xs.getD i Str.empty = k' => e h'.symm)
        rw [decide_eq_false e, List.any_cons, hb]
        rfl
    refine wpAny_pure ⟨plainId_quiet PyProof.Rows.F.plain_set_update_loop _, ih (i + 1) _ (by omega) hlt (W.frame _ s' _ _ hst' (Nat.le_succ _) fun b hb o e => ?_) hSi fun s'' hm'' hS'' => ?_⟩
    · exact (sb.2 b (fun h : b = S => nS (by rw [← h]; exact hb))).trans e
    · exact hR s'' (Moved.trans W.gtrans ((hm.mono up).then_heap (Nat.le_succ _) fun b o hb e => (sb.2 b (fun h : b = S => hb (by rw [h]; exact List.mem_cons_self))).trans e) hm'') hS''
end
section
variable {prog : Program} {w : World} {A : Around} {E : Value → Shared → Prop} {s : Shared}
set_option maxHeartbeats 6400000 in
/-- set(v), where v is walked and gives the texts xs -/
theorem call_setW {v : Value} {T : String} {fp : List Addr} {Q : Value → Shared → Prop} {xs : List Str} (hh : A.handled = none) (hT : ∀ s' : Shared, (∀ b o, s.heap.get? b = some o → s'.heap.get? b = some o) → s'.TypeIs v T)
    (u1 : isSubtype (.type T) (.type "set") = pure false) (u2 : isSubtype (.type T) (.type "frozenset") = pure false) (u3 : (Value.type T == Value.type "dict") = false) (hroom : xs.length + 1 < scanBound) (hfp : ∀ b ∈ fp, b < s.heap.objs.size)
    (itr : ∀ (A' : Around) (E' : Value → Shared → Prop) (Q' : Value → Shared → Prop) (s' : Shared), (∀ b o, s.heap.get? b = some o → s'.heap.get? b = some o) → s.heap.objs.size < s'.heap.objs.size →
      (∀ (o : Obj) (St : Nat → Heap → Prop) (Pf : Nat → Value → Prop), (∀ A'' : Around, A''.handled = none → Walks prog w A'' s'.heap.objs.size (s'.heap.objs.size :: fp) [s'.heap.objs.size] xs.length Pf St) → St 0 (s'.heap.push o) →
        (∀ i y, Pf i y → ∃ t, y = .str (xs.getD i Str.empty) t) → Q' (.ref s'.heap.objs.size) { s' with heap := s'.heap.push o }) → wpAny (model prog w) A' (pyIter v) Q' E' s')
    (h : ∀ (h' : Heap) (tk : Nat), Holds prog w h' s.heap.objs.size xs xs.length → (∀ b o, b < s.heap.objs.size → s.heap.get? b = some o → h'.get? b = some o) → Q (.ref s.heap.objs.size) { s with heap := h', toks := tk }) :
    wpAny (model prog w) A (call (.type "set") [v]) Q E s := by
  obtain ⟨c, tl, hmro⟩ := PySem.F.called_set.mro
  have k0 := PySem.F.called_set.made
  have k1 := PySem.F.called_set.sub
  refine wpAny_call (codeAny_of_tree ?_)
  show wpAny _ _ (callAny (.type "set") _) _ _ _
  refine wpAny_pure ⟨Code.quiet_builtin _ (by decide +kernel), codeAny_builtin PySem.F.entry_type_call ?_⟩
  rw [Around.under_plain (weight_type_call_type "set" [v] []) rfl]
  have k2 := PySem.F.called_set.notType
  have k3 := PySem.F.called_set.canCreate
  have k4 := PySem.F.typeCall_set_1 v
  repeat (any_goals (first | assumption | wp_step))
  refine codeAny_mono (code_set_new_1 v (E := E) (Q₁ := fun obj s₁ => ∃ led : Bool, obj = .ref s.heap.objs.size ∧ s₁ = { s with heap := s.heap.push { cls := .type "set", dict := none, data := .set #[] 0 (.fresh 0 0 led) } }) fun led => ⟨led, rfl, rfl⟩) fun r s₁ hr => ?_
  cases r with
  | error e => exact hr
  | ok fl =>
    cases fl with
    | next => exact hr.elim
    | brk => exact hr.elim
    | cont => exact hr.elim
    | ret obj =>
      obtain ⟨led, rfl, rfl⟩ := hr
      have hS : (s.heap.push { cls := .type "set", dict := none, data := .set #[] 0 (.fresh 0 0 led) }).get? s.heap.objs.size = some { cls := .type "set", dict := none, data := .set #[] 0 (.fresh 0 0 led) } := Heap.get?_push_size _ rfl
      have hTS : Shared.TypeIs { s with heap := s.heap.push { cls := .type "set", dict := none, data := .set #[] 0 (.fresh 0 0 led) } } (.ref s.heap.objs.size) "set" := ⟨_, hS, rfl⟩
      have k5 := PySem.F.called_set.init.lookup
      have k6 := PySem.F.called_set.init.bind (.ref s.heap.objs.size)
      repeat (any_goals (first | assumption | wp_step))
      have kp : ∀ b o, s.heap.get? b = some o → (s.heap.push { cls := .type "set", dict := none, data := .set #[] 0 (.fresh 0 0 led) }).get? b = some o := fun b o e => Heap.get?_push_of_some _ e
      have sz1 : (s.heap.push { cls := .type "set", dict := none, data := .set #[] 0 (.fresh 0 0 led) }).objs.size = s.heap.objs.size + 1 := Heap.size_push ..
      refine codeAny_mono (codeAny_call_builtin (R := wants (fun r s₂ => r = .none ∧ ∃ h' tk, s₂ = { s with heap := h', toks := tk } ∧ Holds prog w h' s.heap.objs.size xs xs.length ∧
          (∀ b o, b < s.heap.objs.size → s.heap.get? b = some o → h'.get? b = some o)) E) PySem.F.called_set.init.plain PySem.F.entry_set_init (check_set_init_1 hTS ?_)) fun r₂ s₂ hr₂ => ?_
      · have hTv := hT { s with heap := s.heap.push { cls := .type "set", dict := none, data := .set #[] 0 (.fresh 0 0 led) } } kp
        unfold Builtin.«set.__init__» noKeywords
        generalize hUF : Builtin.Frozenset.updateFrom = UF
        wp_walk
        subst hUF
        unfold Builtin.Frozenset.updateFrom Builtin.Frozenset.isAnySet
        generalize hPI : pyIter = PI
        wp_walk
        subst hPI
        refine itr _ _ _ _ kp (by show s.heap.objs.size < (s.heap.push _).objs.size; rw [sz1]; exact Nat.lt_succ_self _) fun o St Pf W hst hval => ?_
        refine wpAny_bind (wpAny_runValue ?_)
        have nSf : s.heap.objs.size ∉ ((s.heap.push { cls := .type "set", dict := none, data := .set #[] 0 (.fresh 0 0 led) }).objs.size :: fp) := by
          intro hm
          rcases List.mem_cons.mp hm with z | z
          · rw [sz1] at z
            exact absurd z (Nat.ne_of_lt (Nat.lt_succ_self _))
          · exact Nat.lt_irrefl _ (hfp _ z)
        refine setLoop (W A.in1.in1.in1 (by simp [hh])).toS s.heap.objs.size nSf xs rfl hroom hval (xs.length - 0) 0 _ (by omega) (Nat.zero_le _) hst ?_ fun s' hm hS' => ?_
        · have hget : ((s.heap.push { cls := .type "set", dict := none, data := .set #[] 0 (.fresh 0 0 led) }).push o).get? s.heap.objs.size = some { cls := .type "set", dict := none, data := .set #[] 0 (.fresh 0 0 led) } := Heap.get?_push_of_some _ hS
          exact PyProof.Rows.SetOf_congr ((PyProof.Rows.setObjOf_fresh (knd := PySem.strKind prog w) led).setOf hget (by unfold scanBound; omega)) (fun _ => rfl) rfl
        · obtain ⟨h', g', d', tk', os'⟩ := s'
          obtain rfl : g' = s.gens := hm.gens
          obtain rfl : d' = s.drawn := hm.drawn
          obtain rfl : os' = s.os := hm.os
          refine wpAny_pure ?_
          show wpAny _ _ (ret Value.none) _ _ _
          refine wpAny_pure ⟨rfl, h', tk', rfl, hS', fun b o2 hb e => hm.heap b o2 (fun hc => ?_) (Heap.get?_push_of_some _ (kp b o2 e))⟩
          rcases List.mem_cons.mp hc with z | z
          · exact Nat.ne_of_lt hb z
          · rw [List.mem_singleton.mp z, sz1] at hb
            exact absurd hb (by omega)
      · cases r₂ with
        | error e => exact hr₂
        | ok fl₂ =>
          cases fl₂ with
          | next => exact hr₂.elim
          | brk => exact hr₂.elim
          | cont => exact hr₂.elim
          | ret r =>
            obtain ⟨rfl, h', tk, rfl, hS', hk'⟩ := hr₂
            repeat (any_goals (first | assumption | wp_step))
            exact h _ _ hS' hk'
end
end Zn
set_option Elab.async false
set_option linter.all false
set_option maxRecDepth 100000
set_option maxHeartbeats 4000000
namespace Zn
open PySem PySem.Spec PyProof.Rows L2 GxR
/-- the signs of a text, each a text of one -/
def sgn (z : Str) : List Str := z.cps.toList.map fun c => ⟨#[c]⟩
theorem sgn_length (z : Str) : (sgn z).length = z.cps.size := by
  unfold sgn
  rw [List.length_map, Array.length_toList]
theorem signs_sgn (z : Str) : signs z = (sgn z).map V.str := by
  unfold signs sgn
  rw [List.map_map]
  rfl
section
variable {X : Cx}
theorem boot_set' : bootBuiltins "set" = some (.type "set") := by decide +kernel
/-- len(set(x)) of a text, or of a list of texts -/
def tLenSetT (K : PySem.W.Frag) (ta : TE) : TE := fun σ H Q => ta σ H fun x H1 => ∃ ws : List Str, ((∃ z, x = .str z ∧ ws = sgn z) ∨ ∃ l, x = .ref l ∧ SqL K H1 l (ws.map V.str)) ∧ ws.length ≤ 4000 ∧ Q (.int (dcnt ws ws.length : Nat)) H1
theorem pe_lenSetT {a : Expr} {ta : TE} {p p2 q pos : Pos} (hc : X.calm = true) (hg : Gl X "len") (hm : X.mg "len" = none) (hg2 : Gl X "set") (hm2 : X.mg "set" = none) (ha : PE X a ta)
    (na : starEach [a] X.env = (false, eval a X.env) :: starEach [] X.env := by rfl) : PE X (.Call (.Name "len" p) [.Call (.Name "set" p2) [a] [] q] [] pos) (tLenSetT X.K ta) := by
  refine ⟨fun pins s σ H Q I h => ?_⟩
  refine Call_ (ld_blt I hg hm boot_len (callWith_builtin1 (args_cons ?_ rfl) rfl rfl))
  refine Call_ (ld_blt I hg2 hm2 boot_set' (callWith_type1 (args_cons (thn (ha.run pins s σ H _ I h) fun v s1 hv => args_nil ?_) na) na rfl))
  obtain ⟨x, H1, I1, r1, ws, hx, hl, q1⟩ := hv
  have fin : ∀ (h' : Heap) (tk : Nat), Holds X.prog X.w h' s1.heap.objs.size ws ws.length → (∀ b o, b < s1.heap.objs.size → s1.heap.get? b = some o → h'.get? b = some o) →
      wpAny (model X.prog X.w) X.A (spliced (backTo pos (starEach [] X.env))) (fun vs s₂ => wpAny (model X.prog X.w) X.A (call (.builtin "len") (Value.ref s1.heap.objs.size :: vs)) (EP X pins σ Q) X.xe s₂) X.xe { s1 with heap := h', toks := tk } := by
    intro h' tk hS hk
    obtain ⟨o, es, ep, t, ho, hex, hd, _, _, _, hf, hn⟩ := hS
    have hdl := dcnt_le ws ws.length
    have I2 : Inv X pins σ H1 { s1 with heap := h', toks := tk } := I1.kept fun b o e => hk b o (Heap.lt_size e) e
    exact args_nil (call_len_set ho hex hd hf (by rw [hn]; omega) ⟨.int _, H1, I2.tok _, ⟨_, by rw [hn]⟩, q1⟩)
  have room : ws.length + 1 < scanBound := by unfold scanBound; omega
  rcases hx with ⟨z, rfl, rfl⟩ | ⟨l, rfl, hq⟩
  · obtain ⟨t, rfl⟩ := r1
    refine call_setW (T := "str") (fp := []) (xs := sgn z) (I1.ok.hd hc) (fun s' _ => typeIs_str s' z t) F.sub_str_set F.sub_str_frozenset (by decide) room (fun b hb => by cases hb) (fun A' E' Q' s' hk hlt g => ?_) fin
    refine wpAny_pyIter_str fun o St W hst => g o St _ (fun A'' hA => by rw [sgn_length]; exact W A'' hA) hst fun i y hy => ?_
    obtain ⟨c, u, hc', rfl⟩ := hy
    refine ⟨u, ?_⟩
    have : (sgn z).getD i Str.empty = ⟨#[c]⟩ := by
      unfold sgn
      have h2 : z.cps.toList[i]? = some c := by rw [Array.getElem?_toList]; exact hc'
      rw [List.getD_eq_getElem?_getD, List.getElem?_map, h2]
      rfl
    rw [this]
  · cases r1
    obtain ⟨its, r, pl, hz⟩ := I1.list hq
    have hi := strsAre_of r
    have hlen : its.length = ws.length := by rw [← r.length, List.length_map]
    have hlt : l < s1.heap.objs.size := pl.lt
    have hil : s1.heap.IsList l its.toArray := pl.isList
    refine call_setW (T := "list") (fp := [l]) (xs := ws) (I1.ok.hd hc) (fun s' hk => (hil.at fun o e => hk l o e).typeIs) F.sub_list_set F.sub_list_frozenset (by decide) room (fun b hb => by rw [List.mem_singleton.mp hb]; exact hlt) (fun A' E' Q' s' hk hlt2 g => ?_) fin
    have hl2 : s'.heap.IsList l its.toArray := hil.at fun o e => hk l o e
    have hne : l ≠ s'.heap.objs.size := Nat.ne_of_lt (Nat.lt_trans hlt hlt2)
    refine wpAny_pyIter_list hl2 ?_
    refine g _ (fun i h => h.IsListIter s'.heap.objs.size l i ∧ h.IsList l its.toArray) (fun i v => its.toArray[i]? = some v) (fun A'' hA => ?_) ⟨⟨_, Heap.get?_push_size _ rfl, rfl, rfl⟩, hl2.push _⟩ fun i y hy => SS.strs_at hi i y (by simpa using hy)
    have W := Walks.list (prog := X.prog) (w := X.w) hA s'.heap.objs.size l hne its.toArray
    have e : its.toArray.size = ws.length := by rw [List.size_toArray]; exact hlen
    rw [e] at W
    exact W
end
end Zn
set_option Elab.async false
set_option linter.all false
set_option maxRecDepth 100000
set_option maxHeartbeats 4000000
/-! enumerate(zip(t, u)) of two tuples: the zip's own tuple is never let go, so the iterator may stand in either state. -/
namespace Zn
open PySem PySem.Spec PyProof.Rows L2 GxR
/-- a zip object, whatever it says of the tuple that it gave out last -/
def ZipAny (h : Heap) (z TI TO : Addr) : Prop := ∃ (own : Value) (fl : Bool), h.get? z = some { cls := .type "zip", data := .fields #[own, .bool fl, .bool false, .ref TI, .ref TO] } ∧ (own = .none ∨ ∃ a : Addr, own = rawInt a)
section
variable {prog : Program} {w : World} {A : Around} {E : Value → Shared → Prop} {s : Shared} {z TI TO i1 i2 : Addr} {fp1 fp2 : List Addr} {n1 n2 i : Nat} {P1 P2 : Nat → Value → Prop} {St1 St2 : Nat → Heap → Prop} {a1 a2 : Value}
theorem wpAny_loadIfAlive {M : Model} {a : Addr} {Q : Option Obj → Shared → Prop} (h : Q (s.heap.get? a) s) : wpAny M A (loadIfAlive a) Q E s := fun _ _ _ => h
/-- is the tuple free: either answer; only the flag may be set -/
theorem own_free {Q : Bool → Shared → Prop} {own : Value} {fl : Bool} (hz : s.heap.get? z = some { cls := .type "zip", data := .fields #[own, .bool fl, .bool false, .ref TI, .ref TO] }) (ho : own = .none ∨ ∃ a : Addr, own = rawInt a)
    (h : ∀ (b fl' : Bool) (h' : Heap), h'.get? z = some { cls := .type "zip", data := .fields #[own, .bool fl', .bool false, .ref TI, .ref TO] } → Heap.SameBut z s.heap h' → Q b { s with heap := h' }) :
    wpAny (model prog w) A (Builtin.SmallTypes.ownedTupleIsFree (.ref z)) Q E s := by
  unfold Builtin.SmallTypes.ownedTupleIsFree
  refine wpAny_bind (wpAny_field hz rfl (x := own) rfl ?_)
  have same : Heap.SameBut z s.heap s.heap := ⟨rfl, fun _ _ => rfl⟩
  rcases ho with rfl | ⟨a, rfl⟩
  · exact wpAny_pure (h true fl s.heap hz same)
  · refine wpAny_bind (wpAny_loadIfAlive ?_)
    cases hg : s.heap.get? (a : Int).toNat with
    | none => exact wpAny_pure (h true fl s.heap hz same)
    | some o =>
      simp only [Option.isNone_some, Bool.false_eq_true, if_false]
      refine wpAny_bind (wpAny_field hz rfl (x := .bool fl) rfl ?_)
      cases fl with
      | true =>
        rw [if_neg (by decide)]
        exact wpAny_pure (h false true s.heap hz same)
      | false =>
        rw [if_pos (by decide)]
        refine wpAny_bind (wpAny_setField_rec hz (by simp) fun h' hz' sb => wpAny_pure (h false true h' hz' sb))
theorem zipAny_item {Q : Value → Shared → Prop} (S : ZipSep2 z TI TO i1 i2 fp1 fp2) (D1 : Draws prog w A i1 fp1 n1 P1 St1) (D2 : Draws prog w A i2 fp2 n2 P2 St2)
    (hz : ZipAny s.heap z TI TO) (hTI : IsTupOf2 s.heap TI (.ref i1) (.ref i2)) (hTO : IsTupOf2 s.heap TO a1 a2) (st1 : St1 i s.heap) (st2 : St2 i s.heap) (lt1 : i < n1) (lt2 : i < n2)
    (hQ : ∀ x1 x2 h' tk, P1 i x1 → P2 i x2 → ZipAny h' z TI TO → (∃ y1 y2, IsTupOf2 h' TO y1 y2) → St1 (i + 1) h' → St2 (i + 1) h' → IsTupOf2 h' s.heap.objs.size x1 x2 → h'.objs.size = s.heap.objs.size + 1 →
      (∀ c o, c ≠ z → c ≠ TO → c ≠ i1 → c ≠ i2 → s.heap.get? c = some o → h'.get? c = some o) → Q (.ref s.heap.objs.size) { s with heap := h', toks := tk }) :
    wpAny (model prog w) A (Builtin.«zip.__next__» ⟨[.ref z], []⟩) (fun fin s' => ∃ v, fin = .done (.ret v) ∧ Q v s') E s := by
  obtain ⟨hp, g, d, tk0, os⟩ := s
  obtain ⟨own, fl, hz, ho⟩ := hz
  show wpAny _ _ (field (.ref z) 2 >>= _) _ _ _
  refine wpAny_bind (wpAny_field hz rfl (x := .bool false) rfl ?_)
  show wpAny _ _ (field (.ref z) 3 >>= _) _ _ _
  refine wpAny_bind (wpAny_field hz rfl (x := .ref TI) rfl (wpAny_bind (wpAny_seqItems hTI rfl ?_)))
  show wpAny _ _ (Builtin.SmallTypes.ownedTupleIsFree (.ref z) >>= _) _ _ _
  refine wpAny_bind (own_free hz ho fun b fl' f0 hzf sf => ?_)
  replace sf : Heap.SameBut z hp f0 := sf
  have hTIf : IsTupOf2 f0 TI (.ref i1) (.ref i2) := sf.extBut _ _ S.TIz hTI
  have hTOf : IsTupOf2 f0 TO a1 a2 := sf.extBut _ _ S.TOz hTO
  have s1f := D1.over st1 sf S.zf1
  have s2f := D2.over st2 sf S.zf2
  have szf : f0.objs.size = hp.objs.size := sf.1
  cases b with
  | true =>
    simp only [if_true]
    refine wpAny_bind (wpAny_rule (wpAny_bind (wpAny_field hzf rfl (x := .ref TO) rfl ?_)))
    refine wpAny_bind (wpAny_setField_rec hzf (by simp) fun g0 hz0 hs0 => ?_)
    replace hz0 : g0.get? z = some { cls := .type "zip", data := .fields #[.ellipsis, .bool fl', .bool false, .ref TI, .ref TO] } := hz0
    replace hs0 : Heap.SameBut z f0 g0 := hs0
    refine wpAny_bind ?_
    simp only [List.zipIdx_cons, List.zipIdx_nil, List.forIn_cons, List.forIn_nil]
    refine wpAny_bind (wpAny_bind (wpAny_onRaise ?_))
    show wpAny _ _ (Builtin.SmallTypes.nextOf (.ref i1) >>= _) _ _ ⟨g0, g, d, tk0, os⟩
    refine wpAny_bind (D1.item i _ _ _ lt1 (D1.over s1f hs0 S.zf1) fun x1 p1 tk1 hx1 sn1 hp1 => wpAny_pure ?_)
    replace hp1 : Heap.SameBut i1 g0 p1 := hp1
    have hU1 : IsTupOf2 p1 TO a1 a2 := hp1.extBut _ _ S.Ti1 (hs0.extBut _ _ S.TOz hTOf)
    refine wpAny_bind (wpAny_seqItems (s := ⟨p1, g, d, tk1, os⟩) hU1 rfl (wpAny_bind (updateSeq_IsTupOf2 (s := ⟨p1, g, d, tk1, os⟩) hU1 fun g1 hT1 hs1 => ?_)))
    replace hT1 : IsTupOf2 g1 TO x1 a2 := hT1
    replace hs1 : Heap.SameBut TO p1 g1 := hs1
    refine wpAny_bind (wpAny_letGo (wpAny_pure (wpAny_bind (wpAny_bind (wpAny_onRaise ?_)))))
    show wpAny _ _ (Builtin.SmallTypes.nextOf (.ref i2) >>= _) _ _ ⟨g1, g, d, tk1, os⟩
    refine wpAny_bind (D2.item i _ _ _ lt2 (D2.over (D2.over (D2.over s2f hs0 S.zf2) hp1 S.sep1_2) hs1 S.Tf2) fun x2 p2 tk2 hx2 sn2 hp2 => wpAny_pure ?_)
    replace hp2 : Heap.SameBut i2 g1 p2 := hp2
    have hU2 : IsTupOf2 p2 TO x1 a2 := hp2.extBut _ _ S.Ti2 hT1
    refine wpAny_bind (wpAny_seqItems (s := ⟨p2, g, d, tk2, os⟩) hU2 rfl (wpAny_bind (updateSeq_IsTupOf2 (s := ⟨p2, g, d, tk2, os⟩) hU2 fun g2 hT2 hs2 => ?_)))
    replace hT2 : IsTupOf2 g2 TO x1 x2 := hT2
    replace hs2 : Heap.SameBut TO p2 g2 := hs2
    refine wpAny_bind (wpAny_letGo (wpAny_pure (wpAny_pure (wpAny_bind (wpAny_seqItems (s := ⟨g2, g, d, tk2, os⟩) hT2 rfl (wpAny_bind (wpAny_newTuple ?_)))))))
    have hsz : g2.objs.size = hp.objs.size := by rw [hs2.1, hp2.1, hs1.1, hp1.1, hs0.1, szf]
    have hzz : g2.get? z = some { cls := .type "zip", data := .fields #[.ellipsis, .bool fl', .bool false, .ref TI, .ref TO] } := hs2.extBut _ _ S.TOz.symm (hp2.extBut _ _ S.zi2 (hs1.extBut _ _ S.TOz.symm (hp1.extBut _ _ S.zi1 hz0)))
    have hkk : ∀ c o, c ≠ z → c ≠ TO → c ≠ i1 → c ≠ i2 → hp.get? c = some o → g2.get? c = some o := fun c o cz cT c1 c2 e =>
      hs2.extBut _ _ cT (hp2.extBut _ _ c2 (hs1.extBut _ _ cT (hp1.extBut _ _ c1 (hs0.extBut _ _ cz (sf.extBut _ _ cz e)))))
    have hj1 : St1 (i + 1) g2 := D1.over (D1.over (D1.over sn1 hs1 S.Tf1) hp2 S.sep2_1) hs2 S.Tf1
    have hj2 : St2 (i + 1) g2 := D2.over sn2 hs2 S.Tf2
    have hzlt : z < g2.objs.size := Heap.lt_size hzz
    show wpAny _ _ (Builtin.SmallTypes.ownedTupleHandOut (.ref z) (.ref g2.objs.size) >>= _) _ _ ⟨g2.push { cls := .type "tuple", data := .seq #[x1, x2] }, g, d, tk2, os⟩
    refine wpAny_bind ?_
    unfold Builtin.SmallTypes.ownedTupleHandOut
    have hz6 : (g2.push { cls := .type "tuple", data := .seq #[x1, x2] }).get? z = some { cls := .type "zip", data := .fields #[.ellipsis, .bool fl', .bool false, .ref TI, .ref TO] } := Heap.get?_push_of_some _ hzz
    refine wpAny_bind (wpAny_setField_rec hz6 (by simp) fun h7 hz7 hs7 => ?_)
    replace hz7 : h7.get? z = some { cls := .type "zip", data := .fields #[rawInt g2.objs.size, .bool fl', .bool false, .ref TI, .ref TO] } := hz7
    refine wpAny_setField_rec hz7 (by simp) fun h8 hz8 hs8 => ?_
    replace hz8 : h8.get? z = some { cls := .type "zip", data := .fields #[rawInt g2.objs.size, .bool false, .bool false, .ref TI, .ref TO] } := hz8
    replace hs7 : Heap.SameBut z (g2.push { cls := .type "tuple", data := .seq #[x1, x2] }) h7 := hs7
    replace hs8 : Heap.SameBut z h7 h8 := hs8
    have up : ∀ c o, c ≠ z → g2.get? c = some o → h8.get? c = some o := fun c o c1 e => hs8.extBut _ _ c1 (hs7.extBut _ _ c1 (Heap.get?_push_of_some _ e))
    have hT8 : IsTupOf2 h8 g2.objs.size x1 x2 := hs8.extBut _ _ (Nat.ne_of_gt hzlt) (hs7.extBut _ _ (Nat.ne_of_gt hzlt) (Heap.get?_push_size _ rfl))
    have hz9 : h8.objs.size = g2.objs.size + 1 := by rw [hs8.1, hs7.1, Heap.size_push]
    rw [hsz] at hz8 hT8 hz9
    refine wpAny_pure ⟨_, rfl, ?_⟩
    show Q (.ref g2.objs.size) ⟨h8, g, d, tk2, os⟩
    rw [hsz]
    exact hQ x1 x2 h8 tk2 hx1 hx2 ⟨_, _, hz8, .inr ⟨_, rfl⟩⟩ ⟨_, _, up _ _ S.TOz hT2⟩ (D1.frame _ _ _ hj1 fun b hb o e => up b o (fun q => S.zf1 (q ▸ hb)) e) (D2.frame _ _ _ hj2 fun b hb o e => up b o (fun q => S.zf2 (q ▸ hb)) e) hT8 hz9 fun c o cz cT c1 c2 e => up c o cz (hkk c o cz cT c1 c2 e)
  | false =>
    simp only [Bool.false_eq_true, if_false]
    refine wpAny_bind ?_
    simp only [← Array.forIn_toList, List.forIn_cons, List.forIn_nil]
    refine wpAny_bind (wpAny_bind (wpAny_holding ?_))
    show wpAny _ _ (Builtin.SmallTypes.nextOf (.ref i1) >>= _) _ _ ⟨f0, g, d, tk0, os⟩
    refine wpAny_bind (D1.item i _ _ _ lt1 s1f fun x1 p1 tk1 hx1 sn1 hp1 => wpAny_pure ?_)
    replace hp1 : Heap.SameBut i1 f0 p1 := hp1
    refine wpAny_pure (wpAny_bind (wpAny_bind (wpAny_holding ?_)))
    show wpAny _ _ (Builtin.SmallTypes.nextOf (.ref i2) >>= _) _ _ ⟨p1, g, d, tk1, os⟩
    refine wpAny_bind (D2.item i _ _ _ lt2 (D2.over s2f hp1 S.sep1_2) fun x2 p2 tk2 hx2 sn2 hp2 => wpAny_pure ?_)
    replace hp2 : Heap.SameBut i2 p1 p2 := hp2
    refine wpAny_pure (wpAny_pure ?_)
    refine wpAny_bind (wpAny_newTuple ?_ (by show 2 ≤ sizeLine; decide))
    show wpAny _ _ (ret (.ref p2.objs.size)) _ _ ⟨p2.push { cls := .type "tuple", data := .seq #[x1, x2] }, g, d, tk2, os⟩
    have hsz : p2.objs.size = hp.objs.size := by rw [hp2.1, hp1.1, szf]
    have up : ∀ c o, p2.get? c = some o → (p2.push { cls := .type "tuple", data := .seq #[x1, x2] }).get? c = some o := fun c o e => Heap.get?_push_of_some _ e
    have hkk : ∀ c o, c ≠ z → c ≠ i1 → c ≠ i2 → hp.get? c = some o → p2.get? c = some o := fun c o cz c1 c2 e => hp2.extBut _ _ c2 (hp1.extBut _ _ c1 (sf.extBut _ _ cz e))
    have hzp : p2.get? z = some { cls := .type "zip", data := .fields #[own, .bool fl', .bool false, .ref TI, .ref TO] } := hp2.extBut _ _ S.zi2 (hp1.extBut _ _ S.zi1 hzf)
    have hT : (p2.push { cls := .type "tuple", data := .seq #[x1, x2] }).get? p2.objs.size = some { cls := .type "tuple", data := .seq #[x1, x2] } := Heap.get?_push_size _ rfl
    have hsz2 : (p2.push { cls := .type "tuple", data := .seq #[x1, x2] }).objs.size = hp.objs.size + 1 := by rw [Heap.size_push, hsz]
    rw [hsz] at hT
    refine wpAny_pure ⟨_, rfl, ?_⟩
    show Q (.ref p2.objs.size) _
    rw [hsz]
    exact hQ x1 x2 _ tk2 hx1 hx2 ⟨_, _, up _ _ hzp, ho⟩ ⟨_, _, up _ _ (hp2.extBut _ _ S.Ti2 (hp1.extBut _ _ S.Ti1 hTOf))⟩ (D1.frame _ _ _ (D1.over sn1 hp2 S.sep2_1) fun b hb o e => up b o e) (D2.frame _ _ _ sn2 fun b hb o e => up b o e) hT hsz2 fun c o cz cT c1 c2 e => up c o (hkk c o cz c1 c2 e)
theorem zipAny_end {Q : Fin → Shared → Prop} (S : ZipSep2 z TI TO i1 i2 fp1 fp2) (D1 : Draws prog w A i1 fp1 n1 P1 St1) (D2 : Draws prog w A i2 fp2 n2 P2 St2)
    (hz : ZipAny s.heap z TI TO) (hTI : IsTupOf2 s.heap TI (.ref i1) (.ref i2)) (hTO : IsTupOf2 s.heap TO a1 a2) (st1 : St1 i s.heap) (st2 : St2 i s.heap) (le1 : i ≤ n1) (le2 : i ≤ n2) (hend : i = n1 ∨ i = n2)
    (hE : ∀ h' tk e, (∀ c o, c ≠ z → c ≠ TO → c ≠ i1 → c ≠ i2 → s.heap.get? c = some o → h'.get? c = some o) → (∃ o, h'.get? e = some o ∧ o.cls = .type "StopIteration") → E (.ref e) { s with heap := h', toks := tk }) :
    wpAny (model prog w) A (Builtin.«zip.__next__» ⟨[.ref z], []⟩) Q E s := by
  obtain ⟨hp, g, d, tk0, os⟩ := s
  obtain ⟨own, fl, hz, ho⟩ := hz
  show wpAny _ _ (field (.ref z) 2 >>= _) _ _ _
  refine wpAny_bind (wpAny_field hz rfl (x := .bool false) rfl ?_)
  show wpAny _ _ (field (.ref z) 3 >>= _) _ _ _
  refine wpAny_bind (wpAny_field hz rfl (x := .ref TI) rfl (wpAny_bind (wpAny_seqItems hTI rfl ?_)))
  show wpAny _ _ (Builtin.SmallTypes.ownedTupleIsFree (.ref z) >>= _) _ _ _
  refine wpAny_bind (own_free hz ho fun b fl' f0 hzf sf => ?_)
  replace sf : Heap.SameBut z hp f0 := sf
  have hTOf : IsTupOf2 f0 TO a1 a2 := sf.extBut _ _ S.TOz hTO
  have s1f := D1.over st1 sf S.zf1
  have s2f := D2.over st2 sf S.zf2
  cases b with
  | true =>
    simp only [if_true]
    refine wpAny_bind (wpAny_rule (wpAny_bind (wpAny_field hzf rfl (x := .ref TO) rfl ?_)))
    refine wpAny_bind (wpAny_setField_rec hzf (by simp) fun g0 hz0 hs0 => ?_)
    replace hz0 : g0.get? z = some { cls := .type "zip", data := .fields #[.ellipsis, .bool fl', .bool false, .ref TI, .ref TO] } := hz0
    replace hs0 : Heap.SameBut z f0 g0 := hs0
    refine wpAny_bind ?_
    simp only [List.zipIdx_cons, List.zipIdx_nil, List.forIn_cons, List.forIn_nil]
    refine wpAny_bind (wpAny_bind (wpAny_onRaise ?_))
    show wpAny _ _ (Builtin.SmallTypes.nextOf (.ref i1) >>= _) _ _ ⟨g0, g, d, tk0, os⟩
    by_cases lt1 : i < n1
    · refine wpAny_bind (D1.item i _ _ _ lt1 (D1.over s1f hs0 S.zf1) fun x1 p1 tk1 hx1 sn1 hp1 => wpAny_pure ?_)
      replace hp1 : Heap.SameBut i1 g0 p1 := hp1
      have hU1 : IsTupOf2 p1 TO a1 a2 := hp1.extBut _ _ S.Ti1 (hs0.extBut _ _ S.TOz hTOf)
      refine wpAny_bind (wpAny_seqItems (s := ⟨p1, g, d, tk1, os⟩) hU1 rfl (wpAny_bind (updateSeq_IsTupOf2 (s := ⟨p1, g, d, tk1, os⟩) hU1 fun g1 hT1 hs1 => ?_)))
      replace hs1 : Heap.SameBut TO p1 g1 := hs1
      have hi2 : i = n2 := by omega
      refine wpAny_bind (wpAny_letGo (wpAny_pure (wpAny_bind (wpAny_bind (wpAny_onRaise ?_)))))
      show wpAny _ _ (Builtin.SmallTypes.nextOf (.ref i2) >>= _) _ _ ⟨g1, g, d, tk1, os⟩
      refine wpAny_bind (D2.done ⟨g1, g, d, tk1, os⟩ _ _ (by rw [← hi2]; exact D2.over (D2.over (D2.over s2f hs0 S.zf2) hp1 S.sep1_2) hs1 S.Tf2) fun q e hq he => ?_)
      replace hq : Heap.ExtBut i2 g1 q := hq
      obtain ⟨oe, hoe, hce⟩ := he
      replace hoe : q.get? e = some oe := hoe
      have hzq : q.get? z = some { cls := .type "zip", data := .fields #[.ellipsis, .bool fl', .bool false, .ref TI, .ref TO] } := hq _ _ S.zi2 (hs1.extBut _ _ S.TOz.symm (hp1.extBut _ _ S.zi1 hz0))
      have hez : e ≠ z := fun x => by subst x; rw [hzq] at hoe; cases hoe; simp at hce
      refine wpAny_setField_rec (s := ⟨q, g, d, tk1, os⟩) hzq (by simp) fun q' _ hq' => ?_
      replace hq' : Heap.SameBut z q q' := hq'
      exact hE q' tk1 e (fun c o cz cT c1 c2 x => hq'.extBut _ _ cz (hq _ _ c2 (hs1.extBut _ _ cT (hp1.extBut _ _ c1 (hs0.extBut _ _ cz (sf.extBut _ _ cz x)))))) ⟨oe, hq'.extBut _ _ hez hoe, hce⟩
    · have hi1 : i = n1 := by omega
      refine wpAny_bind (D1.done ⟨g0, g, d, tk0, os⟩ _ _ (by rw [← hi1]; exact D1.over s1f hs0 S.zf1) fun q e hq he => ?_)
      replace hq : Heap.ExtBut i1 g0 q := hq
      obtain ⟨oe, hoe, hce⟩ := he
      replace hoe : q.get? e = some oe := hoe
      have hzq : q.get? z = some { cls := .type "zip", data := .fields #[.ellipsis, .bool fl', .bool false, .ref TI, .ref TO] } := hq _ _ S.zi1 hz0
      have hez : e ≠ z := fun x => by subst x; rw [hzq] at hoe; cases hoe; simp at hce
      refine wpAny_setField_rec (s := ⟨q, g, d, tk0, os⟩) hzq (by simp) fun q' _ hq' => ?_
      replace hq' : Heap.SameBut z q q' := hq'
      exact hE q' tk0 e (fun c o cz cT c1 c2 x => hq'.extBut _ _ cz (hq _ _ c1 (hs0.extBut _ _ cz (sf.extBut _ _ cz x)))) ⟨oe, hq'.extBut _ _ hez hoe, hce⟩
  | false =>
    simp only [Bool.false_eq_true, if_false]
    refine wpAny_bind ?_
    simp only [← Array.forIn_toList, List.forIn_cons, List.forIn_nil]
    refine wpAny_bind (wpAny_bind (wpAny_holding ?_))
    show wpAny _ _ (Builtin.SmallTypes.nextOf (.ref i1) >>= _) _ _ ⟨f0, g, d, tk0, os⟩
    by_cases lt1 : i < n1
    · refine wpAny_bind (D1.item i _ _ _ lt1 s1f fun x1 p1 tk1 hx1 sn1 hp1 => wpAny_pure ?_)
      replace hp1 : Heap.SameBut i1 f0 p1 := hp1
      have hi2 : i = n2 := by omega
      refine wpAny_pure (wpAny_bind (wpAny_bind (wpAny_holding ?_)))
      show wpAny _ _ (Builtin.SmallTypes.nextOf (.ref i2) >>= _) _ _ ⟨p1, g, d, tk1, os⟩
      refine wpAny_bind (D2.done ⟨p1, g, d, tk1, os⟩ _ _ (by rw [← hi2]; exact D2.over s2f hp1 S.sep1_2) fun q e hq he => ?_)
      replace hq : Heap.ExtBut i2 p1 q := hq
      exact hE q tk1 e (fun c o cz cT c1 c2 x => hq _ _ c2 (hp1.extBut _ _ c1 (sf.extBut _ _ cz x))) he
    · have hi1 : i = n1 := by omega
      refine wpAny_bind (D1.done ⟨f0, g, d, tk0, os⟩ _ _ (by rw [← hi1]; exact s1f) fun q e hq he => ?_)
      replace hq : Heap.ExtBut i1 f0 q := hq
      exact hE q tk0 e (fun c o cz cT c1 c2 x => hq _ _ c1 (sf.extBut _ _ cz x)) he
/-- enumerate over an iterator whose next may make objects -/
theorem enum_next_any {e it : Addr} {c : Int} {old : Value} {wr : List Addr} {R : Value → Heap → Prop} {Q : Option Value → Shared → Prop} (he : IsEnum s.heap e it c old) (hew : e ∉ wr)
    (hnext : ∀ (A' : Around) (Q' : Value → Shared → Prop) (E' : Value → Shared → Prop), A'.handled = A.handled → (∀ x h1 tk, R x h1 → s.heap.objs.size ≤ h1.objs.size → (∀ b o, b ∉ wr → s.heap.get? b = some o → h1.get? b = some o) → Q' x { s with heap := h1, toks := tk }) → wpAny (model prog w) A' (Builtin.SmallTypes.nextOf (.ref it)) Q' E' s)
    (hQ : ∀ x h1 h' tk, R x h1 → s.heap.objs.size ≤ h1.objs.size → (∀ b o, b ∉ wr → s.heap.get? b = some o → h1.get? b = some o) → IsEnumOut h' e it (c + 1) x h1.objs.size → h'.get? h1.objs.size = some { cls := .type "tuple", data := .seq #[.int c tk, x] } →
      (∀ b o, b ≠ e → h1.get? b = some o → h'.get? b = some o) → Q (some (.ref h1.objs.size)) { s with heap := h', toks := tk + 1 }) :
    wpAny (model prog w) A (pyNext (.ref e)) Q E s := by
  have hT : s.TypeIs (.ref e) "enumerate" := ⟨_, he, rfl⟩
  unfold pyNext
  refine wpAny_bind (wpAny_attempt (wpAny_callSpecial?_slot (name := Str.ofString "__next__") hT F.slot_enumerate_next (wpAny_call_entry F.slot_enumerate_next hT F.entry_enumerate_next ?_ (F.args_enumerate_next_1 _))))
  obtain ⟨hp, g, d, tk0, os⟩ := s
  show wpAny _ _ (field (.ref e) 2 >>= _) _ _ _
  refine wpAny_bind (wpAny_field he rfl (x := .ref it) rfl (wpAny_bind (hnext _ _ _ rfl fun x h1 tk hR hge hk => ?_)))
  replace hge : hp.objs.size ≤ h1.objs.size := hge
  have he1 : IsEnum h1 e it c old := hk e _ hew he
  show wpAny _ _ (field (.ref e) 3 >>= _) _ _ ⟨h1, g, d, tk, os⟩
  refine wpAny_bind (wpAny_field he1 rfl (x := rawInt c) rfl ?_)
  show wpAny _ _ (field (.ref e) 4 >>= _) _ _ ⟨h1, g, d, tk, os⟩
  refine wpAny_bind (wpAny_field he1 rfl (x := .none) rfl ?_)
  show wpAny _ _ (mkInt c >>= _) _ _ ⟨h1, g, d, tk, os⟩
  refine wpAny_bind (wpAny_mkInt ?_)
  show wpAny _ _ (setField (.ref e) 3 (rawInt (c + 1)) >>= _) _ _ ⟨h1, g, d, tk + 1, os⟩
  refine wpAny_bind (wpAny_setField_rec he1 (by simp) fun h2 he2 hs2 => ?_)
  replace hs2 : Heap.SameBut e h1 h2 := hs2
  replace he2 : IsEnum h2 e it (c + 1) old := he2
  show wpAny _ _ (setField (.ref e) 4 .none >>= _) _ _ ⟨h2, g, d, tk + 1, os⟩
  refine wpAny_bind (wpAny_setField_rec he2 (by simp) fun h3 he3 hs3 => ?_)
  replace hs3 : Heap.SameBut e h2 h3 := hs3
  replace he3 : IsEnum h3 e it (c + 1) old := he3
  show wpAny _ _ (newTuple [.int c tk, x] >>= _) _ _ ⟨h3, g, d, tk + 1, os⟩
  refine wpAny_bind (wpAny_newTuple ?_)
  have hsz : h3.objs.size = h1.objs.size := by rw [hs3.1, hs2.1]
  have he4 : IsEnum (h3.push { cls := .type "tuple", data := .seq #[.int c tk, x] }) e it (c + 1) old := Heap.get?_push_of_some _ he3
  have ht4 : (h3.push { cls := .type "tuple", data := .seq #[.int c tk, x] }).get? h1.objs.size = some { cls := .type "tuple", data := .seq #[.int c tk, x] } := by rw [← hsz]; exact Heap.get?_push_size _ rfl
  have hk4 : ∀ b o, b ≠ e → h1.get? b = some o → (h3.push { cls := .type "tuple", data := .seq #[.int c tk, x] }).get? b = some o := fun b o hb q => Heap.get?_push_of_some _ (hs3.extBut b o hb (hs2.extBut b o hb q))
  have hel : e < h1.objs.size := Heap.lt_size he1
  generalize h3.push { cls := .type "tuple", data := .seq #[.int c tk, x] } = h4 at he4 ht4 hk4
  show wpAny _ _ (Builtin.SmallTypes.ownedTupleIsFree (.ref e) >>= _) _ _ ⟨h4, g, d, tk + 1, os⟩
  refine wpAny_bind ?_
  rw [hsz]
  unfold Builtin.SmallTypes.ownedTupleIsFree
  refine wpAny_bind (wpAny_field he4 rfl (x := .none) rfl (wpAny_pure ?_))
  simp only [if_true]
  refine wpAny_bind (wpAny_rule (wpAny_bind (wpAny_field he4 rfl (x := old) rfl (wpAny_bind (wpAny_setField_rec he4 (by simp) fun h5 he5 hs5 => ?_)))))
  replace hs5 : Heap.SameBut e h4 h5 := hs5
  replace he5 : IsEnum h5 e it (c + 1) x := he5
  show wpAny _ _ (Builtin.SmallTypes.ownedTupleHandOut (.ref e) (.ref h1.objs.size) >>= _) _ _ ⟨h5, g, d, tk + 1, os⟩
  refine wpAny_bind ?_
  unfold Builtin.SmallTypes.ownedTupleHandOut
  refine wpAny_bind (wpAny_setField_rec he5 (by simp) fun h6 he6 hs6 => ?_)
  replace hs6 : Heap.SameBut e h5 h6 := hs6
  replace he6 : IsEnumOut h6 e it (c + 1) x h1.objs.size := he6
  refine wpAny_setField_rec he6 (by simp) fun h7 he7 hs7 => ?_
  replace hs7 : Heap.SameBut e h6 h7 := hs7
  replace he7 : IsEnumOut h7 e it (c + 1) x h1.objs.size := he7
  refine wpAny_bind (wpAny_letGo (wpAny_pure ⟨_, rfl, wpAny_pure (hQ x h1 h7 tk hR hge hk he7 ?_ fun b o hb q => hs7.extBut b o hb (hs6.extBut b o hb (hs5.extBut b o hb (hk4 b o hb q))))⟩))
  have ne : h1.objs.size ≠ e := Nat.ne_of_gt hel
  exact hs7.extBut _ _ ne (hs6.extBut _ _ ne (hs5.extBut _ _ ne ht4))
end
end Zn
set_option Elab.async false
set_option linter.all false
set_option maxRecDepth 100000
set_option maxHeartbeats 4000000
namespace Zn
open PySem PySem.Spec PyProof.Rows L2 GxR
section
variable {prog : Program} {w : World} {A : Around} {E : Value → Shared → Prop} {s : Shared} {z TI TO i1 i2 : Addr} {fp1 fp2 : List Addr} {n1 n2 i : Nat} {P1 P2 : Nat → Value → Prop} {St1 St2 : Nat → Heap → Prop} {a1 a2 : Value}
theorem nextOf_zip {Q : Value → Shared → Prop} (S : ZipSep2 z TI TO i1 i2 fp1 fp2) (D1 : Draws prog w A.in1 i1 fp1 n1 P1 St1) (D2 : Draws prog w A.in1 i2 fp2 n2 P2 St2)
    (hz : ZipAny s.heap z TI TO) (hTI : IsTupOf2 s.heap TI (.ref i1) (.ref i2)) (hTO : IsTupOf2 s.heap TO a1 a2) (st1 : St1 i s.heap) (st2 : St2 i s.heap) (lt1 : i < n1) (lt2 : i < n2)
    (hQ : ∀ x1 x2 h' tk, P1 i x1 → P2 i x2 → ZipAny h' z TI TO → (∃ y1 y2, IsTupOf2 h' TO y1 y2) → St1 (i + 1) h' → St2 (i + 1) h' → IsTupOf2 h' s.heap.objs.size x1 x2 → h'.objs.size = s.heap.objs.size + 1 →
      (∀ c o, c ≠ z → c ≠ TO → c ≠ i1 → c ≠ i2 → s.heap.get? c = some o → h'.get? c = some o) → Q (.ref s.heap.objs.size) { s with heap := h', toks := tk }) :
    wpAny (model prog w) A (Builtin.SmallTypes.nextOf (.ref z)) Q E s := by
  have hT : s.TypeIs (.ref z) "zip" := by
    obtain ⟨own, fl, h, _⟩ := hz
    exact ⟨_, h, rfl⟩
  unfold Builtin.SmallTypes.nextOf
  refine wpAny_bind (wpAny_callSpecial?_slot (name := Str.ofString "__next__") hT F.slot_zip_next (wpAny_call_entry F.slot_zip_next hT F.entry_zip_next ?_ (F.args_zip_next_1 _)))
  exact zipAny_item S D1 D2 hz hTI hTO st1 st2 lt1 lt2 fun x1 x2 h' tk p1 p2 q1 q2 q3 q4 q5 q6 q7 => wpAny_pure (hQ x1 x2 h' tk p1 p2 q1 q2 q3 q4 q5 q6 q7)
theorem next_enum_zip_end {e : Addr} {c : Int} {old : Value} {Q : Option Value → Shared → Prop} (S : ZipSep2 z TI TO i1 i2 fp1 fp2) (D1 : Draws prog w A.in1.in1 i1 fp1 n1 P1 St1) (D2 : Draws prog w A.in1.in1 i2 fp2 n2 P2 St2) (he : IsEnum s.heap e z c old)
    (hz : ZipAny s.heap z TI TO) (hTI : IsTupOf2 s.heap TI (.ref i1) (.ref i2)) (hTO : IsTupOf2 s.heap TO a1 a2) (st1 : St1 i s.heap) (st2 : St2 i s.heap) (le1 : i ≤ n1) (le2 : i ≤ n2) (hend : i = n1 ∨ i = n2)
    (hQ : ∀ h' tk, (∀ c o, c ≠ z → c ≠ TO → c ≠ i1 → c ≠ i2 → s.heap.get? c = some o → h'.get? c = some o) → Q none { s with heap := h', toks := tk }) : wpAny (model prog w) A (pyNext (.ref e)) Q E s := by
  have hT : s.TypeIs (.ref e) "enumerate" := ⟨_, he, rfl⟩
  have hTz : s.TypeIs (.ref z) "zip" := by
    obtain ⟨own, fl, h, _⟩ := hz
    exact ⟨_, h, rfl⟩
  unfold pyNext
  refine wpAny_bind (wpAny_attempt (wpAny_callSpecial?_slot (name := Str.ofString "__next__") hT F.slot_enumerate_next (wpAny_call_entry F.slot_enumerate_next hT F.entry_enumerate_next ?_ (F.args_enumerate_next_1 _))))
  show wpAny _ _ (field (.ref e) 2 >>= _) _ _ _
  refine wpAny_bind (wpAny_field he rfl (x := .ref z) rfl (wpAny_bind ?_))
  unfold Builtin.SmallTypes.nextOf
  refine wpAny_bind (wpAny_callSpecial?_slot (name := Str.ofString "__next__") hTz F.slot_zip_next (wpAny_call_entry F.slot_zip_next hTz F.entry_zip_next ?_ (F.args_zip_next_1 _)))
  refine zipAny_end S D1 D2 hz hTI hTO st1 st2 le1 le2 hend fun h' tk ea hk hx => ?_
  obtain ⟨o, ho, hc⟩ := hx
  exact wpAny_bind (wpAny_isInstance (T := "StopIteration") (b := true) ⟨o, ho, hc⟩ isSubtype_stop (wpAny_pure (hQ _ _ hk)))
end
/-- the tuples at a and b as they stand at each turn: a new pair of both items, in a new pair with its place -/
def ItEZ (K : PySem.W.Frag) (a b : Addr) : It :=
  ⟨fun i H => ∃ (xs ys : List V) (x y : V), SqT K H a xs ∧ SqT K H b ys ∧ xs[i]? = some x ∧ ys[i]? = some y,
    fun i H v H' => ∃ T2 T1 x y, v = .ref T2 ∧ H T1 = none ∧ H T2 = none ∧ T1 ≠ T2 ∧ H' = upd (upd H T1 (.tup [x, y])) T2 (.tup [.int (i : Nat), .ref T1]) ∧ (∀ xs, SqT K H a xs → xs[i]? = some x) ∧ ∀ ys, SqT K H b ys → ys[i]? = some y,
    fun i H => ∃ xs ys : List V, SqT K H a xs ∧ SqT K H b ys ∧ i ≤ xs.length ∧ i ≤ ys.length ∧ (xs.length = i ∨ ys.length = i)⟩
/-- where the iterators stand -/
structure EZAt (a b e z TI TO i1 i2 : Addr) (i : Nat) (h : Heap) : Prop where
  en : ∃ old, IsEnum h e z ((i : Nat) : Int) old
  zi : ZipAny h z TI TO
  ti : IsTupOf2 h TI (.ref i1) (.ref i2)
  to : ∃ a1 a2, IsTupOf2 h TO a1 a2
  t1 : h.IsTupleIter i1 a i
  t2 : h.IsTupleIter i2 b i
theorem turn_ez {P : Program} {w : World} {K : PySem.W.Frag} {elts : List Expr} {kk : Nat} {tpos : Pos} {a b e z TI TO i1 i2 : Addr} (S : ZipSep2 z TI TO i1 i2 [i1, a] [i2, b]) (ne : e ≠ z ∧ e ≠ TI ∧ e ≠ TO ∧ e ≠ i1 ∧ e ≠ i2) (n1 : a ≠ i1) (n2 : b ≠ i2) :
    Turn P w K (.Tuple elts kk tpos) (ItEZ K a b) [e, z, TI, TO, i1, i2] e (fun i h => EZAt a b e z TI TO i1 i2 i h) where
  mem := by simp
  obj := fun i h st c hc => by
    obtain ⟨⟨old, he⟩, ⟨own, fl, hz, _⟩, hTI, ⟨_, _, hTO⟩, ⟨o1, e1, _, d1⟩, ⟨o2, e2, _, d2⟩⟩ := st
    have hc' : c = e ∨ c = z ∨ c = TI ∨ c = TO ∨ c = i1 ∨ c = i2 := by simpa using hc
    rcases hc' with q | q | q | q | q | q
    · rw [q]; exact ⟨_, he, fun v q => nomatch q⟩
    · rw [q]; exact ⟨_, hz, fun v q => nomatch q⟩
    · rw [q]; exact ⟨_, hTI, fun v q => nomatch q⟩
    · rw [q]; exact ⟨_, hTO, fun v q => nomatch q⟩
    · rw [q]; exact ⟨o1, e1, fun v q => by rw [d1] at q; cases q⟩
    · rw [q]; exact ⟨o2, e2, fun v q => by rw [d2] at q; cases q⟩
  keep := fun i h h' st k => by
    obtain ⟨⟨old, he⟩, ⟨own, fl, hz, ho⟩, hTI, ⟨x, y, hTO⟩, h1, h2⟩ := st
    exact ⟨⟨old, k e (by simp) _ he⟩, ⟨own, fl, k z (by simp) _ hz, ho⟩, k TI (by simp) _ hTI, ⟨x, y, k TO (by simp) _ hTO⟩, h1.at fun o q => k i1 (by simp) o q, h2.at fun o q => k i2 (by simp) o q⟩
  item := by
    intro X hP hw hK hc i pins s σ H E I hf st hg
    subst hP hw hK
    obtain ⟨⟨old, he⟩, hz, hTI, ⟨x0, y0, hTO⟩, h1, h2⟩ := st
    obtain ⟨xs, ys, x, y, hqx, hqy, hx, hy⟩ := hg
    obtain ⟨its, rv, p, _⟩ := I.tuple hqx
    obtain ⟨its2, rv2, p2, _⟩ := I.tuple hqy
    obtain ⟨u, hu, ru⟩ := rv.get hx
    obtain ⟨u2, hu2, ru2⟩ := rv2.get hy
    have hu' : its.toArray[i]? = some u := by simpa using hu
    have hu2' : its2.toArray[i]? = some u2 := by simpa using hu2
    have lt1 := (Array.getElem?_eq_some_iff.mp hu').1
    have lt2 := (Array.getElem?_eq_some_iff.mp hu2').1
    have hpa : s.heap.IsTuple a its.toArray := p
    have hpb : s.heap.IsTuple b its2.toArray := p2
    have hel : e < s.heap.objs.size := Heap.lt_size he
    have hlt : ∀ c ∈ [e, z, TI, TO, i1, i2], c < s.heap.objs.size := by
      intro c hcm
      have hc' : c = e ∨ c = z ∨ c = TI ∨ c = TO ∨ c = i1 ∨ c = i2 := by simpa using hcm
      obtain ⟨_, _, hz', _⟩ := hz
      rcases hc' with q | q | q | q | q | q
      · rw [q]; exact hel
      · rw [q]; exact Heap.lt_size hz'
      · rw [q]; exact Heap.lt_size hTI
      · rw [q]; exact Heap.lt_size hTO
      · rw [q]; obtain ⟨_, q', _⟩ := h1; exact Heap.lt_size q'
      · rw [q]; obtain ⟨_, q', _⟩ := h2; exact Heap.lt_size q'
    have hh : ∀ A' : Around, A'.handled = X.A.handled → A'.in1.handled = none := fun A' h => h.trans (I.ok.hd hc)
    refine enum_next_any (wr := [z, TO, i1, i2]) (R := fun v hh' => v = .ref s.heap.objs.size ∧ ZipAny hh' z TI TO ∧ (∃ y1 y2, IsTupOf2 hh' TO y1 y2) ∧ hh'.IsTupleIter i1 a (i + 1) ∧ hh'.IsTupleIter i2 b (i + 1) ∧ IsTupOf2 hh' s.heap.objs.size u u2 ∧ hh'.objs.size = s.heap.objs.size + 1) he (by simp [ne]) (fun A' Q' E' hA g => ?_) fun v h3 h4 tk hR hge hk ho hT hk4 => ?_
    · have D1 := Draws.tuple (prog := X.prog) (w := X.w) (A := A'.in1) (hh A' hA) i1 a n1 its.toArray
      have D2 := Draws.tuple (prog := X.prog) (w := X.w) (A := A'.in1) (hh A' hA) i2 b n2 its2.toArray
      refine nextOf_zip S D1 D2 hz hTI hTO ⟨h1, hpa⟩ ⟨h2, hpb⟩ lt1 lt2 fun x1 x2 h' tk q1 q2 q3 q4 q5 q6 q7 q8 q9 => g _ h' tk ⟨rfl, q3, q4, q5.1, q6.1, ?_, q8⟩ (by rw [q8]; exact Nat.le_succ _) fun c o hcn q => q9 c o (fun z' => hcn (by simp [z'])) (fun z' => hcn (by simp [z'])) (fun z' => hcn (by simp [z'])) (fun z' => hcn (by simp [z'])) q
      rw [hu'] at q1
      rw [hu2'] at q2
      cases q1
      cases q2
      exact q7
    · obtain ⟨rfl, z3, ⟨y1, y2, to3⟩, t13, t23, tp3, sz3⟩ := hR
      have neT : s.heap.objs.size ≠ e := Nat.ne_of_gt hel
      have ne3 : h3.objs.size ≠ e := by rw [sz3]; exact Nat.ne_of_gt (Nat.lt_succ_of_lt hel)
      refine ⟨_, rfl, wpAny_letOwnedTupleGo_enum (s := { s with heap := h4, toks := tk + 1 }) ho fun h5 he5 sb => ?_⟩
      replace sb : Heap.SameBut e h4 h5 := sb
      have up : ∀ c o, c ≠ e → h3.get? c = some o → h5.get? c = some o := fun c o hce q => (sb.2 c hce).trans (hk4 c o hce q)
      -- the inner pair
      have f1 : ∀ c ∈ [z, TO, i1, i2], FpOk X pins H c := fun c hcm => hf c (by
        have hc' : c = z ∨ c = TO ∨ c = i1 ∨ c = i2 := by simpa using hcm
        rcases hc' with q | q | q | q <;> simp [q])
      have hTi : H s.heap.objs.size = none := I.hok.fresh (Nat.le_refl _)
      have J1 : Inv X pins σ (upd H s.heap.objs.size (.tup [x, y])) { s with heap := h3, toks := tk } :=
        I.turnedNew (ch := [z, TO, i1, i2]) (fun c o hb q => hk c o hb q) f1 (Nat.le_refl _) ⟨by show 2 ≤ sizeLine; decide, [u, u2], .cons ru (.cons ru2 .nil), ⟨_, tp3, rfl, _, rfl⟩⟩
      have f2 : ∀ c ∈ [e], FpOk X pins (upd H s.heap.objs.size (.tup [x, y])) c := fun c hcm => by
        rw [List.mem_singleton.mp hcm]
        obtain ⟨g0, gr⟩ := hf e (by simp)
        exact ⟨by rw [upd_ne neT.symm]; exact g0, gr⟩
      have hT5 : h5.get? h3.objs.size = some { cls := .type "tuple", data := .seq #[.int i tk, .ref s.heap.objs.size] } := (sb.2 _ ne3).trans hT
      have J2 : Inv X pins σ (upd (upd H s.heap.objs.size (.tup [x, y])) h3.objs.size (.tup [.int (i : Nat), .ref s.heap.objs.size])) { s with heap := h5, toks := tk + 1 } :=
        J1.turnedNew (t' := tk + 1) (ch := [e]) (fun c o hb q => up c o (fun z' => hb (by simp [z'])) q) f2 (Nat.le_refl _) ⟨by show 2 ≤ sizeLine; decide, [.int i tk, .ref s.heap.objs.size], .cons ⟨_, rfl⟩ (.cons rfl .nil), ⟨_, hT5, rfl, _, rfl⟩⟩
      have hT2n : H h3.objs.size = none := I.hok.fresh (by rw [sz3]; exact Nat.le_succ _)
      refine ⟨.ref h3.objs.size, _, J2, rfl, ⟨_, _, x, y, rfl, hTi, hT2n, by rw [sz3]; exact Nat.ne_of_lt (Nat.lt_succ_self _), rfl, fun l hl => by rw [I.tuple_inj hl hqx]; exact hx, fun l hl => by rw [I.tuple_inj hl hqy]; exact hy⟩, ⟨⟨.ref s.heap.objs.size, ?_⟩, ?_, ?_, ⟨y1, y2, ?_⟩, ?_, ?_⟩, fun c hcm => ?_⟩
      · have e1 : ((i + 1 : Nat) : Int) = (i : Int) + 1 := by omega
        rw [e1]
        exact he5
      · obtain ⟨own, fl, q, o'⟩ := z3
        exact ⟨own, fl, up z _ ne.1.symm q, o'⟩
      · exact up TI _ ne.2.1.symm (hk TI _ (by simp only [List.mem_cons, List.not_mem_nil, or_false, not_or]; exact ⟨S.TIz, S.TITO, S.TIi1, S.TIi2⟩) hTI)
      · exact up TO _ ne.2.2.1.symm to3
      · exact t13.at fun o q => up i1 o ne.2.2.2.1.symm q
      · exact t23.at fun o q => up i2 o ne.2.2.2.2.symm q
      · have l := hlt c hcm
        rw [upd_ne (by rw [sz3]; exact Nat.ne_of_lt (Nat.lt_succ_of_lt l)), upd_ne (Nat.ne_of_lt l)]
        exact (hf c hcm).1
  done := by
    intro X hP hw hK hc i pins s σ H E I hf st hg
    subst hP hw hK
    obtain ⟨⟨old, he⟩, hz, hTI, ⟨x0, y0, hTO⟩, h1, h2⟩ := st
    obtain ⟨xs, ys, hqx, hqy, le1, le2, hend⟩ := hg
    obtain ⟨its, rv, p, _⟩ := I.tuple hqx
    obtain ⟨its2, rv2, p2, _⟩ := I.tuple hqy
    have l1 := rv.length
    have l2 := rv2.length
    have D1 := Draws.tuple (prog := X.prog) (w := X.w) (A := X.A.in1.in1) (I.ok.hd hc) i1 a n1 its.toArray
    have D2 := Draws.tuple (prog := X.prog) (w := X.w) (A := X.A.in1.in1) (I.ok.hd hc) i2 b n2 its2.toArray
    have hpa : s.heap.IsTuple a its.toArray := p
    have hpb : s.heap.IsTuple b its2.toArray := p2
    refine next_enum_zip_end S D1 D2 he hz hTI hTO ⟨h1, hpa⟩ ⟨h2, hpb⟩ (by simp only [List.size_toArray]; omega) (by simp only [List.size_toArray]; omega) (by simp only [List.size_toArray]; omega) fun h' tk hk => ⟨rfl, ?_⟩
    refine I.step (g' := s.gens) (t' := tk) (d' := s.drawn) (ch := [z, TO, i1, i2]) (fun c hcm => ?_) (fun c o _ _ hcn q _ => hk c o (fun z' => hcn (by simp [z'])) (fun z' => hcn (by simp [z'])) (fun z' => hcn (by simp [z'])) (fun z' => hcn (by simp [z'])) q)
      (fun c o _ _ hcn q _ => ⟨o.slots, hk c o (fun z' => hcn (by simp [z'])) (fun z' => hcn (by simp [z'])) (fun z' => hcn (by simp [z'])) (fun z' => hcn (by simp [z'])) q⟩) (fun _ _ _ _ n => n)
      (fun c o hcn q => ⟨o, hk c o (fun z' => hcn (by simp [z'])) (fun z' => hcn (by simp [z'])) (fun z' => hcn (by simp [z'])) (fun z' => hcn (by simp [z'])) q⟩) (fun _ _ q => q) (fun _ _ _ q => q) (fun c ps q => ⟨#[], by rw [q]; simp⟩) (fun m hm => ?_) (fun c u' q => ?_) I.bare
    · have f := hf c (by
        have hc' : c = z ∨ c = TO ∨ c = i1 ∨ c = i2 := by simpa using hcm
        rcases hc' with q | q | q | q <;> simp [q])
      exact ⟨f.2.2.2.1, f.2.1, f.2.2.2.2.1, f.2.2.2.2.2⟩
    · obtain ⟨o, es, ep, ho, r⟩ := hm
      have nL : ∀ c ∈ [e, z, TI, TO, i1, i2], c ≠ X.env.locals := fun c hcm => (hf c hcm).2.1
      exact ⟨o, es, ep, hk _ o (nL z (by simp)).symm (nL TO (by simp)).symm (nL i1 (by simp)).symm (nL i2 (by simp)).symm ho, r⟩
    · have nf : ∀ c ∈ [e, z, TI, TO, i1, i2], ∀ u, H c ≠ some u := fun c hcm u q => by
        rw [(hf c hcm).1] at q
        cases q
      refine (I.hok c u' q).stay (fun c' v hc' y => hk c' v (fun z' => ?_) (fun z' => ?_) (fun z' => ?_) (fun z' => ?_) y) (fun _ y => y) fun _ _ y => y
      all_goals
        subst z'
        rcases hc' with y' | y'
        · subst y'
          exact nf _ (by simp) _ q
        · exact nf _ (by simp) _ y'
  self := fun A i s Q E st h => by
    obtain ⟨_, he⟩ := st.en
    exact wpAny_pyIter_enum he h
set_option maxHeartbeats 1000000 in
/-- enumerate of an iterator that is its own iter -/
theorem meets_enumI {v : Value} {G : Heap → Prop} (B : ∀ (prog : Program) (w : World) (A : Around) (E : Value → Shared → Prop) (s : Shared) (Q : Value → Shared → Prop), G s.heap → Q v s → wpAny (model prog w) A (pyIter v) Q E s) :
    Meets (Builtin.«enumerate.__new__» ⟨[.type "enumerate", v], []⟩) (fun _ R s => G s.heap ∧
      R (.ok (.ret (.ref s.heap.objs.size))) { s with heap := s.heap.push { cls := .type "enumerate", data := .fields #[.none, .bool false, v, rawInt 0, .none, .none] } }) :=
  .of_wp fun prog w A R s h => by
    obtain ⟨hp, g, d, tk, os⟩ := s
    obtain ⟨h1, h⟩ := h
    have hsub := sub_enumerate
    have q1 : ∀ {A' : Around} {E : Value → Shared → Prop} {Q : Value → Shared → Prop}, Q v ⟨hp, g, d, tk, os⟩ → wpAny (model prog w) A' (pyIter v) Q E ⟨hp, g, d, tk, os⟩ := fun q => B prog w _ _ ⟨hp, g, d, tk, os⟩ _ h1 q
    wp_walk using q1
    refine wpAny_stack_any fun st => wpAny_pure ?_
    split
    · rename_i c _ _ _ _ _
      cases (c == Value.type "enumerate")
      · wp_walk using q1
        exact ⟨_, rfl, h⟩
      · wp_walk using q1
        exact ⟨_, rfl, h⟩
    · wp_walk using q1
      exact ⟨_, rfl, h⟩
section
variable {prog : Program} {w : World} {A : Around} {E : Value → Shared → Prop} {s : Shared}
theorem call_enumZ {z TI TO : Addr} {Q : Value → Shared → Prop} (hz : IsZip s.heap z TI TO .none)
    (h : ∀ h', IsEnum h' s.heap.objs.size z 0 .none → h'.objs.size = s.heap.objs.size + 1 → (∀ b o, s.heap.get? b = some o → h'.get? b = some o) → Q (.ref s.heap.objs.size) { s with heap := h' }) : wpAny (model prog w) A (call (.type "enumerate") [.ref z]) Q E s := by
  refine callType_new F.called_enumerate (by decide) (F.typeCall_enumerate_1 _) (F.newCall_enumerate_1 _) (fun obj => F.args_object_init_2 obj _) F.entry_enumerate_new
    (meets_enumI (G := fun h => IsZip h z TI TO .none) fun prog w A E s Q g q => wpAny_pyIter_zip g q) ⟨hz, ?_⟩
  have he : IsEnum (s.heap.push { cls := .type "enumerate", data := .fields #[.none, .bool false, .ref z, rawInt 0, .none, .none] }) s.heap.objs.size z 0 .none := Heap.get?_push_size _ rfl
  exact ⟨⟨_, he, rfl⟩, h _ he (Heap.size_push ..) fun b o x => Heap.get?_push_of_some _ x⟩
end
def iEZ (K : PySem.W.Frag) (ta : TA) : TI := fun σ H R => ta σ H fun vs H1 => ∃ a b xs ys, vs = [.ref a, .ref b] ∧ SqT K H1 a xs ∧ SqT K H1 b ys ∧ R (ItEZ K a b) H1
theorem pi_ez {X : Cx} {e1 e2 : Expr} {ta : TA} {p p2 pos pos2 tpos : Pos} {elts : List Expr} {kk : Nat} (hg : Gl X "enumerate") (hm : X.mg "enumerate" = none) (hg2 : Gl X "zip") (hm2 : X.mg "zip" = none) (ha : PA X [e1, e2] ta)
    (hs : starEach [e1, e2] X.env = (false, eval e1 X.env) :: starEach [e2] X.env := by rfl) (hpl : (backTo pos2 (starEach [e2] X.env)).any (·.1) = false := by rfl) :
    PI X (.Tuple elts kk tpos) (.Call (.Name "enumerate" p) [.Call (.Name "zip" p2) [e1, e2] [] pos2] [] pos) (iEZ X.K ta) := by
  refine ⟨fun pins s σ H R I h => ?_⟩
  refine Call_ (ld_blt I hg hm boot_enumerate (callWith_type1 (args_cons ?_ rfl) rfl rfl))
  refine Call_ (ld_blt I hg2 hm2 boot_zip (callWith_type1 (thn (ha.run pos2 pins s σ H _ I h) fun us s1 hv => ?_) hs hpl))
  obtain ⟨vs, H1, I1, r1, a, b, xs, ys, rfl, hqx, hqy, q⟩ := hv
  cases r1 with
  | cons ra rr =>
    obtain ⟨ub, rfl, rb⟩ := vals_one rr
    cases ra
    cases rb
    obtain ⟨its, rv, pa, _⟩ := I1.tuple hqx
    obtain ⟨its2, rv2, pb, _⟩ := I1.tuple hqy
    have hpa : s1.heap.IsTuple a its.toArray := pa
    have hpb : s1.heap.IsTuple b its2.toArray := pb
    have la : a < s1.heap.objs.size := pa.lt
    have lb : b < s1.heap.objs.size := pb.lt
    refine zip_begins2 (begins_tuple a its.toArray) (begins_tuple b its2.toArray) hpa hpb fun h' hz hTI hTO g1 g2 hsz hk => ?_
    refine args_nil (call_enumZ (s := { s1 with heap := h' }) hz fun h2 he hsz2 hk2 => wpAny_pyIter_enum he ?_)
    replace he : IsEnum h2 h'.objs.size (s1.heap.objs.size + 4) 0 .none := he
    replace hsz2 : h2.objs.size = h'.objs.size + 1 := hsz2
    have kk2 : ∀ c o, s1.heap.get? c = some o → h2.get? c = some o := fun c o x => hk2 c o (hk c o x)
    rw [hsz] at he
    have I2 : Inv X pins σ H1 { s1 with heap := h2 } := I1.kept (t' := s1.toks) kk2
    have N : ∀ c, s1.heap.objs.size ≤ c → FpOk X pins H1 c := fun c hle => I1.fpOk hle (I1.hok.fresh hle)
    have S := zip_sep2 (N := s1.heap.objs.size) (fp1 := [a]) (fp2 := [b]) (fun c hc => by rw [List.mem_singleton.mp hc]; exact la) (fun c hc => by rw [List.mem_singleton.mp hc]; exact lb)
    have cv : ∀ (m : Nat), s1.heap.objs.size ≤ s1.heap.objs.size + m := fun m => Nat.le_add_right _ _
    show PIE X pins σ _ R (.ref h'.objs.size) _
    rw [hsz]
    refine ⟨s1.heap.objs.size + 5, [s1.heap.objs.size + 5, s1.heap.objs.size + 4, s1.heap.objs.size + 2, s1.heap.objs.size + 3, s1.heap.objs.size, s1.heap.objs.size + 1], _, _, H1, rfl, I2,
      turn_ez S ((fun n : Nat => (by omega : n + 5 ≠ n + 4 ∧ n + 5 ≠ n + 2 ∧ n + 5 ≠ n + 3 ∧ n + 5 ≠ n ∧ n + 5 ≠ n + 1)) s1.heap.objs.size) (Nat.ne_of_lt la) (Nat.ne_of_lt (Nat.lt_succ_of_lt lb)),
      ⟨⟨.none, he⟩, ⟨_, _, hk2 _ _ hz, .inl rfl⟩, hk2 _ _ hTI, ⟨_, _, hk2 _ _ hTO⟩, ⟨_, hk2 _ _ g1, rfl, rfl⟩, ⟨_, hk2 _ _ g2, rfl, rfl⟩⟩, fun c hcm => N c ?_, q⟩
    have hc' : c = s1.heap.objs.size + 5 ∨ c = s1.heap.objs.size + 4 ∨ c = s1.heap.objs.size + 2 ∨ c = s1.heap.objs.size + 3 ∨ c = s1.heap.objs.size ∨ c = s1.heap.objs.size + 1 := by simpa using hcm
    rcases hc' with q' | q' | q' | q' | q' | q' <;> rw [q'] <;> first | exact Nat.le_refl _ | exact cv _
/-- for at, (x, y) in enumerate(zip(t, u)): t and u equally long -/
theorem walk_ez {K : PySem.W.Frag} {a b : Addr} {xs ys : List V} (hl : xs.length = ys.length) : Walk (ItEZ K a b) xs.length (fun H => SqT K H a xs ∧ SqT K H b ys)
    (fun i H v H' => ∃ T2 T1 x y, v = .ref T2 ∧ H T1 = none ∧ H T2 = none ∧ T1 ≠ T2 ∧ H' = upd (upd H T1 (.tup [x, y])) T2 (.tup [.int (i : Nat), .ref T1]) ∧ xs[i]? = some x ∧ ys[i]? = some y) := by
  refine ⟨fun i H hi q => ⟨xs, ys, xs[i], ys[i], q.1, q.2, by simp [hi], by simp⟩, fun H q => ⟨xs, ys, q.1, q.2, Nat.le_refl _, Nat.le_of_eq hl, .inl rfl⟩, fun i H v H' _ q y => ?_⟩
  obtain ⟨T2, T1, x, y', h1, h2, h3, h4, h5, h6, h7⟩ := y
  exact ⟨T2, T1, x, y', h1, h2, h3, h4, h5, h6 xs q.1, h7 ys q.2⟩
end Zn
set_option Elab.async false
set_option linter.all false
set_option maxRecDepth 100000
set_option maxHeartbeats 4000000
/-! The text by places, and what the top leaves of it. -/
namespace Zk
open PySem PySem.Spec PyProof.Rows L2 GxR Zn
def top (i : Nat) : Stmt := PySem.Challenge.pw_draftward_k02_whole_texts_to_tokens_and.main.body.getD i (.Pass ⟨0, 0, 0, 0⟩)
/-- a def of the top, called by its parameters -/
structure Df (K : PySem.W.Frag) (mg : Str → Option Value) (x : Str) (st : Stmt) (ps : List Str) (f : Addr) (fd : FuncData) : Prop where
  F : Fun K x x st f fd
  g : mg x = some (.ref f)
  b : Binds K fd ps []
theorem Df.kp {K : PySem.W.Frag} {mg : Str → Option Value} {x : Str} {st : Stmt} {ps : List Str} {f : Addr} {fd : FuncData} (D : Df K mg x st ps f fd) : PySem.W.keepIn K (.ref f) = true := D.F.kp
/-- the code object of a def whose body holds a generator expression, and its table -/
structure Tb (mg : Str → Option Value) (base : Heap) (fd : FuncData) (c P : Addr) : Prop where
  code : fd.code = .ref c
  tab : TabB base mg c P
structure Wd (K : PySem.W.Frag) (mg : Str → Option Value) (base : Heap) where
  a7 : Addr
  d7 : FuncData
  D7 : Df K mg "is_integer" (top 7) ["thing"] a7 d7
  a8 : Addr
  d8 : FuncData
  D8 : Df K mg "is_integer_from" (top 8) ["thing", "least"] a8 d8
  a9 : Addr
  d9 : FuncData
  D9 : Df K mg "is_number_below" (top 9) ["thing", "many"] a9 d9
  a10 : Addr
  d10 : FuncData
  D10 : Df K mg "is_token" (top 10) ["thing", "many"] a10 d10
  a11 : Addr
  d11 : FuncData
  D11 : Df K mg "are_tokens" (top 11) ["thing", "many"] a11 d11
  a12 : Addr
  d12 : FuncData
  D12 : Df K mg "are_small_letters" (top 12) ["thing"] a12 d12
  a13 : Addr
  d13 : FuncData
  D13 : Df K mg "is_tuple_of" (top 13) ["thing", "many"] a13 d13
  a14 : Addr
  d14 : FuncData
  D14 : Df K mg "same" (top 14) ["right", "thing"] a14 d14
  a15 : Addr
  d15 : FuncData
  D15 : Df K mg "first_difference" (top 15) ["right", "thing"] a15 d15
  a16 : Addr
  d16 : FuncData
  D16 : Df K mg "certificate" (top 16) ["right", "thing"] a16 d16
  a20 : Addr
  d20 : FuncData
  D20 : Df K mg "is_vocabulary" (top 20) ["thing"] a20 d20
  a21 : Addr
  d21 : FuncData
  D21 : Df K mg "size" (top 21) ["vocabulary"] a21 d21
  a22 : Addr
  d22 : FuncData
  D22 : Df K mg "piece" (top 22) ["vocabulary", "token"] a22 d22
  a23 : Addr
  d23 : FuncData
  D23 : Df K mg "to_tokens" (top 23) ["vocabulary", "text"] a23 d23
  a24 : Addr
  d24 : FuncData
  D24 : Df K mg "to_text" (top 24) ["vocabulary", "tokens"] a24 d24
  a25 : Addr
  d25 : FuncData
  D25 : Df K mg "judge_tokens" (top 25) ["vocabulary", "text", "thing"] a25 d25
  a26 : Addr
  d26 : FuncData
  D26 : Df K mg "pieces_of" (top 26) ["vocabulary"] a26 d26
  a27 : Addr
  d27 : FuncData
  D27 : Df K mg "tokens_of" (top 27) ["vocabulary", "text"] a27 d27
  a28 : Addr
  d28 : FuncData
  D28 : Df K mg "_need_vocabulary" (top 28) ["vocabulary"] a28 d28
  a29 : Addr
  d29 : FuncData
  D29 : Df K mg "_need_text" (top 29) ["vocabulary", "text"] a29 d29
  a30 : Addr
  d30 : FuncData
  D30 : Df K mg "_are_letters" (top 30) ["thing"] a30 d30
  a31 : Addr
  d31 : FuncData
  D31 : Df K mg "_are_merges" (top 31) ["letters", "thing"] a31 d31
  a32 : Addr
  d32 : FuncData
  D32 : Df K mg "_is_merge" (top 32) ["thing", "made"] a32 d32
  a33 : Addr
  d33 : FuncData
  D33 : Df K mg "_size_of" (top 33) ["vocabulary"] a33 d33
  a34 : Addr
  d34 : FuncData
  D34 : Df K mg "_pieces" (top 34) ["letters", "merges"] a34 d34
  a35 : Addr
  d35 : FuncData
  D35 : Df K mg "_letter_tokens" (top 35) ["letters", "text"] a35 d35
  a36 : Addr
  d36 : FuncData
  D36 : Df K mg "_merged" (top 36) ["tokens", "merge", "made"] a36 d36
  a38 : Addr
  d38 : FuncData
  D38 : Df K mg "_law_deck" (top 38) ["script", "seed"] a38 d38
  a39 : Addr
  d39 : FuncData
  D39 : Df K mg "_law_draw" (top 39) ["deck", "many"] a39 d39
  a40 : Addr
  d40 : FuncData
  D40 : Df K mg "_law_pick" (top 40) ["deck", "some"] a40 d40
  a41 : Addr
  d41 : FuncData
  D41 : Df K mg "_law_pieces" (top 41) ["letters", "merges"] a41 d41
  a42 : Addr
  d42 : FuncData
  D42 : Df K mg "_law_letters" (top 42) ["deck", "most"] a42 d42
  a43 : Addr
  d43 : FuncData
  D43 : Df K mg "_law_drawn_vocabulary" (top 43) ["deck", "most", "many"] a43 d43
  a44 : Addr
  d44 : FuncData
  D44 : Df K mg "_law_drawn_text" (top 44) ["deck", "letters", "most"] a44 d44
  a45 : Addr
  d45 : FuncData
  D45 : Df K mg "_law_merged" (top 45) ["tokens", "pair", "new"] a45 d45
  a46 : Addr
  d46 : FuncData
  D46 : Df K mg "_law_tokens" (top 46) ["vocabulary", "text"] a46 d46
  a47 : Addr
  d47 : FuncData
  D47 : Df K mg "_law_text" (top 47) ["vocabulary", "tokens"] a47 d47
  a48 : Addr
  d48 : FuncData
  D48 : Df K mg "law" (top 48) ["script"] a48 d48
  c11 : Addr
  P11 : Addr
  T11 : Tb mg base d11 c11 P11
  c12 : Addr
  P12 : Addr
  T12 : Tb mg base d12 c12 P12
  c29 : Addr
  P29 : Addr
  T29 : Tb mg base d29 c29 P29
  c32 : Addr
  P32 : Addr
  T32 : Tb mg base d32 c32 P32
  m_isinstance : mg "isinstance" = none
  m_int : mg "int" = none
  m_bool : mg "bool" = none
  m_tuple : mg "tuple" = none
  m_all : mg "all" = none
  m_str : mg "str" = none
  m_len : mg "len" = none
  m_enumerate : mg "enumerate" = none
  m_zip : mg "zip" = none
  m_min : mg "min" = none
  m_set : mg "set" = none
  m_range : mg "range" = none
  m_repr : mg "repr" = none
  m_list : mg "list" = none
  m_max : mg "max" = none
  g_ML : ∃ t, mg "MOST_LETTERS" = some (.int 6 t)
  g_MM : ∃ t, mg "MOST_MERGES" = some (.int 10 t)
theorem sc7 : FnScope ["thing"] ["thing"] (defScope (top 7)) := ⟨rfl, rfl, rfl, by decide +kernel, rfl, by decide +kernel, by decide +kernel⟩
theorem sc8 : FnScope ["thing", "least"] ["thing", "least"] (defScope (top 8)) := ⟨rfl, rfl, rfl, by decide +kernel, rfl, by decide +kernel, by decide +kernel⟩
theorem sc9 : FnScope ["thing", "many"] ["thing", "many"] (defScope (top 9)) := ⟨rfl, rfl, rfl, by decide +kernel, rfl, by decide +kernel, by decide +kernel⟩
theorem sc10 : FnScope ["thing", "many"] ["thing", "many"] (defScope (top 10)) := ⟨rfl, rfl, rfl, by decide +kernel, rfl, by decide +kernel, by decide +kernel⟩
theorem sc11 : FnScope ["thing", "many"] ["thing", "many"] (defScope (top 11)) := ⟨rfl, rfl, rfl, by decide +kernel, rfl, by decide +kernel, by decide +kernel⟩
theorem sc12 : FnScope ["thing"] ["thing"] (defScope (top 12)) := ⟨rfl, rfl, rfl, by decide +kernel, rfl, by decide +kernel, by decide +kernel⟩
theorem sc13 : FnScope ["thing", "many"] ["thing", "many"] (defScope (top 13)) := ⟨rfl, rfl, rfl, by decide +kernel, rfl, by decide +kernel, by decide +kernel⟩
theorem sc14 : FnScope ["right", "thing"] ["right", "thing"] (defScope (top 14)) := ⟨rfl, rfl, rfl, by decide +kernel, rfl, by decide +kernel, by decide +kernel⟩
theorem sc15 : FnScope ["right", "thing", "at", "item", "other"] ["right", "thing"] (defScope (top 15)) := ⟨rfl, rfl, rfl, by decide +kernel, rfl, by decide +kernel, by decide +kernel⟩
theorem sc16 : FnScope ["right", "thing", "at"] ["right", "thing"] (defScope (top 16)) := ⟨rfl, rfl, rfl, by decide +kernel, rfl, by decide +kernel, by decide +kernel⟩
theorem sc20 : FnScope ["thing", "_", "letters", "merges"] ["thing"] (defScope (top 20)) := ⟨rfl, rfl, rfl, by decide +kernel, rfl, by decide +kernel, by decide +kernel⟩
theorem sc21 : FnScope ["vocabulary"] ["vocabulary"] (defScope (top 21)) := ⟨rfl, rfl, rfl, by decide +kernel, rfl, by decide +kernel, by decide +kernel⟩
theorem sc22 : FnScope ["vocabulary", "token"] ["vocabulary", "token"] (defScope (top 22)) := ⟨rfl, rfl, rfl, by decide +kernel, rfl, by decide +kernel, by decide +kernel⟩
theorem sc23 : FnScope ["vocabulary", "text"] ["vocabulary", "text"] (defScope (top 23)) := ⟨rfl, rfl, rfl, by decide +kernel, rfl, by decide +kernel, by decide +kernel⟩
theorem sc24 : FnScope ["vocabulary", "tokens", "pieces", "token"] ["vocabulary", "tokens"] (defScope (top 24)) := ⟨rfl, rfl, rfl, by decide +kernel, rfl, by decide +kernel, by decide +kernel⟩
theorem sc25 : FnScope ["vocabulary", "text", "thing"] ["vocabulary", "text", "thing"] (defScope (top 25)) := ⟨rfl, rfl, rfl, by decide +kernel, rfl, by decide +kernel, by decide +kernel⟩
theorem sc26 : FnScope ["vocabulary", "_", "letters", "merges"] ["vocabulary"] (defScope (top 26)) := ⟨rfl, rfl, rfl, by decide +kernel, rfl, by decide +kernel, by decide +kernel⟩
theorem sc27 : FnScope ["vocabulary", "text", "_", "letters", "merges", "tokens", "at", "merge"] ["vocabulary", "text"] (defScope (top 27)) := ⟨rfl, rfl, rfl, by decide +kernel, rfl, by decide +kernel, by decide +kernel⟩
theorem sc28 : FnScope ["vocabulary"] ["vocabulary"] (defScope (top 28)) := ⟨rfl, rfl, rfl, by decide +kernel, rfl, by decide +kernel, by decide +kernel⟩
theorem sc29 : FnScope ["vocabulary", "text"] ["vocabulary", "text"] (defScope (top 29)) := ⟨rfl, rfl, rfl, by decide +kernel, rfl, by decide +kernel, by decide +kernel⟩
theorem sc30 : FnScope ["thing"] ["thing"] (defScope (top 30)) := ⟨rfl, rfl, rfl, by decide +kernel, rfl, by decide +kernel, by decide +kernel⟩
theorem sc31 : FnScope ["letters", "thing", "at", "merge", "pieces"] ["letters", "thing"] (defScope (top 31)) := ⟨rfl, rfl, rfl, by decide +kernel, rfl, by decide +kernel, by decide +kernel⟩
theorem sc32 : FnScope ["thing", "made"] ["thing", "made"] (defScope (top 32)) := ⟨rfl, rfl, rfl, by decide +kernel, rfl, by decide +kernel, by decide +kernel⟩
theorem sc33 : FnScope ["vocabulary"] ["vocabulary"] (defScope (top 33)) := ⟨rfl, rfl, rfl, by decide +kernel, rfl, by decide +kernel, by decide +kernel⟩
theorem sc34 : FnScope ["letters", "merges", "pieces", "i", "j"] ["letters", "merges"] (defScope (top 34)) := ⟨rfl, rfl, rfl, by decide +kernel, rfl, by decide +kernel, by decide +kernel⟩
theorem sc35 : FnScope ["letters", "text", "letter"] ["letters", "text"] (defScope (top 35)) := ⟨rfl, rfl, rfl, by decide +kernel, rfl, by decide +kernel, by decide +kernel⟩
theorem sc36 : FnScope ["tokens", "merge", "made", "found", "at"] ["tokens", "merge", "made"] (defScope (top 36)) := ⟨rfl, rfl, rfl, by decide +kernel, rfl, by decide +kernel, by decide +kernel⟩
theorem sc38 : FnScope ["script", "seed", "mixed", "cell"] ["script", "seed"] (defScope (top 38)) := ⟨rfl, rfl, rfl, by decide +kernel, rfl, by decide +kernel, by decide +kernel⟩
theorem sc39 : FnScope ["deck", "many", "cell", "figure"] ["deck", "many"] (defScope (top 39)) := ⟨rfl, rfl, rfl, by decide +kernel, rfl, by decide +kernel, by decide +kernel⟩
theorem sc40 : FnScope ["deck", "some"] ["deck", "some"] (defScope (top 40)) := ⟨rfl, rfl, rfl, by decide +kernel, rfl, by decide +kernel, by decide +kernel⟩
theorem sc41 : FnScope ["letters", "merges", "found", "i", "j"] ["letters", "merges"] (defScope (top 41)) := ⟨rfl, rfl, rfl, by decide +kernel, rfl, by decide +kernel, by decide +kernel⟩
theorem sc42 : FnScope ["deck", "most", "left", "found", "turn"] ["deck", "most"] (defScope (top 42)) := ⟨rfl, rfl, rfl, by decide +kernel, rfl, by decide +kernel, by decide +kernel⟩
theorem sc43 : FnScope ["deck", "most", "many", "letters", "merges", "some", "turn", "pair", "new"] ["deck", "most", "many"] (defScope (top 43)) := ⟨rfl, rfl, rfl, by decide +kernel, rfl, by decide +kernel, by decide +kernel⟩
theorem sc44 : FnScope ["deck", "letters", "most", "found", "turn", "part", "at"] ["deck", "letters", "most"] (defScope (top 44)) := ⟨rfl, rfl, rfl, by decide +kernel, rfl, by decide +kernel, by decide +kernel⟩
theorem sc45 : FnScope ["tokens", "pair", "new", "found", "at"] ["tokens", "pair", "new"] (defScope (top 45)) := ⟨rfl, rfl, rfl, by decide +kernel, rfl, by decide +kernel, by decide +kernel⟩
theorem sc46 : FnScope ["vocabulary", "text", "word", "letters", "merges", "found", "at", "pair", "x"] ["vocabulary", "text"] (defScope (top 46)) := ⟨rfl, rfl, rfl, by decide +kernel, rfl, by decide +kernel, by decide +kernel⟩
theorem sc47 : FnScope ["vocabulary", "tokens", "some", "x"] ["vocabulary", "tokens"] (defScope (top 47)) := ⟨rfl, rfl, rfl, by decide +kernel, rfl, by decide +kernel, by decide +kernel⟩
theorem sc48 : FnScope ["script", "deck", "turn", "vocabulary", "text", "due", "told", "many", "one", "other", "near", "at", "token", "k"] ["script"] (defScope (top 48)) := ⟨rfl, rfl, rfl, by decide +kernel, rfl, by decide +kernel, by decide +kernel⟩
end Zk
set_option Elab.async false
set_option linter.all false
set_option maxRecDepth 100000
set_option maxHeartbeats 4000000
/-! Heaps that only gain (but for the tables of code objects), and the defs about kinds of numbers. -/
namespace Zk
open PySem PySem.Spec PyProof.Rows L2 GxR Zn
/-- the tables stand -/
def TOk (Ts : List Addr) (H : Hp) : Prop := ∀ P ∈ Ts, TabG H P
/-- all that stood stands, the tables as tables -/
structure Gr (Ts : List Addr) (H H' : Hp) : Prop where
  t : TOk Ts H
  k : ∀ b o, b ∉ Ts → H b = some o → H' b = some o
  t' : TOk Ts H'
theorem Gr.refl {Ts : List Addr} {H : Hp} (t : TOk Ts H) : Gr Ts H H := ⟨t, fun _ _ _ e => e, t⟩
theorem Gr.tr {Ts : List Addr} {H H1 H2 : Hp} (a : Gr Ts H H1) (b : Gr Ts H1 H2) : Gr Ts H H2 := ⟨a.t, fun c o hc e => b.k c o hc (a.k c o hc e), b.t'⟩
theorem Gr.get {Ts : List Addr} {H H' : Hp} (g : Gr Ts H H') {a : Addr} {o : HO} (h : H a = some o) (n : ∀ ps, o ≠ .tbl ps := by intro ps z; cases z) : H' a = some o := by
  refine g.k a o (fun m => ?_) h
  obtain ⟨ps, e, _⟩ := g.t a m
  rw [h] at e
  exact n ps (Option.some.inj e)
theorem Gr.free {Ts : List Addr} {H H' : Hp} (g : Gr Ts H H') {p : Addr} (h : H' p = none) : H p = none := by
  cases e : H p with
  | none => rfl
  | some o =>
    by_cases m : p ∈ Ts
    · obtain ⟨ps, e2, _⟩ := g.t' p m
      rw [h] at e2
      cases e2
    · rw [g.k p o m e] at h
      cases h
theorem Gr.new {Ts : List Addr} {H H' : Hp} (g : Gr Ts H H') {p : Addr} {o : HO} (h : H' p = none) : Gr Ts H (upd H' p o) := by
  refine ⟨g.t, fun b u hb e => ?_, fun P hP => ?_⟩
  · have e1 := g.k b u hb e
    rw [upd_ne (ne_of_none e1 h)]
    exact e1
  · obtain ⟨ps, e, ht⟩ := g.t' P hP
    exact ⟨ps, by rw [upd_ne (ne_of_none e h)]; exact e, ht⟩
/-- a change at an address that did not stand at first -/
theorem Gr.mut {Ts : List Addr} {H H' : Hp} (g : Gr Ts H H') {p : Addr} {o : HO} (h : H p = none) (m : p ∉ Ts) : Gr Ts H (upd H' p o) := by
  refine ⟨g.t, fun b u hb e => ?_, fun P hP => ?_⟩
  · rw [upd_ne (ne_of_none e h)]
    exact g.k b u hb e
  · obtain ⟨ps, e, ht⟩ := g.t' P hP
    exact ⟨ps, by rw [upd_ne (show P ≠ p from fun z => m (z ▸ hP))]; exact e, ht⟩
theorem notTab {Ts : List Addr} {H : Hp} (t : TOk Ts H) {p : Addr} (h : H p = none) : p ∉ Ts := fun m => by
  obtain ⟨ps, e, _⟩ := t p m
  rw [h] at e
  cases e
theorem notTab' {Ts : List Addr} {H : Hp} (t : TOk Ts H) {p : Addr} {o : HO} (h : H p = some o) (n : ∀ ps, o ≠ .tbl ps := by intro ps z; cases z) : p ∉ Ts := fun m => by
  obtain ⟨ps, e, _⟩ := t p m
  rw [h] at e
  exact n ps (Option.some.inj e)
theorem Gr.tab {Ts : List Addr} {H H' : Hp} {P : Addr} (t : TOk Ts H) (hP : P ∈ Ts) (g : Tabbed P H H') : Gr Ts H H' := by
  refine ⟨t, fun b o hb e => ?_, fun Q hQ => ?_⟩
  · rw [g.2 b (fun z => hb (z ▸ hP))]
    exact e
  · by_cases z : Q = P
    · rw [z]
      exact g.1
    · obtain ⟨ps, e, ht⟩ := t Q hQ
      exact ⟨ps, by rw [g.2 Q z]; exact e, ht⟩

section
variable {P : Program} {w : World} {K : PySem.W.Frag} {mg : Str → Option Value} {base : Heap}
/-- a def whose code object is known -/
theorem okC {x qual : Str} {st : Stmt} {f : Addr} {fd : FuncData} {N ps : List Str} {k : Nat} {sp : Sp} {c0 : Value} (F : Fun K x qual st f fd) (hc : fd.code = c0) (S : FnScope N ps (defScope st)) (len : ∀ vs H Q E, sp vs H Q E → vs.length = ps.length)
    (hbody : ∀ (A : Around) (outer : List Env) (s : Shared) (H : Hp) (vs : List V) (Q : VK) (E : XK), Room k (A.deeper (envOfC qual (defScope st) s.heap.objs.size f c0)) → sp vs H Q E →
      ∃ t, PSs (cxOf CX0 P w K mg base N qual (defScope st) f c0 A outer s H E).nox (defBody st) t ∧ t { nx := fun _ H' => Q .non H', rt := Q } (start N vs) H) : FnOk P w K mg base CX0 (k + 1) f fd ps sp := by
  obtain ⟨oc, od, kV, doc, pm, an, cdv, ct, osl, rfl, lk, hcd⟩ := F.ex
  obtain rfl : cdv = c0 := hc
  refine fn_of lk hcd S len fun A outer s H vs Q E hr hsp => ?_
  obtain ⟨t, h, q⟩ := hbody A outer s H vs Q E hr hsp
  exact ⟨t, h.nox, q⟩
end

/-! ### kinds of numbers, at the level of the machine -/
section
variable {X : Cx} (W : Wd X.K X.mg X.base) {A : Around} {s : Shared} {E : Value → Shared → Prop}
include W
theorem isi_int_int (n : Int) (t : Tok) : wpAny (model X.prog X.w) A (call (.builtin "isinstance") [.int n t, .type "int"]) (fun r s3 => r = .bool true ∧ Keeps s s3) E s :=
  call_isinstance_yes (Tx := "int") rfl (by rfl) (by rw [isSubtype_type]; kernel_rfl) ⟨rfl, keeps_refl _⟩
theorem isi_int_bool (n : Int) (t : Tok) : wpAny (model X.prog X.w) A (call (.builtin "isinstance") [.int n t, .type "bool"]) (fun r s3 => r = .bool false ∧ Keeps s s3) E s :=
  call_isinstance (isinstance_false_int (by decide) (by rfl) (by rw [isSubtype_type]; kernel_rfl)) ⟨rfl, keeps_tok _ _⟩
theorem binds_to {x : Str} {st : Stmt} {ps : List Str} {f : Addr} {fd : FuncData} (D : Df X.K X.mg x st ps f fd) (G : Gnd X s.heap) (us : List Value) (hl : us.length = ps.length) : BindsTo s fd ⟨us, []⟩ (ps.zip us) := by
  have := D.b s us G.kin (by simpa using hl)
  simpa using this
/-- is_integer(n) -/
theorem q_isint (hA : A.handled = none) (hd : A.depth + 2 < recursionLimit) (G : Gnd X s.heap) (n : Int) (t : Tok) : wpAny (model X.prog X.w) A (call (.ref W.a7) [.int n t]) (fun r s3 => r = .bool true ∧ Keeps s s3) E s := by
  refine call_pure (pos := _) (ps := ["thing"]) W.D7.F sc7 rfl (binds_to W W.D7 G [.int n t] rfl) (by omega) G rfl fun env h1 m es eg eb g1 hn hm => ?_
  have hk : env.scope.kind = .function := by rw [es]; rfl
  have ko : ∀ x, env.kindOf x = (defScope (top 7)).names.lookup x := fun x => by rw [← es]; rfl
  have hx := hm 0 "thing" (.int n t) rfl rfl (by rw [ko]; rfl)
  have qx : ∀ {p}, QE X (A.deeper env) env h1 (.Name "thing" p) (fun z => z = .int n t) := fun {p} => qe_loc hk (by rw [ko]; rfl) hn hx
  exact qe_and (X := X) (A := A.deeper env) (env := env) (h0 := h1) (u := true) (v := true)
    (qe_isi (T := "int") (v := true) hk (by rw [ko]; rfl) eg eb g1 W.m_isinstance (by rw [ko]; rfl) W.m_int (by decide +kernel) qx fun u s E hu => by rw [hu]; exact isi_int_int W n t)
    (fun _ => qe_not (v := false) (qe_isi (T := "bool") (v := false) hk (by rw [ko]; rfl) eg eb g1 W.m_isinstance (by rw [ko]; rfl) W.m_bool (by decide +kernel) qx fun u s E hu => by rw [hu]; exact isi_int_bool W n t))
/-- is_integer_from(n, m) -/
theorem q_isfrom (hA : A.handled = none) (hd : A.depth + 4 < recursionLimit) (G : Gnd X s.heap) (n l : Int) (t u : Tok) : wpAny (model X.prog X.w) A (call (.ref W.a8) [.int n t, .int l u]) (fun r s3 => r = .bool (decide (n ≥ l)) ∧ Keeps s s3) E s := by
  refine call_pure (pos := _) (ps := ["thing", "least"]) W.D8.F sc8 rfl (binds_to W W.D8 G [.int n t, .int l u] rfl) (by omega) G rfl fun env h1 m es eg eb g1 hn hm => ?_
  have hk : env.scope.kind = .function := by rw [es]; rfl
  have ko : ∀ x, env.kindOf x = (defScope (top 8)).names.lookup x := fun x => by rw [← es]; rfl
  have hx := hm 0 "thing" (.int n t) rfl rfl (by rw [ko]; rfl)
  have hy := hm 1 "least" (.int l u) rfl rfl (by rw [ko]; rfl)
  have qx : ∀ {p}, QE X (A.deeper env) env h1 (.Name "thing" p) (fun z => z = .int n t) := fun {p} => qe_loc hk (by rw [ko]; rfl) hn hx
  have qy : ∀ {p}, QE X (A.deeper env) env h1 (.Name "least" p) (fun z => z = .int l u) := fun {p} => qe_loc hk (by rw [ko]; rfl) hn hy
  exact qe_and (X := X) (A := A.deeper env) (env := env) (h0 := h1) (u := true) (v := decide (n ≥ l))
    (qe_callF (f := W.a7) hk (by rw [ko]; rfl) eg g1 W.D7.g W.D7.kp (qa_cons qx qa_nil) fun us s E hu G' => by
      obtain ⟨u', r, rfl, rfl, rfl⟩ := hu
      exact q_isint (A := A.deeper env) W hA (by show A.depth + 1 + 2 < _; omega) G' n t)
    (fun _ => qe_ge (qx.mono fun z e => ⟨t, e⟩) (qy.mono fun z e => ⟨u, e⟩))
/-- is_number_below(n, m) -/
theorem q_isbelow (hA : A.handled = none) (hd : A.depth + 4 < recursionLimit) (G : Gnd X s.heap) (n l : Int) (t u : Tok) : wpAny (model X.prog X.w) A (call (.ref W.a9) [.int n t, .int l u]) (fun r s3 => r = .bool (decide (0 ≤ n) && decide (n < l)) ∧ Keeps s s3) E s := by
  refine call_pure (pos := _) (ps := ["thing", "many"]) W.D9.F sc9 rfl (binds_to W W.D9 G [.int n t, .int l u] rfl) (by omega) G rfl fun env h1 m es eg eb g1 hn hm => ?_
  have hk : env.scope.kind = .function := by rw [es]; rfl
  have ko : ∀ x, env.kindOf x = (defScope (top 9)).names.lookup x := fun x => by rw [← es]; rfl
  have hx := hm 0 "thing" (.int n t) rfl rfl (by rw [ko]; rfl)
  have hy := hm 1 "many" (.int l u) rfl rfl (by rw [ko]; rfl)
  have qx : ∀ {p}, QE X (A.deeper env) env h1 (.Name "thing" p) (fun z => z = .int n t) := fun {p} => qe_loc hk (by rw [ko]; rfl) hn hx
  have qy : ∀ {p}, QE X (A.deeper env) env h1 (.Name "many" p) (fun z => z = .int l u) := fun {p} => qe_loc hk (by rw [ko]; rfl) hn hy
  exact qe_and (X := X) (A := A.deeper env) (env := env) (h0 := h1) (u := true) (v := decide (0 ≤ n) && decide (n < l))
    (qe_callF (f := W.a7) hk (by rw [ko]; rfl) eg g1 W.D7.g W.D7.kp (qa_cons qx qa_nil) fun us s E hu G' => by
      obtain ⟨u', r, rfl, rfl, rfl⟩ := hu
      exact q_isint (A := A.deeper env) W hA (by show A.depth + 1 + 2 < _; omega) G' n t)
    (fun _ => qe_lelt qe_int (qx.mono fun z e => ⟨t, e⟩) (qy.mono fun z e => ⟨u, e⟩))
/-- is_token(n, m) -/
theorem q_istoken (hA : A.handled = none) (hd : A.depth + 6 < recursionLimit) (G : Gnd X s.heap) (n l : Int) (t u : Tok) : wpAny (model X.prog X.w) A (call (.ref W.a10) [.int n t, .int l u]) (fun r s3 => r = .bool (decide (0 ≤ n) && decide (n < l)) ∧ Keeps s s3) E s := by
  refine call_pure (pos := _) (ps := ["thing", "many"]) W.D10.F sc10 rfl (binds_to W W.D10 G [.int n t, .int l u] rfl) (by omega) G rfl fun env h1 m es eg eb g1 hn hm => ?_
  have hk : env.scope.kind = .function := by rw [es]; rfl
  have ko : ∀ x, env.kindOf x = (defScope (top 10)).names.lookup x := fun x => by rw [← es]; rfl
  have hx := hm 0 "thing" (.int n t) rfl rfl (by rw [ko]; rfl)
  have hy := hm 1 "many" (.int l u) rfl rfl (by rw [ko]; rfl)
  have qx : ∀ {p}, QE X (A.deeper env) env h1 (.Name "thing" p) (fun z => z = .int n t) := fun {p} => qe_loc hk (by rw [ko]; rfl) hn hx
  have qy : ∀ {p}, QE X (A.deeper env) env h1 (.Name "many" p) (fun z => z = .int l u) := fun {p} => qe_loc hk (by rw [ko]; rfl) hn hy
  exact qe_callF (f := W.a9) hk (by rw [ko]; rfl) eg g1 W.D9.g W.D9.kp (qa_cons qx (qa_cons qy qa_nil)) fun us s E hu G' => by
      obtain ⟨u1, r1, rfl, rfl, u2, r2, rfl, rfl, rfl⟩ := hu
      exact q_isbelow (A := A.deeper env) W hA (by show A.depth + 1 + 4 < _; omega) G' n l t u
end
end Zk
set_option Elab.async false
set_option linter.all false
set_option maxRecDepth 100000
set_option maxHeartbeats 4000000
/-! The defs whose bodies hold generator expressions. -/
namespace Zk
open PySem PySem.Spec PyProof.Rows L2 GxR Zn
/-- the generator expression's scope fits into the def's, by a check -/
def gsC (sc scope : Scope) (x : Str) : Bool :=
  (match scope.kind with | .function => true | _ => false) && !scope.isCoroutine && scope.names.all (fun y => match y.2 with | .cell => false | _ => true) &&
  (match scope.names.lookup (".0" : Str) with | some .local => true | _ => false) && (match scope.names.lookup x with | some .local => true | _ => false) &&
  scope.names.all (fun y => match y.2 with | .free => (match sc.names.lookup y.1 with | some .cell => true | _ => false) | _ => true)
theorem genS_of {qual : Str} {sc scope : Scope} {n f : Addr} {cd : Value} {x : Str} (h : gsC sc scope x = true) : GenS (envOfC qual sc n f cd) scope x := by
  unfold gsC at h
  simp only [Bool.and_eq_true, Bool.not_eq_true', List.all_eq_true] at h
  obtain ⟨⟨⟨⟨⟨h1, h2⟩, h3⟩, h4⟩, h5⟩, h6⟩ := h
  refine ⟨?_, h2, fun y hy e => ?_, ?_, ?_, fun y hy e => ?_⟩
  · split at h1
    · assumption
    · cases h1
  · have q := h3 y hy
    rw [e] at q
    cases q
  · split at h4
    · assumption
    · cases h4
  · split at h5
    · assumption
    · cases h5
  · have q := h6 y hy
    rw [e] at q
    simp only at q
    split at q
    · exact cell_has (by assumption)
    · cases q
section
variable {X : Cx} {pins : List (Addr × Obj)} {σ : L2.St} {H : Hp} {s s1 : Shared}
/-- a captured name's cell -/
theorem cap (I : Inv X pins σ H s1) {i : Nat} {x : Str} {v : V} (hN : X.N[i]? = some x) (hs : σ[i]? = some (some v)) (hk : X.env.kindOf x = some .cell) : ∃ c u, X.env.cells.lookup x = some c ∧ s1.heap.IsCell c (some u) ∧ RelV v u ∧ H c = none := by
  obtain ⟨m, hn, hl⟩ := I.loc
  obtain ⟨u, r, l⟩ := hl i x v hN hs (.inr (.inl hk))
  rcases l with ⟨k, _⟩ | ⟨_, c, e, z⟩
  · rw [hk] at k
    cases k
  · exact ⟨c, u, e, z, r, I.freeC x c e⟩
theorem isCell_up {h h' : Heap} {c : Addr} {v : Option Value} (z : h.IsCell c v) (k : ∀ o, h.get? c = some o → h'.get? c = some o) : h'.IsCell c v := by
  obtain ⟨o, ho, hd⟩ := z
  exact ⟨o, k o ho, hd⟩
/-- what the element of a generator expression over a tuple is shown -/
theorem feed_tup {scope : Scope} {x : Str} {elt : Expr} {P a : Addr} {xs : List V} {tr : Nat → Bool} (h : H a = some (.tup xs)) (hP : TabG H P)
    (el : ∀ (pins : List (Addr × Obj)) (s1 : Shared), Inv X pins σ H s1 → ∀ (cenv : Env) (A' : Around) (E' : Value → Shared → Prop) (i : Nat) (v : V) (y : Value) (s2 : Shared) (m2 : Str → Option Value), InGen X scope cenv → A'.handled = none → A'.depth ≤ X.A.depth + 1 → xs[i]? = some v → RelV v y →
      s2.heap.Ns cenv.locals m2 → m2 x = some y → Gnd X s2.heap → (∀ b o, b ≠ P → s1.heap.get? b = some o → s2.heap.get? b = some o) → wpAny (model X.prog X.w) A' (eval elt cenv) (fun z s3 => z = .bool (tr i) ∧ Keeps s2 s3) E' s2) :
    Feed X σ scope x elt P (.ref a) H xs.length tr := by
  refine ⟨fun pins s1 u I r => ?_⟩
  cases r
  obtain ⟨ps, hps, _⟩ := hP
  obtain ⟨its, rv, pt, hz⟩ := I.tuple (.inl (.inl h))
  have hpt : s1.heap.IsTuple a its.toArray := pt
  have hlt : a < s1.heap.objs.size := pt.lt
  have hlen := rv.length
  refine ⟨[a], fun i v => its.toArray[i]? = some v, fun hm => ?_, fun b hb => by rw [List.mem_singleton.mp hb]; exact hlt, fun A E Q g => wpAny_pyIter_tuple hpt ?_, fun cenv A' E' i y s2 m2 ig hA hD hU hy hn hm hk => ?_⟩
  · rw [List.mem_singleton.mp hm, h] at hps
    cases hps
  · refine g _ (fun i h => h.IsTupleIter s1.heap.objs.size a i ∧ h.IsTuple a its.toArray) (fun A' hA' => ?_) ⟨⟨_, Heap.get?_push_size _ rfl, rfl, rfl⟩, hpt.push _⟩
    have Wk := Walks.tuple (prog := X.prog) (w := X.w) hA' s1.heap.objs.size a (Nat.ne_of_lt hlt) its.toArray
    have e : its.toArray.size = xs.length := by rw [List.size_toArray]; exact hlen.symm
    rw [e] at Wk
    exact Wk
  · have hy' : its[i]? = some y := by simpa using hy
    cases hv : xs[i]? with
    | none =>
      rw [rv.none_of hv] at hy'
      cases hy'
    | some v =>
      obtain ⟨y2, e2, ry⟩ := rv.get hv
      rw [hy'] at e2
      cases e2
      exact el pins s1 I cenv A' E' i v y s2 m2 ig hA hD hv ry hn hm (gnd_of I hps hk) hk
theorem feed_str {scope : Scope} {x : Str} {elt : Expr} {P : Addr} {z : Str} {tr : Nat → Bool} (hP : TabG H P)
    (el : ∀ (pins : List (Addr × Obj)) (s1 : Shared), Inv X pins σ H s1 → ∀ (cenv : Env) (A' : Around) (E' : Value → Shared → Prop) (i c : Nat) (t : Tok) (s2 : Shared) (m2 : Str → Option Value), InGen X scope cenv → A'.handled = none → A'.depth ≤ X.A.depth + 1 → z.cps[i]? = some c →
      s2.heap.Ns cenv.locals m2 → m2 x = some (.str ⟨#[c]⟩ t) → Gnd X s2.heap → (∀ b o, b ≠ P → s1.heap.get? b = some o → s2.heap.get? b = some o) → wpAny (model X.prog X.w) A' (eval elt cenv) (fun z s3 => z = .bool (tr i) ∧ Keeps s2 s3) E' s2) :
    Feed X σ scope x elt P (.str z) H z.cps.size tr := by
  refine ⟨fun pins s1 u I r => ?_⟩
  obtain ⟨t, rfl⟩ := r
  obtain ⟨ps, hps, _⟩ := hP
  refine ⟨[], SignAt z, (fun hm => by cases hm), (fun b hb => by cases hb), fun A E Q g => wpAny_pyIter_str fun o St Wk hst => g o St Wk hst, fun cenv A' E' i y s2 m2 ig hA hD hU hy hn hm hk => ?_⟩
  obtain ⟨c, t2, hc, rfl⟩ := hy
  exact el pins s1 I cenv A' E' i c t2 s2 m2 ig hA hD hc hn hm (gnd_of I hps hk) hk
end
theorem all_range {α : Type} (l : List α) (f : α → Bool) (g : Nat → Bool) (h : ∀ i x, l[i]? = some x → g i = f x) : (List.range l.length).all g = l.all f := by
  rw [Bool.eq_iff_iff, List.all_eq_true, List.all_eq_true]
  constructor
  · intro q x hx
    obtain ⟨i, hi, e⟩ := List.getElem_of_mem hx
    rw [← h i x (by rw [List.getElem?_eq_getElem hi, e])]
    exact q i (List.mem_range.mpr hi)
  · intro q i hi
    have hi' := List.mem_range.mp hi
    rw [h i l[i] (List.getElem?_eq_getElem hi')]
    exact q _ (List.getElem_mem hi')
/-- the tables -/
def Wd.Ts {K : PySem.W.Frag} {mg : Str → Option Value} {base : Heap} (W : Wd K mg base) : List Addr := [W.P11, W.P12, W.P29, W.P32]
section
variable {P : Program} {w : World} {K : PySem.W.Frag} {mg : Str → Option Value} {base : Heap} (W : Wd K mg base)
include W
theorem W10 : W.P11 ∈ W.Ts := by simp [Wd.Ts]
theorem W11 : W.P12 ∈ W.Ts := by simp [Wd.Ts]
theorem W28 : W.P29 ∈ W.Ts := by simp [Wd.Ts]
theorem W31 : W.P32 ∈ W.Ts := by simp [Wd.Ts]
/-- are_tokens of a tuple of ints -/
def sp11 (Ts : List Addr) : Sp := fun vs H Q _ => ∃ (a : Addr) (ns : List Int) (m : Int), vs = [.ref a, .int m] ∧ H a = some (.tup (ns.map V.int)) ∧ TOk Ts H ∧ ∀ H', Gr Ts H H' → Q (.bl (ns.all fun n => decide (0 ≤ n) && decide (n < m))) H'
theorem ok11 : FnOk P w K mg base CX0 4 W.a11 W.d11 ["thing", "many"] (sp11 W.Ts) := by
  refine okC W.D11.F W.T11.code sc11 (fun vs H Q E h => ?_) fun A outer s H vs Q E hr h => ?_
  · obtain ⟨a, ns, m, rfl, _⟩ := h
    rfl
  · obtain ⟨a, ns, m, rfl, ha, ht, k⟩ := h
    have hu := hu_of hr
    refine ⟨_, pss_one (ps_ret (pe_and (pe_callB call_isi (by rfl) W.m_isinstance boot_isi (pa_cons (pv 0) (pa_cons (pe_bltn (v := .ty "tuple") (by rfl) W.m_tuple (by decide +kernel) rfl) pa_nil)))
      (pe_one (pe_allF hr (by rfl) W.m_all W.T11.tab rfl (genS_of (by decide +kernel)) (pv 0) (by intro _; rfl))))), ?_⟩
    refine ⟨_, rfl, .ref a, .ty "tuple", _, _, true, rfl, .ty "tuple", .base (.tup ha), kit_ty (by decide +kernel), true, rfl, ?_⟩
    refine iteT ⟨_, rfl, ht _ (W10 W), (ns.map V.int).length, fun i => match ns[i]? with | some n => decide (0 ≤ n) && decide (n < m) | none => false, feed_tup ha (ht _ (W10 W)) fun pins s1 I cenv A' E' i v y s2 m2 ig hA hD hv ry hn hm G hk => ?_, fun H2 hT => ?_⟩
    · obtain ⟨cc, uu, e1, e2, e3, e4⟩ := cap I (i := 1) (x := "many") (v := .int m) rfl rfl rfl
      obtain ⟨tm, rfl⟩ := e3
      rw [List.getElem?_map] at hv
      cases hn0 : ns[i]? with
      | none =>
        rw [hn0] at hv
        cases hv
      | some n =>
        rw [hn0] at hv
        cases hv
        obtain ⟨t, rfl⟩ := ry
        obtain ⟨ps, hps, _⟩ := ht _ (W10 W)
        have hcell : s2.heap.IsCell cc (some (.int m tm)) := isCell_up e2 fun o q => hk cc o (fun z => by rw [z, hps] at e4; cases e4) q
        have hcl : cenv.cells.lookup ("many" : Str) = some cc := by
          rw [ig.cl]
          show some ((List.lookup ("many" : Str) _).getD 0) = some cc
          rw [e1]
          rfl
        have hkk : cenv.scope.kind = .function := (congrArg Scope.kind ig.sc).trans rfl
        have ko : ∀ x, cenv.kindOf x = (cenv.scope).names.lookup x := fun x => rfl
        have dep : A'.depth + 6 < recursionLimit := Nat.lt_of_le_of_lt (Nat.add_le_add_right hD 6) (by have := hr.dp; show (A.deeper _).depth + 1 + 6 < recursionLimit; omega)
        refine (qe_callF (X := (cxOf CX0 P w K mg base ["thing", "many"] "are_tokens" (defScope (top 11)) W.a11 (.ref W.c11) A outer s H E).nox) (f := W.a10) hkk (by rw [ko, ig.sc]; first | done | rfl) ig.gl G W.D10.g W.D10.kp (qa_cons (qe_loc hkk (by rw [ko, ig.sc]; first | done | rfl) hn hm) (qa_cons (qe_free hkk (by rw [ko, ig.sc]; first | done | rfl) hcl hcell) qa_nil)) fun us s E hus G' => ?_) s2 E' fun _ _ z => z
        obtain ⟨u1, r1, rfl, rfl, u2, r2, rfl, rfl, rfl⟩ := hus
        exact q_istoken W hA dep G' n m t tm
    · refine (all_range (ns.map V.int) (fun v => match v with | .int n => decide (0 ≤ n) && decide (n < m) | _ => false) _ (fun i x hx => ?_)) ▸ ?_
      · rw [List.getElem?_map] at hx
        cases hn0 : ns[i]? with
        | none => rw [hn0] at hx; cases hx
        | some n => rw [hn0] at hx; cases hx; rfl
      · rw [List.all_map]
        exact k H2 (Gr.tab ht (W10 W) hT)
end
end Zk
set_option Elab.async false
set_option linter.all false
set_option maxRecDepth 100000
set_option maxHeartbeats 4000000
/-! The mathematics: pieces, tokens, merging. -/
namespace Zm
open PySem
/-- the letters of a text -/
abbrev lt (z : Str) : List Nat := z.cps.toList
theorem str_ext {a b : Str} (h : lt a = lt b) : a = b := by
  obtain ⟨⟨a⟩⟩ := a
  obtain ⟨⟨b⟩⟩ := b
  simp only [lt] at h
  rw [h]
theorem lt_app (a b : Str) : lt (a ++ b) = lt a ++ lt b := by
  show (a.cps ++ b.cps).toList = _
  simp
theorem len_lt (z : Str) : z.length = (lt z).length := by
  show z.cps.size = _
  simp
abbrev Mg := List (Nat × Nat)
theorem getD_app_left {α : Type} {l l' : List α} {d : α} {n : Nat} (h : n < l.length) : (l ++ l').getD n d = l.getD n d := by
  rw [List.getD_eq_getElem?_getD, List.getD_eq_getElem?_getD, List.getElem?_append_left h]
theorem getD_app_right {α : Type} {l l' : List α} {d : α} {n : Nat} (h : l.length ≤ n) : (l ++ l').getD n d = l'.getD (n - l.length) d := by
  rw [List.getD_eq_getElem?_getD, List.getD_eq_getElem?_getD, List.getElem?_append_right h]
/-- one piece more -/
def stepP (ps : List (List Nat)) (p : Nat × Nat) : List (List Nat) := ps ++ [ps.getD p.1 [] ++ ps.getD p.2 []]
def pcs (L : List Nat) (M : Mg) : List (List Nat) := M.foldl stepP ([] :: L.map fun c => [c])
theorem pcs_nil (L : List Nat) : pcs L [] = [] :: L.map fun c => [c] := rfl
theorem pcs_snoc (L : List Nat) (M : Mg) (p : Nat × Nat) : pcs L (M ++ [p]) = stepP (pcs L M) p := by
  unfold pcs
  rw [List.foldl_append]
  rfl
theorem stepP_length (ps : List (List Nat)) (p : Nat × Nat) : (stepP ps p).length = ps.length + 1 := by
  unfold stepP
  rw [List.length_append]
  rfl
theorem fold_length : ∀ (M : Mg) (ps : List (List Nat)), (M.foldl stepP ps).length = ps.length + M.length
  | [], ps => rfl
  | p :: M, ps => by
    rw [List.foldl_cons, fold_length M, stepP_length, List.length_cons]
    omega
theorem pcs_length (L : List Nat) (M : Mg) : (pcs L M).length = 1 + L.length + M.length := by
  unfold pcs
  rw [fold_length, List.length_cons, List.length_map]
  omega
theorem pcs_take (L : List Nat) (M : Mg) (k : Nat) (h : k < M.length) : pcs L (M.take (k + 1)) = stepP (pcs L (M.take k)) M[k] := by
  rw [List.take_add_one, List.getElem?_eq_getElem h]
  exact pcs_snoc L _ _
theorem pcs_get {L : List Nat} {M : Mg} {k i : Nat} (hk : k ≤ M.length) (hi : i < 1 + L.length + k) : (pcs L M).getD i [] = (pcs L (M.take k)).getD i [] := by
  have key : ∀ j, k ≤ j → j ≤ M.length → (pcs L (M.take j)).getD i [] = (pcs L (M.take k)).getD i [] := by
    intro j
    induction j with
    | zero =>
      intro h1 _
      obtain rfl : k = 0 := by omega
      rfl
    | succ j ih =>
      intro h1 h2
      by_cases e : k = j + 1
      · rw [e]
      · rw [pcs_take L M j (by omega)]
        unfold stepP
        rw [getD_app_left (by rw [pcs_length, List.length_take]; omega)]
        exact ih (by omega) (by omega)
  have := key M.length hk (Nat.le_refl _)
  rw [List.take_length] at this
  exact this
/-- the place of a letter -/
def ix (L : List Nat) (c : Nat) : Nat := L.idxOf c
/-- one merge from left to right -/
def mrg (p : Nat × Nat) (new : Nat) : List Nat → List Nat
  | [] => []
  | [x] => [x]
  | x :: y :: r => if x = p.1 ∧ y = p.2 then new :: mrg p new r else x :: mrg p new (y :: r)
def toksFrom (n : Nat) : Nat → Mg → List Nat → List Nat
  | _, [], t => t
  | k, p :: M, t => toksFrom n (k + 1) M (mrg p (n + k) t)
/-- the tokens of a text -/
def toks (L : List Nat) (M : Mg) (z : List Nat) : List Nat := toksFrom (1 + L.length) 0 M (z.map fun c => 1 + ix L c)
/-- valid merges over n tokens of letters (with the end token) -/
def okM (n : Nat) (M : Mg) : Prop := ∀ (k : Nat) (p : Nat × Nat), M[k]? = some p → (1 ≤ p.1 ∧ p.1 < n + k) ∧ 1 ≤ p.2 ∧ p.2 < n + k
theorem mrg_lt {p : Nat × Nat} {new b : Nat} (hn : new < b) : ∀ (t : List Nat), (∀ x ∈ t, x < b) → ∀ x ∈ mrg p new t, x < b
  | [], _, x, hx => by cases hx
  | [y], h, x, hx => h x hx
  | y :: z :: r, h, x, hx => by
    unfold mrg at hx
    split at hx
    · rcases List.mem_cons.mp hx with e | hx
      · rw [e]; exact hn
      · exact mrg_lt hn r (fun u hu => h u (List.mem_cons_of_mem _ (List.mem_cons_of_mem _ hu))) x hx
    · rcases List.mem_cons.mp hx with e | hx
      · rw [e]; exact h y List.mem_cons_self
      · exact mrg_lt hn (z :: r) (fun u hu => h u (List.mem_cons_of_mem _ hu)) x hx
theorem mrg_le (p : Nat × Nat) (new : Nat) : ∀ t : List Nat, (mrg p new t).length ≤ t.length
  | [] => Nat.le_refl _
  | [x] => Nat.le_refl _
  | x :: y :: r => by
    unfold mrg
    split
    · have := mrg_le p new r
      simp only [List.length_cons]
      omega
    · have := mrg_le p new (y :: r)
      simp only [List.length_cons] at this ⊢
      omega
theorem toksFrom_lt (n : Nat) : ∀ (M : Mg) (k : Nat) (t : List Nat), (∀ x ∈ t, x < n + k) → ∀ x ∈ toksFrom n k M t, x < n + k + M.length
  | [], k, t, h, x, hx => h x hx
  | p :: M, k, t, h, x, hx => by
    have := toksFrom_lt n M (k + 1) (mrg p (n + k) t) (fun y hy => mrg_lt (by omega) t (fun u hu => by have := h u hu; omega) y hy) x hx
    rw [List.length_cons]
    omega
theorem toksFrom_le (n : Nat) : ∀ (M : Mg) (k : Nat) (t : List Nat), (toksFrom n k M t).length ≤ t.length
  | [], k, t => Nat.le_refl _
  | p :: M, k, t => Nat.le_trans (toksFrom_le n M (k + 1) _) (mrg_le _ _ _)
theorem toks_lt {L : List Nat} {M : Mg} {z : List Nat} (h : ∀ c ∈ z, c ∈ L) : ∀ x ∈ toks L M z, x < 1 + L.length + M.length := by
  refine toksFrom_lt _ M 0 _ fun x hx => ?_
  obtain ⟨c, hc, rfl⟩ := List.mem_map.mp hx
  have : L.idxOf c < L.length := List.idxOf_lt_length_iff.mpr (h c hc)
  unfold ix
  omega
theorem toks_le (L : List Nat) (M : Mg) (z : List Nat) : (toks L M z).length ≤ z.length := by
  have := toksFrom_le (1 + L.length) M 0 (z.map fun c => 1 + ix L c)
  rw [List.length_map] at this
  exact this
/-- the text of tokens -/
def txt (ps : List (List Nat)) (t : List Nat) : List Nat := (t.map fun x => ps.getD x []).flatten
theorem txt_mrg {ps : List (List Nat)} {p : Nat × Nat} {new : Nat} (h : ps.getD new [] = ps.getD p.1 [] ++ ps.getD p.2 []) : ∀ t, txt ps (mrg p new t) = txt ps t
  | [] => rfl
  | [x] => rfl
  | x :: y :: r => by
    unfold mrg
    split
    · rename_i e
      obtain ⟨e1, e2⟩ := e
      have := txt_mrg h r
      unfold txt at this ⊢
      simp only [List.map_cons, List.flatten_cons, this, h, e1, e2, List.append_assoc]
    · have := txt_mrg h (y :: r)
      unfold txt at this ⊢
      simp only [List.map_cons, List.flatten_cons, this]
theorem pcs_new {L : List Nat} {M : Mg} (ok : okM (1 + L.length) M) {k : Nat} (hk : k < M.length) : (pcs L M).getD (1 + L.length + k) [] = (pcs L M).getD M[k].1 [] ++ (pcs L M).getD M[k].2 [] := by
  obtain ⟨⟨_, a2⟩, _, a4⟩ := ok k M[k] (List.getElem?_eq_getElem hk)
  rw [pcs_get (k := k + 1) (i := 1 + L.length + k) hk (by omega), pcs_get (k := k) (i := M[k].1) (by omega) a2, pcs_get (k := k) (i := M[k].2) (by omega) a4, pcs_take L M k hk]
  unfold stepP
  have hl : (pcs L (M.take k)).length = 1 + L.length + k := by rw [pcs_length, List.length_take]; omega
  rw [getD_app_right (by omega), hl, Nat.sub_self]
  rfl
theorem txt_toksFrom {L : List Nat} {M : Mg} (ok : okM (1 + L.length) M) : ∀ (R : Mg) (k : Nat) (t : List Nat), M.drop k = R → txt (pcs L M) (toksFrom (1 + L.length) k R t) = txt (pcs L M) t
  | [], _, _, _ => rfl
  | p :: R, k, t, e => by
    have hk : k < M.length := by
      have := congrArg List.length e
      rw [List.length_drop, List.length_cons] at this
      omega
    have e2 := List.drop_eq_getElem_cons hk
    rw [e] at e2
    injection e2 with e3 e4
    unfold toksFrom
    rw [txt_toksFrom ok R (k + 1) _ e4.symm, txt_mrg]
    rw [e3]
    exact pcs_new ok hk
theorem getD_map_lt {L : List Nat} {c : Nat} (h : c ∈ L) (M : Mg) : (pcs L M).getD (1 + ix L c) [] = [c] := by
  have hl : L.idxOf c < L.length := List.idxOf_lt_length_iff.mpr h
  have e := pcs_get (L := L) (M := M) (k := 0) (i := 1 + ix L c) (Nat.zero_le _) (by unfold ix; omega)
  rw [e, List.take_zero, pcs_nil, Nat.add_comm, List.getD_cons_succ]
  unfold ix
  rw [List.getD_eq_getElem?_getD, List.getElem?_map, List.getElem?_eq_getElem hl]
  simp
theorem txt_toks {L : List Nat} {M : Mg} (ok : okM (1 + L.length) M) {z : List Nat} (h : ∀ c ∈ z, c ∈ L) : txt (pcs L M) (toks L M z) = z := by
  unfold toks
  rw [txt_toksFrom ok M 0 _ (List.drop_zero ..)]
  unfold txt
  rw [List.map_map]
  induction z with
  | nil => rfl
  | cons c r ih =>
    rw [List.map_cons, List.flatten_cons, ih fun x hx => h x (List.mem_cons_of_mem _ hx)]
    show (pcs L M).getD (1 + ix L c) [] ++ r = c :: r
    rw [getD_map_lt (h c List.mem_cons_self)]
    rfl
/-- nowhere in t does the pair p stand -/
def noP (p : Nat × Nat) (t : List Nat) : Prop := ∀ i, ¬ (t[i]? = some p.1 ∧ t[i + 1]? = some p.2)
theorem noP_cons {p : Nat × Nat} {x y : Nat} {r : List Nat} : noP p (x :: y :: r) ↔ ¬ (x = p.1 ∧ y = p.2) ∧ noP p (y :: r) := by
  constructor
  · intro h
    refine ⟨fun e => h 0 ⟨by rw [List.getElem?_cons_zero, e.1], by rw [List.getElem?_cons_succ, List.getElem?_cons_zero, e.2]⟩, fun i e => h (i + 1) ⟨by simpa using e.1, by simpa using e.2⟩⟩
  · intro h i e
    cases i with
    | zero => exact h.1 ⟨by simpa using e.1, by simpa using e.2⟩
    | succ i => exact h.2 i ⟨by simpa using e.1, by simpa using e.2⟩
theorem noP_nil (p : Nat × Nat) : noP p [] := fun i e => by cases e.1
theorem noP_one (p : Nat × Nat) (x : Nat) : noP p [x] := fun i e => by
  have := e.2
  simp at this
theorem mrg_head (p : Nat × Nat) (new y : Nat) (r : List Nat) : ∃ y' r', mrg p new (y :: r) = y' :: r' ∧ (y' = y ∨ y' = new) := by
  cases r with
  | nil => exact ⟨y, [], rfl, .inl rfl⟩
  | cons z r =>
    unfold mrg
    split
    · exact ⟨_, _, rfl, .inr rfl⟩
    · exact ⟨_, _, rfl, .inl rfl⟩
/-- behind its merge a pair stands nowhere; a pair of lesser tokens that stood nowhere does not come -/
theorem noP_mrg {p q : Nat × Nat} {new : Nat} (h1 : q.1 < new) (h2 : q.2 < new) : ∀ t : List Nat, (q = p ∨ noP q t) → noP q (mrg p new t)
  | [], _ => noP_nil _
  | [x], _ => noP_one _ _
  | x :: y :: r, h => by
    unfold mrg
    split
    · have hr : q = p ∨ noP q r := h.imp id fun g => by
        have g2 := (noP_cons.mp g).2
        cases r with
        | nil => exact noP_nil _
        | cons z r => exact (noP_cons.mp g2).2
      have ih := noP_mrg h1 h2 r hr
      cases e : mrg p new r with
      | nil => exact noP_one _ _
      | cons z r' =>
        rw [e] at ih
        exact noP_cons.mpr ⟨fun g => by omega, ih⟩
    · rename_i ne
      have hr : q = p ∨ noP q (y :: r) := h.imp id fun g => (noP_cons.mp g).2
      have ih := noP_mrg h1 h2 (y :: r) hr
      obtain ⟨y', r', e, hy⟩ := mrg_head p new y r
      rw [e] at ih ⊢
      refine noP_cons.mpr ⟨fun g => ?_, ih⟩
      rcases hy with hy | hy
      · rw [hy] at g
        rcases h with rfl | h
        · exact ne g
        · exact (noP_cons.mp h).1 g
      · omega
theorem noP_toksFrom {n : Nat} {M : Mg} (ok : okM n M) : ∀ (R : Mg) (k : Nat) (t : List Nat), M.drop k = R → (∀ (j : Nat) (p : Nat × Nat), j < k → M[j]? = some p → noP p t) → ∀ (j : Nat) (p : Nat × Nat), M[j]? = some p → noP p (toksFrom n k R t)
  | [], k, t, e, h, j, p, hj => by
    have hl : M.length ≤ k := List.drop_eq_nil_iff.mp e
    have := (List.getElem?_eq_some_iff.mp hj).1
    exact h j p (by omega) hj
  | q :: R, k, t, e, h, j, p, hj => by
    have hk : k < M.length := by
      have := congrArg List.length e
      rw [List.length_drop, List.length_cons] at this
      omega
    have e2 := List.drop_eq_getElem_cons hk
    rw [e] at e2
    injection e2 with e3 e4
    unfold toksFrom
    refine noP_toksFrom ok R (k + 1) _ e4.symm (fun i p' hi hp' => ?_) j p hj
    obtain ⟨⟨_, b1⟩, _, b2⟩ := ok i p' hp'
    refine noP_mrg (by omega) (by omega) t ?_
    by_cases ei : i = k
    · left
      rw [ei, List.getElem?_eq_getElem hk] at hp'
      rw [e3]
      exact (Option.some.inj hp').symm
    · exact .inr (h i p' (by omega) hp')
theorem noP_toks {L : List Nat} {M : Mg} (ok : okM (1 + L.length) M) (z : List Nat) : ∀ (j : Nat) (p : Nat × Nat), M[j]? = some p → noP p (toks L M z) :=
  noP_toksFrom ok M 0 _ (List.drop_zero ..) fun j p hj => by omega
end Zm
set_option Elab.async false
set_option linter.all false
set_option maxRecDepth 100000
set_option maxHeartbeats 4000000
namespace Zk
open PySem PySem.Spec PyProof.Rows L2 GxR Zn Zm
section
variable {X : Cx} {A : Around} {env : Env} {h0 : Heap} {a b : Expr} {p : Pos}
/-- t[k], t a tuple, k written -/
theorem qe_item {t : Addr} {items : Array Value} {k : Nat} {v : Value} (ha : QE X A env h0 a (fun z => z = .ref t)) (hb : QE X A env h0 b (fun z => ∃ u, z = .int (k : Nat) u)) (ht : IsTup h0 t items) (hk : items[k]? = some v) (hl : k < 1000)
    (hs : ∀ o i, subscripted b false o i = operate [o, i] (getItem o i) := by intro _ _; rfl) : QE X A env h0 (.Subscript a b p) (fun z => z = v) := fun s E kk => by
  refine Subscript_ (thn (ha s E kk) fun y s1 q1 => thn (hb s1 E fun c o z => kup q1.2 c o (kk c o z)) fun z s2 q2 => ?_)
  obtain ⟨rfl, k1⟩ := q1
  obtain ⟨⟨u, rfl⟩, k2⟩ := q2
  have k12 := ktr k1 k2
  have ht2 : IsTup s2.heap t items := by
    obtain ⟨o, h1, h2, n, h3⟩ := ht
    exact ⟨o, kup k12 t o (kk t o h1), h2, n, h3⟩
  have hlt := (Array.getElem?_eq_some_iff.mp hk).1
  have hj : seqIndex? (k : Int) items.size = some k := by
    have h0 : ¬ ((k : Int) < 0) := by omega
    have h1 : (0 : Int) ≤ k := by omega
    have h2 : (k : Int) < items.size := by omega
    simp only [seqIndex?, if_neg h0, decide_eq_true h1, decide_eq_true h2, Bool.and_self, if_true, Int.toNat_natCast]
  exact subscriptTail_builtinR (x := v) (Q := fun r s' => r = v ∧ Keeps s s') ht2.typeIs slot_tuple_getitem.lookup (getItem_tuple (j := k) ht2 (by omega) (by omega) hj hk ⟨rfl, rfl, k12⟩) (hs _ _)
/-- c in z, c one sign -/
theorem qe_inSign {c : Nat} {z : Str} (ha : QE X A env h0 a (fun v => ∃ t, v = .str ⟨#[c]⟩ t)) (hb : QE X A env h0 b (fun v => ∃ t, v = .str z t)) (hm : behindInMarks .In b = false := by rfl) : QE X A env h0 (.Compare a [.In] [b] p) (fun v => v = .bool (decide (c ∈ z.cps.toList))) :=
  qe_cmp ha hb (fun y v s E ⟨t, e1⟩ ⟨u, e2⟩ => by rw [e1, e2]; exact PyProof.Rows.in_str ⟨by rw [PySem.StrLaws.found_one z c], keeps_refl _⟩) hm
end
/-- merges at an address -/
def MgAt (H : Hp) (m : Addr) (M : Mg) : Prop := ∃ rs : List Addr, H m = some (.tup (rs.map V.ref)) ∧ rs.length = M.length ∧ ∀ (i : Nat) (r : Addr) (p : Nat × Nat), rs[i]? = some r → M[i]? = some p → H r = some (.tup [.int (p.1 : Nat), .int (p.2 : Nat)])
def Voc (H : Hp) (a : Addr) (L : Str) (M : Mg) : Prop := ∃ m, H a = some (.tup [.str "vocabulary", .str L, .ref m]) ∧ MgAt H m M
theorem MgAt.up {Ts : List Addr} {H H' : Hp} {m : Addr} {M : Mg} (g : Gr Ts H H') (h : MgAt H m M) : MgAt H' m M := by
  obtain ⟨rs, h1, h2, h3⟩ := h
  exact ⟨rs, g.get h1, h2, fun i r p a b => g.get (h3 i r p a b)⟩
theorem Voc.up {Ts : List Addr} {H H' : Hp} {a : Addr} {L : Str} {M : Mg} (g : Gr Ts H H') (h : Voc H a L M) : Voc H' a L M := by
  obtain ⟨m, h1, h2⟩ := h
  exact ⟨m, g.get h1, h2.up g⟩
def nts (t : List Nat) : List V := t.map fun n => V.int (n : Nat)
theorem nts_eq (t : List Nat) : nts t = (t.map Int.ofNat).map V.int := by
  unfold nts
  rw [List.map_map]
  rfl
/-- a good vocabulary: what the law draws -/
structure Good (L : Str) (M : Mg) : Prop where
  az : ∀ c ∈ lt L, 97 ≤ c ∧ c ≤ 122
  nd : (lt L).Nodup
  l1 : 1 ≤ (lt L).length
  l6 : (lt L).length ≤ 6
  m10 : M.length ≤ 10
  ok : okM (1 + (lt L).length) M
  pn : (pcs (lt L) M).Nodup
  sh : ∀ y ∈ pcs (lt L) M, y.length ≤ 12
theorem small_sign {c : Nat} (h : 97 ≤ c ∧ c ≤ 122) : (!decide (([c] : List Nat) < [97]) && !decide (([122] : List Nat) < [c])) = true := by
  have e1 : ¬ ([c] : List Nat) < [97] := by
    rw [List.cons_lt_cons_iff]
    intro h'
    rcases h' with h' | ⟨_, h'⟩
    · omega
    · exact absurd h' (by decide)
  have e2 : ¬ ([122] : List Nat) < [c] := by
    rw [List.cons_lt_cons_iff]
    intro h'
    rcases h' with h' | ⟨_, h'⟩
    · omega
    · exact absurd h' (by decide)
  rw [decide_eq_false e1, decide_eq_false e2]
  rfl
section
variable {P : Program} {w : World} {K : PySem.W.Frag} {mg : Str → Option Value} {base : Heap} (W : Wd K mg base)
include W
/-! is_tuple_of -/
def sp13 : Sp := fun vs H Q _ => ∃ (a : Addr) (xs : List V) (m : Int), vs = [.ref a, .int m] ∧ H a = some (.tup xs) ∧ Q (.bl (decide ((xs.length : Int) = m))) H
theorem ok13 : FnOk P w K mg base CX0 1 W.a13 W.d13 ["thing", "many"] sp13 := by
  refine W.D13.F.ok sc13 (fun vs H Q E h => ?_) fun cdv A outer s H vs Q E hr h => ?_
  · obtain ⟨a, xs, m, rfl, _⟩ := h
    rfl
  · obtain ⟨a, xs, m, rfl, ha, k⟩ := h
    refine ⟨_, pss_one (ps_ret (pe_and (pe_callB call_isi (by rfl) W.m_isinstance boot_isi (pa_cons (pv 0) (pa_cons (pe_bltn (v := .ty "tuple") (by rfl) W.m_tuple (by decide +kernel) rfl) pa_nil)))
      (pe_one (pe_cmp (pc_eqI (pe_callB call_len_seq (by rfl) W.m_len PySem.boot_len (pa_cons (pv 0) pa_nil)) (pv 1)) rfl)))), ?_⟩
    refine ⟨_, rfl, .ref a, .ty "tuple", _, _, true, rfl, .ty "tuple", .base (.tup ha), kit_ty (by decide +kernel), true, rfl, ?_⟩
    exact iteT ⟨_, rfl, a, xs, rfl, .inr (.inl (.inl ha)), _, rfl, _, _, rfl, rfl, k⟩
/-! is_integer, is_token: of nts -/
def sp7 : Sp := fun vs H Q _ => ∃ n : Int, vs = [.int n] ∧ Q (.bl true) H
theorem ok7 : FnOk P w K mg base CX0 1 W.a7 W.d7 ["thing"] sp7 := by
  refine W.D7.F.ok sc7 (fun vs H Q E h => ?_) fun cdv A outer s H vs Q E hr h => ?_
  · obtain ⟨n, rfl, _⟩ := h
    rfl
  · obtain ⟨n, rfl, k⟩ := h
    refine ⟨_, pss_one (ps_ret (pe_and (pe_callB call_isi (by rfl) W.m_isinstance boot_isi (pa_cons (pv 0) (pa_cons (pe_bltn (v := .ty "int") (by rfl) W.m_int (by decide +kernel) rfl) pa_nil)))
      (pe_one (pe_not (pe_callB call_isi (by rfl) W.m_isinstance boot_isi (pa_cons (pv 0) (pa_cons (pe_bltn (v := .ty "bool") (by rfl) W.m_bool (by decide +kernel) rfl) pa_nil))))))), ?_⟩
    refine ⟨_, rfl, .int n, .ty "int", _, _, true, rfl, .ty "int", .base (.int n), kit_ty (by decide +kernel), true, rfl, ?_⟩
    exact iteT ⟨_, rfl, .int n, .ty "bool", _, _, false, rfl, .ty "bool", .base (.int n), kit_ty (by decide +kernel), false, rfl, k⟩
def sp9 : Sp := fun vs H Q _ => ∃ n m : Int, vs = [.int n, .int m] ∧ Q (.bl (decide (0 ≤ n) && decide (n < m))) H
theorem ok9 : FnOk P w K mg base CX0 2 W.a9 W.d9 ["thing", "many"] sp9 := by
  refine W.D9.F.ok sc9 (fun vs H Q E h => ?_) fun cdv A outer s H vs Q E hr h => ?_
  · obtain ⟨n, m, rfl, _⟩ := h
    rfl
  · obtain ⟨n, m, rfl, k⟩ := h
    refine ⟨_, pss_one (ps_ret (pe_and (pe_call (ok7 W) hr (by rfl) W.D7.g W.D7.kp W.D7.b .nil pass0 (pa_cons (pv 0) pa_nil)) (pe_one (pe_chain op_le op_lt pe_int (pv 0) (pv 1) (by rfl))))), ?_⟩
    refine ⟨_, rfl, n, rfl, true, rfl, ?_⟩
    refine iteT ⟨_, rfl, _, _, rfl, rfl, _, rfl, ?_⟩
    by_cases h0 : 0 ≤ n
    · rw [decide_eq_true h0] at k ⊢
      rw [Bool.true_and] at k
      exact iteT ⟨_, rfl, _, _, rfl, rfl, k⟩
    · rw [decide_eq_false h0] at k ⊢
      exact iteF k
def sp10 : Sp := sp9
theorem ok10 : FnOk P w K mg base CX0 3 W.a10 W.d10 ["thing", "many"] sp10 := by
  refine W.D10.F.ok sc10 (fun vs H Q E h => ?_) fun cdv A outer s H vs Q E hr h => ?_
  · obtain ⟨n, m, rfl, _⟩ := h
    rfl
  · obtain ⟨n, m, rfl, k⟩ := h
    exact ⟨_, pss_one (ps_ret (pe_call (ok9 W) hr (by rfl) W.D9.g W.D9.kp W.D9.b .nil pass0 (pa_cons (pv 0) (pa_cons (pv 1) pa_nil)))), _, rfl, _, rfl, n, m, rfl, k⟩
/-! are_small_letters -/
def sp12 (Ts : List Addr) : Sp := fun vs H Q _ => ∃ z : Str, vs = [.str z] ∧ (∀ c ∈ lt z, 97 ≤ c ∧ c ≤ 122) ∧ TOk Ts H ∧ ∀ H', Gr Ts H H' → Q (.bl true) H'
theorem ok12 : FnOk P w K mg base CX0 3 W.a12 W.d12 ["thing"] (sp12 W.Ts) := by
  refine okC W.D12.F W.T12.code sc12 (fun vs H Q E h => ?_) fun A outer s H vs Q E hr h => ?_
  · obtain ⟨z, rfl, _⟩ := h
    rfl
  · obtain ⟨z, rfl, hz, ht, k⟩ := h
    refine ⟨_, pss_one (ps_ret (pe_and (pe_callB call_isi (by rfl) W.m_isinstance boot_isi (pa_cons (pv 0) (pa_cons (pe_bltn (v := .ty "str") (by rfl) W.m_str (by decide +kernel) rfl) pa_nil)))
      (pe_one (pe_allF hr (by rfl) W.m_all W.T12.tab rfl (genS_of (by decide +kernel)) (pv 0) (by intro _; rfl))))), ?_⟩
    refine ⟨_, rfl, .str z, .ty "str", _, _, true, rfl, .ty "str", .base (.str z), kit_ty (by decide +kernel), true, rfl, ?_⟩
    refine iteT ⟨_, rfl, ht _ (W11 W), z.cps.size, fun _ => true, feed_str (ht _ (W11 W)) fun pins s1 I cenv A' E' i c t s2 m2 ig hA hD hc hn hm G hk => ?_, fun H2 hT => ?_⟩
    · have hkk : cenv.scope.kind = .function := (congrArg Scope.kind ig.sc).trans rfl
      have ko : ∀ x, cenv.kindOf x = (cenv.scope).names.lookup x := fun x => rfl
      refine thn (qe_lele (X := (cxOf CX0 P w K mg base ["thing"] "are_small_letters" (defScope (top 12)) W.a12 (.ref W.c12) A outer s H E).nox) (A := A') (h0 := s2.heap) (i := "a") (j := ⟨#[c]⟩) (l := "z") qe_str ((qe_loc hkk (by rw [ko, ig.sc]; first | done | rfl) hn hm).mono fun z e => ⟨t, e⟩) qe_str (by rfl) s2 E' fun _ _ z => z) fun v s3 hv => ⟨?_, hv.2⟩
      have hcm : c ∈ lt z := by
        have h1 : z.cps.toList[i]? = some c := by rw [Array.getElem?_toList]; exact hc
        exact List.mem_of_getElem? h1
      rw [hv.1]
      exact congrArg Value.bool (small_sign (hz c hcm))
    · rw [show (List.range z.cps.size).all (fun _ => true) = true by simp]
      exact k H2 (Gr.tab ht (W11 W) hT)
/-! _is_merge -/
def sp32 (Ts : List Addr) : Sp := fun vs H Q _ => ∃ (a : Addr) (p : Nat × Nat) (m : Int), vs = [.ref a, .int m] ∧ H a = some (.tup [.int (p.1 : Nat), .int (p.2 : Nat)]) ∧ 1 ≤ p.1 ∧ 1 ≤ p.2 ∧ (p.1 : Int) < m ∧ (p.2 : Int) < m ∧ TOk Ts H ∧ ∀ H', Gr Ts H H' → Q (.bl true) H'
theorem ok32 : FnOk P w K mg base CX0 3 W.a32 W.d32 ["thing", "made"] (sp32 W.Ts) := by
  refine okC W.D32.F W.T32.code sc32 (fun vs H Q E h => ?_) fun A outer s H vs Q E hr h => ?_
  · obtain ⟨a, p, m, rfl, _⟩ := h
    rfl
  · obtain ⟨a, p, m, rfl, ha, l1, l2, g1, g2, ht, k⟩ := h
    refine ⟨_, pss_one (ps_ret (pe_and (pe_call (ok13 W) (hr.mono (by decide)) (by rfl) W.D13.g W.D13.kp W.D13.b .nil pass0 (pa_cons (pv 0) (pa_cons pe_int pa_nil)))
      (pe_one (pe_allF hr (by rfl) W.m_all W.T32.tab rfl (genS_of (by decide +kernel)) (pv 0) (by intro _; rfl))))), ?_⟩
    refine ⟨_, rfl, a, _, 2, rfl, ha, true, by rfl, ?_⟩
    refine iteT ⟨_, rfl, ht _ (W31 W), 2, fun _ => true, feed_tup (xs := [.int (p.1 : Nat), .int (p.2 : Nat)]) ha (ht _ (W31 W)) fun pins s1 I cenv A' E' i v y s2 m2 ig hA hD hv ry hn hm G hk => ?_, fun H2 hT => ?_⟩
    · obtain ⟨cc, uu, e1, e2, e3, e4⟩ := cap I (i := 1) (x := "made") (v := .int m) rfl rfl rfl
      obtain ⟨tm, rfl⟩ := e3
      obtain ⟨n, hn1, hn2, rfl⟩ : ∃ n : Int, 1 ≤ n ∧ n < m ∧ v = .int n := by
        match i, hv with
        | 0, hv =>
          simp only [List.getElem?_cons_zero, Option.some.injEq] at hv
          exact ⟨_, by omega, g1, hv.symm⟩
        | 1, hv =>
          simp only [List.getElem?_cons_succ, List.getElem?_cons_zero, Option.some.injEq] at hv
          exact ⟨_, by omega, g2, hv.symm⟩
        | _ + 2, hv =>
          simp at hv
      obtain ⟨t, rfl⟩ := ry
      obtain ⟨ps, hps, _⟩ := ht _ (W31 W)
      have hcell : s2.heap.IsCell cc (some (.int m tm)) := isCell_up e2 fun o q => hk cc o (fun z => by rw [z, hps] at e4; cases e4) q
      have hcl : cenv.cells.lookup ("made" : Str) = some cc := by
        rw [ig.cl]
        show some ((List.lookup ("made" : Str) _).getD 0) = some cc
        rw [e1]
        rfl
      have hkk : cenv.scope.kind = .function := (congrArg Scope.kind ig.sc).trans rfl
      have ko : ∀ x, cenv.kindOf x = (cenv.scope).names.lookup x := fun x => rfl
      have dep : A'.depth + 4 < recursionLimit := Nat.lt_of_le_of_lt (Nat.add_le_add_right hD 4) (by have := hr.dp; show (A.deeper _).depth + 1 + 4 < recursionLimit; omega)
      have qi : ∀ {pp}, QE (cxOf CX0 P w K mg base ["thing", "made"] "_is_merge" (defScope (top 32)) W.a32 (.ref W.c32) A outer s H E).nox A' cenv s2.heap (.Name "item" pp) (fun z => z = .int n t) := fun {pp} => qe_loc hkk (by rw [ko, ig.sc]; first | done | rfl) hn hm
      refine (qe_and (u := true) (v := true) (QE.mono (qe_callF (f := W.a8) hkk (by rw [ko, ig.sc]; first | done | rfl) ig.gl G W.D8.g W.D8.kp (qa_cons qi (qa_cons qe_int qa_nil)) fun us s E hus G' => ?_) fun z hz => (hz : z = .bool true)) fun _ => QE.mono (qe_lt (qi.mono fun z e => ⟨t, e⟩) ((qe_free hkk (by rw [ko, ig.sc]; first | done | rfl) hcl hcell).mono fun z e => ⟨tm, e⟩)) fun z hz => by rw [hz, decide_eq_true hn2]) s2 E' fun _ _ z => z
      obtain ⟨u1, r1, rfl, rfl, u2, r2, rfl, ⟨t2, rfl⟩, rfl⟩ := hus
      exact thn (q_isfrom W hA dep G' n 1 t t2) fun r s3 q => ⟨by rw [q.1, decide_eq_true (show n ≥ 1 by omega)], q.2⟩
    · exact k H2 (Gr.tab ht (W31 W) hT)
/-! _need_text: of a text of the vocabulary -/
def sp29 (Ts : List Addr) : Sp := fun vs H Q _ => ∃ (a : Addr) (L z : Str) (M : Mg), vs = [.ref a, .str z] ∧ Voc H a L M ∧ (∀ c ∈ lt z, c ∈ lt L) ∧ TOk Ts H ∧ ∀ H', Gr Ts H H' → Q .non H'
theorem ok29 : FnOk P w K mg base CX0 3 W.a29 W.d29 ["vocabulary", "text"] (sp29 W.Ts) := by
  refine okC W.D29.F W.T29.code sc29 (fun vs H Q E h => ?_) fun A outer s H vs Q E hr h => ?_
  · obtain ⟨a, L, z, M, rfl, _⟩ := h
    rfl
  · obtain ⟨a, L, z, M, rfl, hv, hz, ht, k⟩ := h
    obtain ⟨m, hv1, hv2⟩ := hv
    refine ⟨_, pss_one (ps_if (PW.pt (pw_or (pt_not (pt_val (pe_callB call_isi (by rfl) W.m_isinstance boot_isi (pa_cons (pv 1) (pa_cons (pe_bltn (v := .ty "str") (by rfl) W.m_str (by decide +kernel) rfl) pa_nil)))))
      (pw_or1 (pt_not (pt_val (pe_allF hr (by rfl) W.m_all W.T29.tab rfl (genS_of (by decide +kernel)) (pv 1) (by intro _; rfl))))))) (pss_one ps_never) pss_nil), ?_⟩
    refine ⟨_, rfl, .str z, .ty "str", _, _, true, rfl, .ty "str", .base (.str z), kit_ty (by decide +kernel), true, rfl, ?_⟩
    refine iteF ⟨_, rfl, ht _ (W28 W), z.cps.size, fun _ => true, feed_str (ht _ (W28 W)) fun pins s1 I cenv A' E' i c t s2 m2 ig hA hD hc hn hm G hk => ?_, fun H2 hT => ?_⟩
    · obtain ⟨cc, uu, e1, e2, e3, e4⟩ := cap I (i := 0) (x := "vocabulary") (v := .ref a) rfl rfl rfl
      cases e3
      obtain ⟨ps, hps, _⟩ := ht _ (W28 W)
      have hcell : s2.heap.IsCell cc (some (.ref a)) := isCell_up e2 fun o q => hk cc o (fun z => by rw [z, hps] at e4; cases e4) q
      have hcl : cenv.cells.lookup ("vocabulary" : Str) = some cc := by
        rw [ig.cl]
        show some ((List.lookup ("vocabulary" : Str) _).getD 0) = some cc
        rw [e1]
        rfl
      have hkk : cenv.scope.kind = .function := (congrArg Scope.kind ig.sc).trans rfl
      have ko : ∀ x, cenv.kindOf x = (cenv.scope).names.lookup x := fun x => rfl
      obtain ⟨its, rv, ⟨o, o1, o2, n, o3⟩, _⟩ := I.tuple (.inl (.inl hv1))
      have haP : a ≠ W.P29 := fun z => by rw [z, hps] at hv1; cases hv1
      have hit : IsTup s2.heap a its.toArray := ⟨o, hk a o haP o1, o2, n, o3⟩
      obtain ⟨uL, hL1, ⟨tL, rfl⟩⟩ := rv.get (i := 1) (x := .str L) rfl
      refine thn (qe_inSign (X := (cxOf CX0 P w K mg base ["vocabulary", "text"] "_need_text" (defScope (top 29)) W.a29 (.ref W.c29) A outer s H E).nox) (A := A') (h0 := s2.heap) (c := c) (z := L) ((qe_loc hkk (by rw [ko, ig.sc]; first | done | rfl) hn hm).mono fun z e => ⟨t, e⟩)
        (QE.mono (qe_item (k := 1) (v := .str L tL) (qe_free hkk (by rw [ko, ig.sc]; first | done | rfl) hcl hcell) qe_int hit (by simpa using hL1) (by omega)) fun z e => ⟨tL, e⟩) (by rfl) s2 E' fun _ _ z => z) fun v s3 hv => ⟨?_, hv.2⟩
      have hcm : c ∈ lt z := by
        have h1 : z.cps.toList[i]? = some c := by rw [Array.getElem?_toList]; exact hc
        exact List.mem_of_getElem? h1
      rw [hv.1, decide_eq_true (hz c hcm)]
    · rw [show (List.range z.cps.size).all (fun _ => true) = true by simp]
      exact ⟨_, rfl, iteF (k H2 (Gr.tab ht (W28 W) hT))⟩
end
end Zk
set_option Elab.async false
set_option linter.all false
set_option maxRecDepth 100000
set_option maxHeartbeats 4000000
namespace Zk
open PySem PySem.Spec PyProof.Rows L2 GxR Zn Zm
/-- texts by their letters -/
def sv (l : List Nat) : Str := ⟨l.toArray⟩
theorem lt_sv (l : List Nat) : lt (sv l) = l := by simp [lt, sv]
theorem sv_lt (z : Str) : sv (lt z) = z := str_ext (lt_sv _)
theorem sv_app (a b : List Nat) : sv a ++ sv b = sv (a ++ b) := str_ext (by rw [lt_app, lt_sv, lt_sv, lt_sv])
theorem sv_len (l : List Nat) : (sv l).length = l.length := by rw [len_lt, lt_sv]
def svs (ps : List (List Nat)) : List V := ps.map fun l => V.str (sv l)
theorem svs_length (ps : List (List Nat)) : (svs ps).length = ps.length := List.length_map _
theorem signs_svs (z : Str) : Zn.signs z = svs ((lt z).map fun c => [c]) := by
  unfold Zn.signs svs
  rw [List.map_map]
  rfl
theorem svs_get {ps : List (List Nat)} {i : Nat} (h : i < ps.length) : (svs ps)[i]? = some (V.str (sv (ps.getD i []))) := by
  unfold svs
  rw [List.getElem?_map, List.getElem?_eq_getElem h, List.getD_eq_getElem?_getD, List.getElem?_eq_getElem h]
  rfl
theorem small_le {n : Nat} (h : n ≤ 100000) : n ≤ sizeLine := Nat.le_trans h (by decide)
theorem small_lt {n : Nat} (h : n < 100000) : n < sizeLine := Nat.lt_of_lt_of_le h (by decide)
theorem dT {p : Prop} [Decidable p] (h : p) : V.bl (decide p) = V.bl true := by rw [decide_eq_true h]
theorem dF {p : Prop} [Decidable p] (h : ¬ p) : V.bl (decide p) = V.bl false := by rw [decide_eq_false h]
theorem okM_take {n : Nat} {M : Mg} (ok : okM n M) {k : Nat} (hk : k < M.length) : (M[k].1 < n + k ∧ M[k].2 < n + k) := by
  obtain ⟨⟨_, a⟩, _, b⟩ := ok k M[k] (List.getElem?_eq_getElem hk)
  exact ⟨a, b⟩
section
variable {P : Program} {w : World} {K : PySem.W.Frag} {mg : Str → Option Value} {base : Heap} (W : Wd K mg base)
include W
/-! _pieces -/
def sp34 (Ts : List Addr) : Sp := fun vs H Q _ => ∃ (L : Str) (m : Addr) (M : Mg), vs = [.str L, .ref m] ∧ MgAt H m M ∧ (lt L).length ≤ 6 ∧ M.length ≤ 10 ∧ okM (1 + (lt L).length) M ∧ (∀ y ∈ pcs (lt L) M, y.length ≤ 12) ∧ TOk Ts H ∧
  ∀ p H', Gr Ts H H' → H p = none → H' p = some (.lst (svs (pcs (lt L) M))) → Q (.ref p) H'
theorem piece_le {L : List Nat} {M : Mg} (sh : ∀ y ∈ pcs L M, y.length ≤ 12) (i : Nat) : ((pcs L M).getD i []).length ≤ 12 := by
  rw [List.getD_eq_getElem?_getD]
  cases h : (pcs L M)[i]? with
  | none => simp
  | some y => exact sh y (List.mem_of_getElem? h)
theorem ok34 : FnOk P w K mg base CX0 1 W.a34 W.d34 ["letters", "merges"] (sp34 W.Ts) := by
  refine W.D34.F.ok sc34 (fun vs H Q E h => ?_) fun cdv A outer s H vs Q E hr h => ?_
  · obtain ⟨L, m, M, rfl, _⟩ := h
    rfl
  · obtain ⟨L, m, M, rfl, hm, l6, m10, ok, sh, ht, k⟩ := h
    obtain ⟨rs, hm1, hm2, hm3⟩ := id hm
    refine ⟨_, pss_cons (ps_set (i := 2) sc34.nd rfl (.inl rfl) (pe_lst (pa_cons pe_str (pa_starS hr.hd (pv 0) pa_nil))))
      (pss_cons (ps_for PassesOwn.never rfl (pi_tup (pv 1)) (pg_tup rfl (pgs_cons (pg_name (i := 3) sc34.nd rfl (.inl rfl)) (pgs_cons (pg_name (i := 4) sc34.nd rfl (.inl rfl)) pgs_nil)))
        (pss_one (ps_expr (pe_bm PySem.F.plainAttrs_list PySem.F.slot_list_append PySem.F.type_list_append mt_append (pv 2) (pa_cons (pe_op op_add_str (pe_ix ix_list (pv 2) (pv 3) (fun _ _ => rfl)) (pe_ix ix_list (pv 2) (pv 4) (fun _ _ => rfl))) pa_nil)))))
      (pss_one (ps_ret (pv 2)))), ?_⟩
    have hL : L.cps.size = (lt L).length := by simp
    refine ⟨_, rfl, L, rfl, by rw [hL]; exact Nat.le_trans l6 (by decide), by rw [List.append_nil, List.length_cons, Zn.signs_length, hL]; exact Nat.le_trans (Nat.succ_le_succ l6) (by decide), fun p hp => ?_⟩
    have e0 : (V.str "" :: (Zn.signs L ++ [])) = svs (pcs (lt L) []) := by
      rw [List.append_nil, signs_svs, pcs_nil]
      rfl
    have g0 : Gr W.Ts H (upd H p (.lst (svs (pcs (lt L) [])))) := (Gr.refl ht).new hp
    have npT := notTab ht hp
    rw [e0]
    refine ⟨_, rfl, m, rfl, ⟨_, .inl (.inl (g0.get hm1))⟩, for_it (walk_tup (xs := rs.map V.ref)) (fun i σ H1 => ∃ v3 v4, σ = [some (.str L), some (.ref m), some (.ref p), v3, v4] ∧ Gr W.Ts H H1 ∧ H1 p = some (.lst (svs (pcs (lt L) (M.take i))))) ⟨none, none, rfl, g0, upd_same⟩ (fun i σ H1 _ h1 => ?_) (fun i x σ H1 H2 hi h1 y => ?_) fun σ H1 h1 => ?_⟩
    · obtain ⟨_, _, _, g, _⟩ := h1
      exact .inl (.inl (g.get hm1))
    · obtain ⟨v3, v4, rfl, g, hpl⟩ := h1
      obtain ⟨rfl, hx⟩ := y
      rw [List.length_map] at hi
      have hiM : i < M.length := by omega
      rw [List.getElem?_map, List.getElem?_eq_getElem hi] at hx
      cases hx
      have hr1 := g.get (hm3 i rs[i] M[i] (List.getElem?_eq_getElem hi) (List.getElem?_eq_getElem hiM))
      obtain ⟨b1, b2⟩ := okM_take ok hiM
      have hpl' : (pcs (lt L) (M.take i)).length = 1 + (lt L).length + i := by rw [pcs_length, List.length_take]; omega
      have s1 := piece_le W sh M[i].1
      have s2 := piece_le W sh M[i].2
      rw [pcs_get (k := i) (by omega) b1] at s1
      rw [pcs_get (k := i) (by omega) b2] at s2
      refine ⟨rs[i], _, rfl, .inl (.inl hr1), rfl, _, _, rfl, _, _, rfl, rfl, ?_⟩
      have i1 := svs_get (ps := pcs (lt L) (M.take i)) (i := M[i].1) (by rw [hpl']; exact b1)
      have i2 := svs_get (ps := pcs (lt L) (M.take i)) (i := M[i].2) (by rw [hpl']; exact b2)
      have e9 : svs (pcs (lt L) (M.take i)) ++ [V.str (sv ((pcs (lt L) (M.take i)).getD M[i].1 []) ++ sv ((pcs (lt L) (M.take i)).getD M[i].2 []))] = svs (pcs (lt L) (M.take (i + 1))) := by
        rw [pcs_take (lt L) M i hiM, sv_app]
        unfold svs stepP
        rw [List.map_append]
        rfl
      refine ⟨_, rfl, .inl ⟨rfl, _, .inl (.inl hpl)⟩, _, rfl, _, rfl, p, _, _, _, rfl, rfl, .inl (.inl hpl), atI_nat i1, _, rfl, _, rfl, p, _, _, _, rfl, rfl, .inl (.inl hpl), atI_nat i2, _, _, rfl, rfl, small_le (by rw [sv_len, sv_len]; omega),
        p, _, _, rfl, rfl, hpl, small_lt (by rw [svs_length, hpl']; omega), _, _, rfl, g.mut hp npT, ?_⟩
      rw [e9]
      exact upd_same
    · obtain ⟨v3, v4, rfl, g, hpl⟩ := h1
      rw [List.length_map, hm2, List.take_length] at hpl
      exact ⟨_, rfl, k p H1 g hp hpl⟩
/-! _size_of -/
def sp33 : Sp := fun vs H Q _ => ∃ (a : Addr) (L : Str) (M : Mg), vs = [.ref a] ∧ Voc H a L M ∧ (lt L).length ≤ 6 ∧ Q (.int ((1 + (lt L).length + M.length : Nat) : Int)) H
theorem ok33 : FnOk P w K mg base CX0 1 W.a33 W.d33 ["vocabulary"] sp33 := by
  refine W.D33.F.ok sc33 (fun vs H Q E h => ?_) fun cdv A outer s H vs Q E hr h => ?_
  · obtain ⟨a, L, M, rfl, _⟩ := h
    rfl
  · obtain ⟨a, L, M, rfl, ⟨m, hv, rs, hm1, hm2, hm3⟩, l6, k⟩ := h
    refine ⟨_, pss_one (ps_ret (pe_op op_add (pe_op op_add pe_int (pe_callB call_len_str (by rfl) W.m_len PySem.boot_len (pa_cons (pe_ix ix_tup (pv 0) pe_int (fun _ _ => rfl)) pa_nil)))
      (pe_callB call_len_seq (by rfl) W.m_len PySem.boot_len (pa_cons (pe_ix ix_tup (pv 0) pe_int (fun _ _ => rfl)) pa_nil)))), ?_⟩
    refine ⟨_, rfl, a, _, 1, _, rfl, rfl, .inl (.inl hv), rfl, L, rfl, small_le (by rw [len_lt]; omega), _, _, rfl, rfl, _, rfl, a, _, 2, _, rfl, rfl, .inl (.inl hv), rfl, m, _, rfl, .inr (.inl (.inl hm1)), _, _, rfl, rfl, ?_⟩
    have e : (1 + (L.length : Int) + ((rs.map V.ref).length : Int)) = ((1 + (lt L).length + M.length : Nat) : Int) := by
      rw [List.length_map, hm2, len_lt]
      omega
    show Q (.int (1 + (L.length : Int) + ((rs.map V.ref).length : Int))) H
    rw [e]
    exact k
/-! _are_letters -/
def sp30 (Ts : List Addr) : Sp := fun vs H Q _ => ∃ L : Str, vs = [.str L] ∧ (∀ c ∈ lt L, 97 ≤ c ∧ c ≤ 122) ∧ (lt L).Nodup ∧ 1 ≤ (lt L).length ∧ (lt L).length ≤ 6 ∧ TOk Ts H ∧ ∀ H', Gr Ts H H' → Q (.bl true) H'
theorem sgn_nodup {z : Str} (h : (lt z).Nodup) : (sgn z).Nodup := by
  unfold sgn
  refine List.Pairwise.map _ (fun a b hab e => hab ?_) h
  have := congrArg (fun z : Str => lt z) e
  simpa [lt] using this
theorem ok30 : FnOk P w K mg base CX0 4 W.a30 W.d30 ["thing"] (sp30 W.Ts) := by
  refine W.D30.F.ok sc30 (fun vs H Q E h => ?_) fun cdv A outer s H vs Q E hr h => ?_
  · obtain ⟨L, rfl, _⟩ := h
    rfl
  · obtain ⟨L, rfl, az, nd, l1, l6, ht, k⟩ := h
    obtain ⟨tML, hML⟩ := W.g_ML
    refine ⟨_, pss_cons (ps_if (PW.pt (pw_or (pt_not (pt_val (pe_call (ok12 W) hr (by rfl) W.D12.g W.D12.kp W.D12.b .nil pass0 (pa_cons (pv 0) pa_nil))))
      (pw_or1 (pt_not (pt_chain op_le op_le pe_int (pe_callB call_len_str (by rfl) W.m_len PySem.boot_len (pa_cons (pv 0) pa_nil)) (pe_glob (v := .int 6) (by rfl) hML ⟨_, rfl⟩) (by rfl)))))) (pss_one (ps_ret pe_bl)) pss_nil)
      (pss_one (ps_ret (pe_cmp (pc_eqI (pe_lenSetT rfl (by rfl) W.m_len (by rfl) W.m_set (pv 0)) (pe_callB call_len_str (by rfl) W.m_len PySem.boot_len (pa_cons (pv 0) pa_nil))) rfl))), ?_⟩
    have hl : L.length = (lt L).length := len_lt L
    refine ⟨_, rfl, L, rfl, az, ht, fun H1 g1 => ⟨true, rfl, iteF ⟨_, rfl, L, rfl, small_le (by omega), _, _, rfl, rfl, true, dT (show (1 : Int) ≤ (L.length : Int) by omega), iteT ⟨_, _, rfl, rfl, true, dT (show (L.length : Int) ≤ 6 by omega), ?_⟩⟩⟩⟩
    refine iteF ⟨_, rfl, sgn L, .inl ⟨L, rfl, rfl⟩, by rw [sgn_length]; show L.length ≤ 4000; omega, _, rfl, L, rfl, small_le (by omega), _, _, rfl, rfl, ?_⟩
    have e : dcnt (sgn L) (sgn L).length = L.length := by
      rw [dcnt_nodup (sgn_nodup W nd) _ (Nat.le_refl _), sgn_length]
      rfl
    show Q (.bl (decide (((dcnt (sgn L) (sgn L).length : Nat) : Int) = (L.length : Int)))) H1
    rw [e, decide_eq_true rfl]
    exact k H1 g1
/-! _are_merges -/
def sp31 (Ts : List Addr) : Sp := fun vs H Q _ => ∃ (L : Str) (m : Addr) (M : Mg), vs = [.str L, .ref m] ∧ MgAt H m M ∧ Good L M ∧ TOk Ts H ∧ ∀ H', Gr Ts H H' → Q (.bl true) H'
theorem svs_nodup {ps : List (List Nat)} (h : ps.Nodup) : (ps.map sv).Nodup := by
  refine List.Pairwise.map _ (fun a b hab e => hab ?_) h
  have := congrArg (fun z : Str => lt z) e
  simpa [lt_sv] using this
theorem ok31 : FnOk P w K mg base CX0 4 W.a31 W.d31 ["letters", "thing"] (sp31 W.Ts) := by
  refine W.D31.F.ok sc31 (fun vs H Q E h => ?_) fun cdv A outer s H vs Q E hr h => ?_
  · obtain ⟨L, m, M, rfl, _⟩ := h
    rfl
  · obtain ⟨L, m, M, rfl, hm, G, ht, k⟩ := h
    obtain ⟨rs, hm1, hm2, hm3⟩ := id hm
    obtain ⟨tMM, hMM⟩ := W.g_MM
    refine ⟨_, pss_cons (ps_if (PW.pt (pw_or (pt_not (pt_val (pe_callB call_isi (by rfl) W.m_isinstance boot_isi (pa_cons (pv 1) (pa_cons (pe_bltn (v := .ty "tuple") (by rfl) W.m_tuple (by decide +kernel) rfl) pa_nil)))))
        (pw_or1 (pt_cmpR op_gt (pe_callB call_len_seq (by rfl) W.m_len PySem.boot_len (pa_cons (pv 1) pa_nil)) (pe_glob (v := .int 10) (by rfl) hMM ⟨_, rfl⟩) (nomark _))))) (pss_one (ps_ret pe_bl)) pss_nil)
      (pss_cons (ps_for PassesOwn.never rfl (pi_enumT (by rfl) W.m_enumerate (pa_cons (pv 1) pa_nil)) (pg_tup rfl (pgs_cons (pg_name (i := 2) sc31.nd rfl (.inl rfl)) (pgs_cons (pg_name (i := 3) sc31.nd rfl (.inl rfl)) pgs_nil)))
        (pss_one (ps_if (pt_not (pt_val (pe_call (ok32 W) hr (by rfl) W.D32.g W.D32.kp W.D32.b .nil pass0 (pa_cons (pv 3) (pa_cons (pe_op op_add (pe_op op_add pe_int (pe_callB call_len_str (by rfl) W.m_len PySem.boot_len (pa_cons (pv 0) pa_nil))) (pv 2)) pa_nil))))) (pss_one (ps_ret pe_bl)) pss_nil)))
      (pss_cons (ps_set (i := 4) sc31.nd rfl (.inl rfl) (pe_call (ok34 W) (hr.mono (by decide)) (by rfl) W.D34.g W.D34.kp W.D34.b .nil pass0 (pa_cons (pv 0) (pa_cons (pv 1) pa_nil))))
      (pss_one (ps_ret (pe_cmp (pc_eqI (pe_lenSetT rfl (by rfl) W.m_len (by rfl) W.m_set (pv 4)) (pe_callB call_len_seq (by rfl) W.m_len PySem.boot_len (pa_cons (pv 4) pa_nil))) rfl))))), ?_⟩
    have hl : L.length = (lt L).length := len_lt L
    have l6 := G.l6
    have m10 := G.m10
    have hrl : (rs.map V.ref).length = M.length := by rw [List.length_map]; exact hm2
    refine ⟨_, rfl, .ref m, .ty "tuple", _, _, true, rfl, .ty "tuple", .base (.tup hm1), kit_ty (by decide +kernel), true, rfl, ?_⟩
    refine iteF ⟨_, rfl, m, _, rfl, .inr (.inl (.inl hm1)), _, _, rfl, rfl, false, dF (show ¬ (10 : Int) < ((rs.map V.ref).length : Int) by rw [hrl]; omega), ?_⟩
    refine iteF ⟨_, rfl, m, rs.map V.ref, rfl, .inl (.inl hm1), for_it (walk_enumT (xs := rs.map V.ref)) (fun i σ H1 => ∃ v2 v3, σ = [some (.str L), some (.ref m), v2, v3, none] ∧ Gr W.Ts H H1) ⟨none, none, rfl, Gr.refl ht⟩ (fun i σ H1 _ h1 => ?_) (fun i x σ H1 H2 hi h1 y => ?_) fun σ H1 h1 => ?_⟩
    · obtain ⟨_, _, _, g⟩ := h1
      exact .inl (.inl (g.get hm1))
    · obtain ⟨v2, v3, rfl, g⟩ := h1
      obtain ⟨T, x1, y1, rfl, hT, rfl, hx1, hy1⟩ := y
      rw [hrl] at hi
      cases hx1
      have hy2 : (rs.map V.ref)[i]? = some y1 := hy1
      rw [List.getElem?_map, List.getElem?_eq_getElem (by omega)] at hy2
      cases hy2
      have g2 := g.new (o := .tup [.int (i : Nat), V.ref rs[i]]) hT
      have hr1 := hm3 i rs[i] M[i] (List.getElem?_eq_getElem (by omega)) (List.getElem?_eq_getElem hi)
      obtain ⟨⟨b1, b2⟩, b3, b4⟩ := G.ok i M[i] (List.getElem?_eq_getElem hi)
      refine ⟨T, _, rfl, .inl (.inl upd_same), rfl, _, _, rfl, _, _, rfl, rfl, ?_⟩
      refine ⟨_, rfl, _, rfl, L, rfl, small_le (by omega), _, _, rfl, rfl, _, rfl, _, _, rfl, rfl, rs[i], M[i], _, rfl, g2.get hr1, b1, b3, by omega, by omega, g2.t', fun H3 g3 => ⟨true, rfl, ?_⟩⟩
      exact iteF ⟨_, _, rfl, g2.tr g3⟩
    · obtain ⟨v2, v3, rfl, g⟩ := h1
      refine ⟨_, rfl, _, rfl, L, m, M, rfl, hm.up g, l6, m10, G.ok, G.sh, g.t', fun p H2 g2 hp1 hp2 => ?_⟩
      have hsv : svs (pcs (lt L) M) = ((pcs (lt L) M).map sv).map V.str := by
        unfold svs
        rw [List.map_map]
        rfl
      have hlen : ((pcs (lt L) M).map sv).length = 1 + (lt L).length + M.length := by rw [List.length_map, pcs_length]
      refine ⟨_, rfl, (pcs (lt L) M).map sv, .inr ⟨p, rfl, .inl (.inl (by rw [← hsv]; exact hp2))⟩, by omega, _, rfl, p, _, rfl, .inl (.inl (.inl hp2)), _, _, rfl, rfl, ?_⟩
      have e : dcnt ((pcs (lt L) M).map sv) ((pcs (lt L) M).map sv).length = (svs (pcs (lt L) M)).length := by
        rw [dcnt_nodup (svs_nodup W G.pn) _ (Nat.le_refl _), List.length_map, svs_length]
      show Q (.bl (decide (((dcnt ((pcs (lt L) M).map sv) ((pcs (lt L) M).map sv).length : Nat) : Int) = ((svs (pcs (lt L) M)).length : Int)))) H2
      rw [e, decide_eq_true rfl]
      exact k H2 (g.tr g2)
/-! is_vocabulary -/
def sp20 (Ts : List Addr) : Sp := fun vs H Q _ => ∃ (a : Addr) (L : Str) (M : Mg), vs = [.ref a] ∧ Voc H a L M ∧ Good L M ∧ TOk Ts H ∧ ∀ H', Gr Ts H H' → Q (.bl true) H'
theorem ok20 : FnOk P w K mg base CX0 5 W.a20 W.d20 ["thing"] (sp20 W.Ts) := by
  refine W.D20.F.ok sc20 (fun vs H Q E h => ?_) fun cdv A outer s H vs Q E hr h => ?_
  · obtain ⟨a, L, M, rfl, _⟩ := h
    rfl
  · obtain ⟨a, L, M, rfl, ⟨m, hv, hm⟩, G, ht, k⟩ := h
    refine ⟨_, pss_cons (ps_if (PW.pt (pw_or (pt_not (pt_val (pe_call (ok13 W) (hr.mono (by decide)) (by rfl) W.D13.g W.D13.kp W.D13.b .nil pass0 (pa_cons (pv 0) (pa_cons pe_int pa_nil)))))
        (pw_or1 (pt_cmpR op_ne (pe_ix ix_tup (pv 0) pe_int (fun _ _ => rfl)) pe_str (nomark _))))) (pss_one (ps_ret pe_bl)) pss_nil)
      (pss_cons (ps_asg (pv 0) (pg_tup rfl (pgs_cons (pg_name (i := 1) sc20.nd rfl (.inl rfl)) (pgs_cons (pg_name (i := 2) sc20.nd rfl (.inl rfl)) (pgs_cons (pg_name (i := 3) sc20.nd rfl (.inl rfl)) pgs_nil)))))
      (pss_one (ps_ret (pe_and (pe_call (ok30 W) hr (by rfl) W.D30.g W.D30.kp W.D30.b .nil pass0 (pa_cons (pv 2) pa_nil)) (pe_one (pe_call (ok31 W) hr (by rfl) W.D31.g W.D31.kp W.D31.b .nil pass0 (pa_cons (pv 2) (pa_cons (pv 3) pa_nil)))))))), ?_⟩
    refine ⟨_, rfl, a, _, 3, rfl, hv, true, rfl, iteF ⟨_, rfl, a, _, 0, _, rfl, rfl, .inl (.inl hv), rfl, rfl, false, by rw [decide_eq_true rfl]; rfl, iteF ?_⟩⟩
    refine ⟨_, rfl, a, _, rfl, .inl (.inl hv), rfl, _, _, rfl, _, _, rfl, _, _, rfl, rfl, ?_⟩
    refine ⟨_, rfl, L, rfl, G.az, G.nd, G.l1, G.l6, ht, fun H1 g1 => ⟨true, rfl, iteT ⟨_, rfl, _, rfl, L, m, M, rfl, hm.up g1, G, g1.t', fun H2 g2 => k H2 (g1.tr g2)⟩⟩⟩
/-! _need_vocabulary -/
def sp28 (Ts : List Addr) : Sp := fun vs H Q _ => ∃ (a : Addr) (L : Str) (M : Mg), vs = [.ref a] ∧ Voc H a L M ∧ Good L M ∧ TOk Ts H ∧ ∀ H', Gr Ts H H' → Q .non H'
theorem ok28 : FnOk P w K mg base CX0 6 W.a28 W.d28 ["vocabulary"] (sp28 W.Ts) := by
  refine W.D28.F.ok sc28 (fun vs H Q E h => ?_) fun cdv A outer s H vs Q E hr h => ?_
  · obtain ⟨a, L, M, rfl, _⟩ := h
    rfl
  · obtain ⟨a, L, M, rfl, hv, G, ht, k⟩ := h
    refine ⟨_, pss_one (ps_if (pt_not (pt_val (pe_call (ok20 W) hr (by rfl) W.D20.g W.D20.kp W.D20.b .nil pass0 (pa_cons (pv 0) pa_nil)))) (pss_one ps_never) pss_nil), ?_⟩
    exact ⟨_, rfl, a, L, M, rfl, hv, G, ht, fun H1 g1 => ⟨true, rfl, iteF (k H1 g1)⟩⟩
end
end Zk
set_option Elab.async false
set_option linter.all false
set_option maxRecDepth 100000
set_option maxHeartbeats 4000000
namespace Zk
open PySem PySem.Spec PyProof.Rows L2 GxR Zn Zm
theorem occ_ix {a : Str} {c : Nat} (h : c ∈ lt a) : ∃ r, Builtin.Str.occurrences a ⟨#[c]⟩ 0 a.length 1 = ix (lt a) c :: r := by
  have hl : (lt a).idxOf c < (lt a).length := List.idxOf_lt_length_iff.mpr h
  have hg : (lt a)[(lt a).idxOf c]? = some c := by rw [List.getElem?_eq_getElem hl]; simp
  rcases StrLaws.occ_head a ⟨#[c]⟩ 1 (Nat.le_refl _) with ⟨_, hn⟩ | ⟨i, r, e, hi, hn⟩
  · exact absurd ((StrLaws.subAt_one a c _).mpr hg) (hn _)
  · have hi2 := (StrLaws.subAt_one a c i).mp hi
    refine ⟨r, ?_⟩
    rw [e]
    have h1 : ¬ (lt a).idxOf c < i := fun q => hn _ q ((StrLaws.subAt_one a c _).mpr hg)
    have h2 : ¬ i < (lt a).idxOf c := fun q => by
      have := List.not_of_lt_findIdx (p := (· == c)) (xs := lt a) (i := i) q
      have e3 : (lt a)[i]'(Nat.lt_trans q hl) = c := by
        have := hi2
        rw [List.getElem?_eq_getElem (Nat.lt_trans q hl)] at this
        exact Option.some.inj this
      rw [e3] at this
      simp at this
    have : i = ix (lt a) c := by unfold ix; omega
    rw [this]
section
variable {P : Program} {w : World} {K : PySem.W.Frag} {mg : Str → Option Value} {base : Heap} (W : Wd K mg base)
include W
/-! size -/
def sp21 (Ts : List Addr) : Sp := fun vs H Q _ => ∃ (a : Addr) (L : Str) (M : Mg), vs = [.ref a] ∧ Voc H a L M ∧ Good L M ∧ TOk Ts H ∧ ∀ H', Gr Ts H H' → Q (.int ((1 + (lt L).length + M.length : Nat) : Int)) H'
theorem ok21 : FnOk P w K mg base CX0 7 W.a21 W.d21 ["vocabulary"] (sp21 W.Ts) := by
  refine W.D21.F.ok sc21 (fun vs H Q E h => ?_) fun cdv A outer s H vs Q E hr h => ?_
  · obtain ⟨a, L, M, rfl, _⟩ := h
    rfl
  · obtain ⟨a, L, M, rfl, hv, G, ht, k⟩ := h
    refine ⟨_, pss_cons (ps_expr (pe_call (ok28 W) hr (by rfl) W.D28.g W.D28.kp W.D28.b .nil pass0 (pa_cons (pv 0) pa_nil)))
      (pss_one (ps_ret (pe_call (ok33 W) (hr.mono (by decide)) (by rfl) W.D33.g W.D33.kp W.D33.b .nil pass0 (pa_cons (pv 0) pa_nil)))), ?_⟩
    exact ⟨_, rfl, a, L, M, rfl, hv, G, ht, fun H1 g1 => ⟨_, rfl, a, L, M, rfl, hv.up g1, G.l6, k H1 g1⟩⟩
/-! pieces_of -/
def sp26 (Ts : List Addr) : Sp := fun vs H Q _ => ∃ (a : Addr) (L : Str) (M : Mg), vs = [.ref a] ∧ Voc H a L M ∧ Good L M ∧ TOk Ts H ∧ ∀ p H', Gr Ts H H' → H p = none → H' p = some (.lst (svs (pcs (lt L) M))) → Q (.ref p) H'
theorem ok26 : FnOk P w K mg base CX0 2 W.a26 W.d26 ["vocabulary"] (sp26 W.Ts) := by
  refine W.D26.F.ok sc26 (fun vs H Q E h => ?_) fun cdv A outer s H vs Q E hr h => ?_
  · obtain ⟨a, L, M, rfl, _⟩ := h
    rfl
  · obtain ⟨a, L, M, rfl, ⟨m, hv, hm⟩, G, ht, k⟩ := h
    refine ⟨_, pss_cons (ps_asg (pv 0) (pg_tup rfl (pgs_cons (pg_name (i := 1) sc26.nd rfl (.inl rfl)) (pgs_cons (pg_name (i := 2) sc26.nd rfl (.inl rfl)) (pgs_cons (pg_name (i := 3) sc26.nd rfl (.inl rfl)) pgs_nil)))))
      (pss_one (ps_ret (pe_call (ok34 W) hr (by rfl) W.D34.g W.D34.kp W.D34.b .nil pass0 (pa_cons (pv 2) (pa_cons (pv 3) pa_nil))))), ?_⟩
    refine ⟨_, rfl, a, _, rfl, .inl (.inl hv), rfl, _, _, rfl, _, _, rfl, _, _, rfl, rfl, ?_⟩
    exact ⟨_, rfl, _, rfl, L, m, M, rfl, hm, G.l6, G.m10, G.ok, G.sh, ht, k⟩
/-! piece -/
def sp22 (Ts : List Addr) : Sp := fun vs H Q _ => ∃ (a : Addr) (L : Str) (M : Mg) (t : Nat), vs = [.ref a, .int (t : Nat)] ∧ Voc H a L M ∧ Good L M ∧ TOk Ts H ∧ t < 1 + (lt L).length + M.length ∧ ∀ H', Gr Ts H H' → Q (.str (sv ((pcs (lt L) M).getD t []))) H'
theorem ok22 : FnOk P w K mg base CX0 7 W.a22 W.d22 ["vocabulary", "token"] (sp22 W.Ts) := by
  refine W.D22.F.ok sc22 (fun vs H Q E h => ?_) fun cdv A outer s H vs Q E hr h => ?_
  · obtain ⟨a, L, M, t, rfl, _⟩ := h
    rfl
  · obtain ⟨a, L, M, t, rfl, hv, G, ht, tl, k⟩ := h
    refine ⟨_, pss_cons (ps_expr (pe_call (ok28 W) hr (by rfl) W.D28.g W.D28.kp W.D28.b .nil pass0 (pa_cons (pv 0) pa_nil)))
      (pss_cons (ps_if (pt_not (pt_val (pe_call (ok10 W) (hr.mono (by decide)) (by rfl) W.D10.g W.D10.kp W.D10.b .nil pass0 (pa_cons (pv 1) (pa_cons (pe_call (ok33 W) (hr.mono (by decide)) (by rfl) W.D33.g W.D33.kp W.D33.b .nil pass0 (pa_cons (pv 0) pa_nil)) pa_nil))))) (pss_one ps_never) pss_nil)
      (pss_one (ps_ret (pe_ix ix_list (pe_call (ok26 W) (hr.mono (by decide)) (by rfl) W.D26.g W.D26.kp W.D26.b .nil pass0 (pa_cons (pv 0) pa_nil)) (pv 1) (fun _ _ => rfl))))), ?_⟩
    refine ⟨_, rfl, a, L, M, rfl, hv, G, ht, fun H1 g1 => ?_⟩
    refine ⟨_, rfl, _, rfl, a, L, M, rfl, hv.up g1, G.l6, _, _, rfl, true, ?_, iteF ?_⟩
    · rw [decide_eq_true (show (0 : Int) ≤ (t : Nat) by omega), decide_eq_true (show ((t : Nat) : Int) < ((1 + (lt L).length + M.length : Nat) : Int) by omega)]
      rfl
    · refine ⟨_, rfl, a, L, M, rfl, hv.up g1, G, g1.t', fun p H2 g2 hp1 hp2 => ?_⟩
      exact ⟨_, rfl, p, _, _, _, rfl, rfl, .inl (.inl hp2), atI_nat (svs_get (by rw [pcs_length]; exact tl)), k H2 (g1.tr g2)⟩
/-! _letter_tokens -/
def lts (L z : List Nat) : List Nat := z.map fun c => 1 + ix L c
def sp35 (Ts : List Addr) : Sp := fun vs H Q _ => ∃ (L z : Str), vs = [.str L, .str z] ∧ (∀ c ∈ lt z, c ∈ lt L) ∧ (lt z).length ≤ 1000 ∧ TOk Ts H ∧ ∀ p H', Gr Ts H H' → H p = none → H' p = some (.tup (nts (lts (lt L) (lt z)))) → Q (.ref p) H'
theorem ok35 : FnOk P w K mg base CX0 1 W.a35 W.d35 ["letters", "text"] (sp35 W.Ts) := by
  refine W.D35.F.ok sc35 (fun vs H Q E h => ?_) fun cdv A outer s H vs Q E hr h => ?_
  · obtain ⟨L, z, rfl, _⟩ := h
    rfl
  · obtain ⟨L, z, rfl, hz, zl, ht, k⟩ := h
    refine ⟨_, pss_one (ps_ret (pe_callTy call_tuple_of (by rfl) W.m_tuple (by decide +kernel) (pa_cons (pe_lc (own := [("letter", 2)]) (g := gName 2) (tt := tYes) (te := tOp _ _ (tBM K "str" _ (tVar 0) (tCons (tVar 2) tNil))) rfl sc35.nd (pi_str (pv 1)) (blkOk_by (N := ["letters", "text", "letter"]) (sc := defScope (top 35)) (by decide +kernel)) (fun _ _ _ _ _ => pg_name (i := 2) sc35.nd rfl (.inl rfl)) (fun _ _ _ _ _ => pts_nil)
      (fun _ _ _ _ _ => pe_op op_add pe_int (pe_bm PySem.F.plainAttrs_str PySem.F.slot_str_index PySem.F.type_str_index mt_sindex (pv 0) (pa_cons (pv 2) pa_nil)))) pa_nil))), ?_⟩
    refine ⟨_, rfl, z, rfl, fun D hD => lc_it walk_str (fun i H1 => Gr W.Ts H H1 ∧ H1 D = some (.lst (nts (lts (lt L) ((lt z).take i))))) ⟨(Gr.refl ht).new hD, upd_same⟩ (fun _ _ _ _ => trivial) (fun i x H1 H2 hi h1 y => ?_) fun H1 h1 => ?_⟩
    · obtain ⟨g, hd⟩ := h1
      obtain ⟨rfl, c, hc, rfl⟩ := y
      have hc' : (lt z)[i]? = some c := by rw [Array.getElem?_toList]; exact hc
      obtain ⟨r, hr⟩ := occ_ix (hz c (List.mem_of_getElem? hc'))
      have hil : i < (lt z).length := (List.getElem?_eq_some_iff.mp hc').1
      refine ⟨rfl, ?_⟩
      unfold tYes
      refine iteT ?_
      refine ⟨_, rfl, rfl, _, rfl, L, _, _, r, rfl, rfl, hr, _, _, rfl, rfl, _, hd, ?_, g.mut hD (notTab ht hD), ?_⟩
      · unfold nts lts
        rw [List.length_map, List.length_map, List.length_take]
        exact small_lt (by omega)
      · have e : nts (lts (lt L) ((lt z).take i)) ++ [V.int (1 + ((ix (lt L) c : Nat) : Int))] = nts (lts (lt L) ((lt z).take (i + 1))) := by
          unfold nts lts
          rw [List.take_add_one, hc', List.map_append, List.map_append]
          show _ = _ ++ [V.int ((1 + ix (lt L) c : Nat) : Int)]
          rw [Int.natCast_add]
          rfl
        rw [e]
        exact upd_same
    · obtain ⟨g, hd⟩ := h1
      have hl : (lt z).take z.cps.size = lt z := by
        rw [List.take_of_length_le]
        simp
      rw [hl] at hd
      refine ⟨D, _, rfl, .inl ⟨.inl (.inl hd), fun l hl => ?_⟩⟩
      exact k l _ (g.new hl) (g.free hl) upd_same
end
end Zk
set_option Elab.async false
set_option linter.all false
set_option maxRecDepth 100000
set_option maxHeartbeats 4000000
namespace Zk
open PySem PySem.Spec PyProof.Rows L2 GxR Zn Zm
def dI (l : List Nat) : PyData := .tuple (l.map fun n => PyData.int (n : Nat))
theorem dpAll_nts {K : PySem.W.Frag} {H : Hp} : ∀ l : List Nat, DpAll K H (nts l) (l.map fun n => PyData.int (n : Nat))
  | [] => .nil
  | n :: r => .cons (.int _) (dpAll_nts r)
theorem dp_nts {K : PySem.W.Frag} {H : Hp} {a : Addr} {l : List Nat} (h : H a = some (.tup (nts l))) : Dp K H (.ref a) (dI l) := .tup (.inl (.inl h)) (dpAll_nts l)
theorem eqv_dI (l m : List Nat) : PyData.eqv (dI l) (dI m) = decide (l = m) := by
  unfold dI
  rw [PyData.eqv]
  induction l generalizing m with
  | nil => cases m <;> simp [PyData.eqvAll]
  | cons x r ih =>
    cases m with
    | nil => simp [PyData.eqvAll]
    | cons y q =>
      rw [List.map_cons, List.map_cons, PyData.eqvAll, ih q, PyData.eqv, Bool.eq_iff_iff]
      simp
      omega
theorem shaped_all : ∀ l : List Nat, PyData.canLayAll0 (l.map fun n => PyData.int (n : Nat)) = true ∧ PyData.depthAll (l.map fun n => PyData.int (n : Nat)) = 0
  | [] => ⟨by simp [PyData.canLayAll0], by simp [PyData.depthAll]⟩
  | x :: r => by
    obtain ⟨a, b⟩ := shaped_all r
    rw [List.map_cons, PyData.canLayAll0, PyData.depthAll, a, b]
    simp [PyData.canLay0, PyData.depth]
theorem shaped_dI (l : List Nat) : SeqAt.shaped (dI l) = true := by
  obtain ⟨a, b⟩ := shaped_all l
  unfold SeqAt.shaped dI
  rw [PyData.canLay0, PyData.depth, a, b]
  decide
theorem cutV_nat (xs : List V) (i j : Nat) (h : i ≤ j) : cutV xs (some (i : Nat)) (some (j : Nat)) = (xs.drop i).take (j - i) := by
  unfold cutV
  rw [HT.sIx_nat, HT.sIx_nat]
  apply List.ext_getElem?
  intro k
  rw [List.getElem?_take, List.getElem?_take, List.getElem?_drop, List.getElem?_drop]
  by_cases hi : i ≤ xs.length
  · rw [Nat.min_eq_left hi]
    by_cases hk : k < j - i
    · rw [if_pos hk]
      by_cases hk2 : k < min j xs.length - i
      · rw [if_pos hk2]
      · rw [if_neg hk2, List.getElem?_eq_none (by omega)]
    · rw [if_neg hk, if_neg (by omega)]
  · rw [if_neg (by omega), List.getElem?_eq_none (by omega)]
    split <;> rfl
theorem sl_tup_nat {K : PySem.W.Frag} {Ts : List Addr} {H : Hp} {a : Addr} {xs : List V} {i j : Nat} {Q : VK} (ha : H a = some (.tup xs)) (ht : TOk Ts H) (hij : i ≤ j)
    (h : ∀ r H2, Gr Ts H H2 → H2 r = some (.tup ((xs.drop i).take (j - i))) → Q (.ref r) H2) : rSlA K (.ref a) (some (i : Nat)) (some (j : Nat)) H Q := by
  refine ⟨a, xs, rfl, .inl (.inl ha), fun hw => ?_, fun hw p hp => ?_⟩
  · refine h a H (Gr.refl ht) ?_
    have e := cutV_nat xs i j hij
    unfold cutV at e
    rw [hw.1, hw.2, List.drop_zero, Nat.sub_zero, List.take_length] at e
    rw [← e]
    exact ha
  · refine h p _ ((Gr.refl ht).new hp) ?_
    rw [cutV_nat xs i j hij]
    exact upd_same
theorem nts_cut (t : List Nat) (i j : Nat) : ((nts t).drop i).take j = nts ((t.drop i).take j) := by
  unfold nts
  rw [List.map_take, List.map_drop]
theorem nts_len (t : List Nat) : (nts t).length = t.length := List.length_map _
theorem nts_snoc (t : List Nat) (x : Nat) : nts t ++ [V.int (x : Nat)] = nts (t ++ [x]) := by
  unfold nts
  rw [List.map_append]
  rfl
theorem nts_get {t : List Nat} {i : Nat} (h : i < t.length) : (nts t)[i]? = some (V.int (t[i] : Nat)) := by
  unfold nts
  rw [List.getElem?_map, List.getElem?_eq_getElem h]
  rfl
theorem drop_one {t : List Nat} {i : Nat} (h : i < t.length) : (t.drop i).take 2 = t[i] :: (t.drop (i + 1)).take 1 := by
  rw [List.drop_eq_getElem_cons h]
  rfl
section
variable {P : Program} {w : World} {K : PySem.W.Frag} {mg : Str → Option Value} {base : Heap} (W : Wd K mg base)
include W
/-! _merged -/
def sp36 (Ts : List Addr) : Sp := fun vs H Q _ => ∃ (a m : Addr) (pr : Nat × Nat) (new : Nat) (t : List Nat), vs = [.ref a, .ref m, .int (new : Nat)] ∧ H a = some (.tup (nts t)) ∧ H m = some (.tup (nts [pr.1, pr.2])) ∧ t.length ≤ 1000 ∧ TOk Ts H ∧
  ∀ p H', Gr Ts H H' → H p = none → H' p = some (.tup (nts (mrg pr new t))) → Q (.ref p) H'
theorem ok36 : FnOk P w K mg base CX0 1 W.a36 W.d36 ["tokens", "merge", "made"] (sp36 W.Ts) := by
  refine W.D36.F.ok sc36 (fun vs H Q E h => ?_) fun cdv A outer s H vs Q E hr h => ?_
  · obtain ⟨a, m, pr, new, t, rfl, _⟩ := h
    rfl
  · obtain ⟨a, m, pr, new, t, rfl, ha, hm, tl, ht, k⟩ := h
    have hu := hu_of hr
    refine ⟨_, pss_cons (ps_set (i := 3) sc36.nd rfl (.inl rfl) (pe_lst pa_nil))
      (pss_cons (ps_set (i := 4) sc36.nd rfl (.inl rfl) pe_int)
      (pss_cons (ps_while PassesOwn.never (pt_cmpR op_lt (pv 4) (pe_callB call_len_seq (by rfl) W.m_len PySem.boot_len (pa_cons (pv 0) pa_nil)) (nomark _))
        (pss_one (ps_if (pt_cmpR (op_eqD hr.units) (pe_slice sl_tupA (pv 0) (po_some (pv 4)) (po_some (pe_op op_add (pv 4) pe_int))) (pv 1) (nomark _))
          (pss_cons (ps_expr (pe_bm PySem.F.plainAttrs_list PySem.F.slot_list_append PySem.F.type_list_append mt_append (pv 3) (pa_cons (pv 2) pa_nil))) (pss_one (ps_aug (i := 4) sc36.nd rfl (.inl rfl) pe_int ip_add)))
          (pss_cons (ps_expr (pe_bm PySem.F.plainAttrs_list PySem.F.slot_list_append PySem.F.type_list_append mt_append (pv 3) (pa_cons (pe_ix ix_tup (pv 0) (pv 4) (fun _ _ => rfl)) pa_nil))) (pss_one (ps_aug (i := 4) sc36.nd rfl (.inl rfl) pe_int ip_add))))))
      (pss_one (ps_ret (pe_callTy call_tuple_of (by rfl) W.m_tuple (by decide +kernel) (pa_cons (pv 3) pa_nil)))))), ?_⟩
    refine ⟨by show 0 ≤ sizeLine; decide, fun p hp => ?_⟩
    have npT := notTab ht hp
    refine ⟨fun mm σ H1 => ∃ (i : Nat) (acc : List Nat), mm = t.length - i ∧ σ = [some (.ref a), some (.ref m), some (.int (new : Nat)), some (.ref p), some (.int (i : Nat))] ∧ i ≤ t.length ∧ acc ++ mrg pr new (t.drop i) = mrg pr new t ∧ acc.length ≤ i ∧ Gr W.Ts H H1 ∧ H1 p = some (.lst (nts acc)),
      ⟨_, 0, [], rfl, rfl, Nat.zero_le _, rfl, Nat.le_refl _, (Gr.refl ht).new hp, upd_same⟩, fun mm σ H1 h1 => ?_⟩
    obtain ⟨i, acc, rfl, rfl, il, em, al, g, hpl⟩ := h1
    have ha1 := g.get ha
    refine ⟨_, rfl, _, rfl, a, _, rfl, .inr (.inl (.inl ha1)), _, _, rfl, rfl, ?_⟩
    rw [nts_len]
    by_cases hi : i < t.length
    · refine ⟨true, dT (show (i : Int) < (t.length : Int) by omega), iteT ?_⟩
      refine ⟨fun σ H2 => ∃ (j : Nat) (acc : List Nat), i < j ∧ σ = [some (.ref a), some (.ref m), some (.int (new : Nat)), some (.ref p), some (.int (j : Nat))] ∧ j ≤ t.length ∧ acc ++ mrg pr new (t.drop j) = mrg pr new t ∧ acc.length ≤ j ∧ Gr W.Ts H H2 ∧ H2 p = some (.lst (nts acc)),
        fun σ H2 h2 => ?_, ?_⟩
      · obtain ⟨j, acc2, hj, e1, e2, e3, e4, e5, e6⟩ := h2
        exact ⟨_, by omega, j, acc2, rfl, e1, e2, e3, e4, e5, e6⟩
      · refine ⟨_, rfl, _, rfl, i, rfl, _, rfl, _, _, rfl, rfl, i + 2, rfl, ?_⟩
        refine sl_tup_nat (j := i + 2) ha1 g.t' (by omega) fun r H2 g2 hr2 => ?_
        have gg := g.tr g2
        have hm2 := gg.get hm
        have hp2 : H2 p = some (.lst (nts acc)) := g2.get hpl
        rw [nts_cut, show i + 2 - i = 2 by omega] at hr2
        refine ⟨_, rfl, dI ((t.drop i).take 2), dI [pr.1, pr.2], dp_nts hr2, dp_nts hm2, shaped_dI _, shaped_dI _, ?_⟩
        rw [eqv_dI, drop_one hi]
        have hd := List.drop_eq_getElem_cons hi
        by_cases hc : t[i] :: (t.drop (i + 1)).take 1 = [pr.1, pr.2]
        · refine ⟨true, dT hc, iteT ?_⟩
          have hi2 : i + 1 < t.length := by
            have := congrArg List.length hc
            rw [List.length_cons, List.length_take, List.length_drop] at this
            simp only [List.length_cons, List.length_nil] at this
            omega
          have hd2 := List.drop_eq_getElem_cons hi2
          rw [hd2] at hc hd
          simp only [List.take_succ_cons, List.take_zero, List.cons.injEq, and_true] at hc
          refine ⟨_, rfl, .inl ⟨rfl, _, .inl (.inl hp2)⟩, _, rfl, p, _, _, rfl, rfl, hp2, small_lt (by rw [nts_len]; omega), _, rfl, _, _, rfl, rfl, i + 2, acc ++ [new], by omega, rfl, by omega, ?_, ?_, gg.mut hp npT, ?_⟩
          · rw [hd, mrg, if_pos hc] at em
            rw [List.append_assoc]
            exact em
          · rw [List.length_append]
            simp only [List.length_cons, List.length_nil]
            omega
          · rw [nts_snoc]
            exact upd_same
        · refine ⟨false, dF hc, iteF ?_⟩
          refine ⟨_, rfl, .inl ⟨rfl, _, .inl (.inl hp2)⟩, _, rfl, _, rfl, a, _, _, _, rfl, rfl, .inl (.inl (g2.get ha1)), atI_nat (nts_get hi), p, _, _, rfl, rfl, hp2, small_lt (by rw [nts_len]; omega), _, rfl, _, _, rfl, rfl, i + 1, acc ++ [t[i]], by omega, rfl, by omega, ?_, ?_, gg.mut hp npT, ?_⟩
          · rw [hd] at em
            rw [List.append_assoc]
            rw [← em]
            congr 1
            cases e : t.drop (i + 1) with
            | nil => rfl
            | cons y r =>
              rw [e] at hc
              simp only [List.take_succ_cons, List.take_zero, List.cons.injEq, and_true] at hc
              rw [mrg, if_neg hc]
              rfl
          · rw [List.length_append]
            simp only [List.length_cons, List.length_nil]
            omega
          · rw [nts_snoc]
            exact upd_same
    · refine ⟨false, dF (show ¬ (i : Int) < (t.length : Int) by omega), iteF ?_⟩
      have e0 : t.drop i = [] := List.drop_eq_nil_of_le (by omega)
      rw [e0, mrg, List.append_nil] at em
      subst em
      exact ⟨_, rfl, p, _, rfl, .inl ⟨.inl (.inl hpl), fun l hl => k l _ (g.new hl) (g.free hl) upd_same⟩⟩
end
end Zk
set_option Elab.async false
set_option linter.all false
set_option maxRecDepth 100000
set_option maxHeartbeats 4000000
namespace Zk
open PySem PySem.Spec PyProof.Rows L2 GxR Zn Zm
theorem toksFrom_snoc (n : Nat) (p : Nat × Nat) : ∀ (R : Mg) (k : Nat) (t : List Nat), toksFrom n k (R ++ [p]) t = mrg p (n + k + R.length) (toksFrom n k R t)
  | [], k, t => rfl
  | q :: R, k, t => by
    show toksFrom n (k + 1) (R ++ [p]) _ = mrg p _ (toksFrom n (k + 1) R _)
    rw [toksFrom_snoc n p R (k + 1), List.length_cons, show n + (k + 1) + R.length = n + k + (R.length + 1) by omega]
theorem toksFrom_take (n : Nat) (M : Mg) (t : List Nat) {i : Nat} (h : i < M.length) : toksFrom n 0 (M.take (i + 1)) t = mrg M[i] (n + i) (toksFrom n 0 (M.take i) t) := by
  rw [List.take_add_one, List.getElem?_eq_getElem h]
  show toksFrom n 0 (M.take i ++ [M[i]]) t = _
  rw [toksFrom_snoc, List.length_take, Nat.min_eq_left (by omega)]
  rfl
theorem joinL_nil : ∀ l : List (List Nat), TL.joinL [] l = l.flatten
  | [] => rfl
  | [p] => by simp [TL.joinL]
  | p :: q :: r => by
    show p ++ ([] ++ TL.joinL [] (q :: r)) = _
    rw [joinL_nil (q :: r)]
    rfl
theorem join_svs (ps : List (List Nat)) : Txt.join "" (ps.map sv) = sv ps.flatten := by
  refine str_ext ?_
  rw [TL.join_eq]
  show TL.tl _ = _
  rw [TL.tl_join, List.map_map, lt_sv]
  have e : ps.map (TL.tl ∘ sv) = ps := by
    rw [show (TL.tl ∘ sv) = id from funext fun l => lt_sv l, List.map_id]
  rw [e]
  exact joinL_nil ps
theorem sum_le {ps : List (List Nat)} {k : Nat} (h : ∀ y ∈ ps, y.length ≤ k) : ((ps.map sv).map (·.length)).sum ≤ ps.length * k := by
  induction ps with
  | nil => simp
  | cons x r ih =>
    have h1 := ih fun y hy => h y (List.mem_cons_of_mem _ hy)
    have h2 := h x List.mem_cons_self
    rw [List.map_cons, List.map_cons, List.sum_cons, List.length_cons, sv_len, Nat.succ_mul]
    omega
section
variable {P : Program} {w : World} {K : PySem.W.Frag} {mg : Str → Option Value} {base : Heap} (W : Wd K mg base)
include W
/-! tokens_of -/
def sp27 (Ts : List Addr) : Sp := fun vs H Q _ => ∃ (a : Addr) (L z : Str) (M : Mg), vs = [.ref a, .str z] ∧ Voc H a L M ∧ Good L M ∧ (∀ c ∈ lt z, c ∈ lt L) ∧ (lt z).length ≤ 1000 ∧ TOk Ts H ∧ ∀ p H', Gr Ts H H' → H' p = some (.tup (nts (toks (lt L) M (lt z)))) → Q (.ref p) H'
theorem ok27 : FnOk P w K mg base CX0 2 W.a27 W.d27 ["vocabulary", "text"] (sp27 W.Ts) := by
  refine W.D27.F.ok sc27 (fun vs H Q E h => ?_) fun cdv A outer s H vs Q E hr h => ?_
  · obtain ⟨a, L, z, M, rfl, _⟩ := h
    rfl
  · obtain ⟨a, L, z, M, rfl, ⟨m, hv, hm⟩, G, hz, zl, ht, k⟩ := h
    obtain ⟨rs, hm1, hm2, hm3⟩ := id hm
    refine ⟨_, pss_cons (ps_asg (pv 0) (pg_tup rfl (pgs_cons (pg_name (i := 2) sc27.nd rfl (.inl rfl)) (pgs_cons (pg_name (i := 3) sc27.nd rfl (.inl rfl)) (pgs_cons (pg_name (i := 4) sc27.nd rfl (.inl rfl)) pgs_nil)))))
      (pss_cons (ps_set (i := 5) sc27.nd rfl (.inl rfl) (pe_call (ok35 W) (hr.mono (by decide)) (by rfl) W.D35.g W.D35.kp W.D35.b .nil pass0 (pa_cons (pv 3) (pa_cons (pv 1) pa_nil))))
      (pss_cons (ps_for PassesOwn.never rfl (pi_enumT (by rfl) W.m_enumerate (pa_cons (pv 4) pa_nil)) (pg_tup rfl (pgs_cons (pg_name (i := 6) sc27.nd rfl (.inl rfl)) (pgs_cons (pg_name (i := 7) sc27.nd rfl (.inl rfl)) pgs_nil)))
        (pss_one (ps_set (i := 5) sc27.nd rfl (.inl rfl) (pe_call (ok36 W) hr (by rfl) W.D36.g W.D36.kp W.D36.b .nil pass0 (pa_cons (pv 5) (pa_cons (pv 7) (pa_cons (pe_op op_add (pe_op op_add pe_int (pe_callB call_len_str (by rfl) W.m_len PySem.boot_len (pa_cons (pv 3) pa_nil))) (pv 6)) pa_nil)))))))
      (pss_one (ps_ret (pv 5))))), ?_⟩
    have hrl : (rs.map V.ref).length = M.length := by rw [List.length_map]; exact hm2
    refine ⟨_, rfl, a, _, rfl, .inl (.inl hv), rfl, _, _, rfl, _, _, rfl, _, _, rfl, rfl, ?_⟩
    refine ⟨_, rfl, _, rfl, L, z, rfl, hz, zl, ht, fun p H1 g1 hp1 hp2 => ?_⟩
    have hm1' := g1.get hm1
    refine ⟨_, rfl, m, _, rfl, .inl (.inl hm1'), for_it (walk_enumT (xs := rs.map V.ref)) (fun i σ H2 => ∃ v6 v7 q, σ = [some (.ref a), some (.str z), some (.str "vocabulary"), some (.str L), some (.ref m), some (.ref q), v6, v7] ∧ Gr W.Ts H H2 ∧
      H2 q = some (.tup (nts (toksFrom (1 + (lt L).length) 0 (M.take i) (lts (lt L) (lt z)))))) ⟨none, none, p, rfl, g1, hp2⟩ (fun i σ H2 _ h2 => ?_) (fun i x σ H2 H3 hi h2 y => ?_) fun σ H2 h2 => ?_⟩
    · obtain ⟨_, _, _, _, g, _⟩ := h2
      exact .inl (.inl (g.get hm1))
    · obtain ⟨v6, v7, q, rfl, g, hq⟩ := h2
      obtain ⟨T, x1, y1, rfl, hT, rfl, hx1, hy1⟩ := y
      rw [hrl] at hi
      cases hx1
      have hy2 : (rs.map V.ref)[i]? = some y1 := hy1
      rw [List.getElem?_map, List.getElem?_eq_getElem (by omega)] at hy2
      cases hy2
      have g2 := g.new (o := .tup [.int (i : Nat), V.ref rs[i]]) hT
      have g23 := (Gr.refl g.t').new (o := .tup [.int (i : Nat), V.ref rs[i]]) hT
      have hr1 := g2.get (hm3 i rs[i] M[i] (List.getElem?_eq_getElem (by omega)) (List.getElem?_eq_getElem hi))
      refine ⟨T, _, rfl, .inl (.inl upd_same), rfl, _, _, rfl, _, _, rfl, rfl, ?_⟩
      have tl : (toksFrom (1 + (lt L).length) 0 (M.take i) (lts (lt L) (lt z))).length ≤ 1000 := by
        refine Nat.le_trans (toksFrom_le _ _ _ _) ?_
        unfold lts
        rw [List.length_map]
        exact zl
      have l6 := G.l6
      have hl : L.length = (lt L).length := len_lt L
      refine ⟨_, rfl, _, rfl, _, rfl, L, rfl, small_le (by omega), _, _, rfl, rfl, _, rfl, _, _, rfl, rfl, q, rs[i], M[i], 1 + (lt L).length + i, _, ?_, g23.get hq, hr1, tl, g2.t', fun p2 H4 g4 hp3 hp4 => ?_⟩
      · show [V.ref q, V.ref rs[i], V.int (1 + (L.length : Int) + ((i : Nat) : Int))] = _
        rw [hl]
        simp only [List.cons.injEq, V.int.injEq, true_and, and_true]
        omega
      · refine ⟨_, _, p2, rfl, g2.tr g4, ?_⟩
        rw [toksFrom_take _ M _ hi]
        exact hp4
    · obtain ⟨v6, v7, q, rfl, g, hq⟩ := h2
      rw [hrl, List.take_length] at hq
      exact ⟨_, rfl, k q H2 g hq⟩
/-! to_tokens -/
theorem ok23 : FnOk P w K mg base CX0 7 W.a23 W.d23 ["vocabulary", "text"] (sp27 W.Ts) := by
  refine W.D23.F.ok sc23 (fun vs H Q E h => ?_) fun cdv A outer s H vs Q E hr h => ?_
  · obtain ⟨a, L, z, M, rfl, _⟩ := h
    rfl
  · obtain ⟨a, L, z, M, rfl, hv, G, hz, zl, ht, k⟩ := h
    refine ⟨_, pss_cons (ps_expr (pe_call (ok28 W) hr (by rfl) W.D28.g W.D28.kp W.D28.b .nil pass0 (pa_cons (pv 0) pa_nil)))
      (pss_cons (ps_expr (pe_call (ok29 W) (hr.mono (by decide)) (by rfl) W.D29.g W.D29.kp W.D29.b .nil pass0 (pa_cons (pv 0) (pa_cons (pv 1) pa_nil))))
      (pss_one (ps_ret (pe_call (ok27 W) (hr.mono (by decide)) (by rfl) W.D27.g W.D27.kp W.D27.b .nil pass0 (pa_cons (pv 0) (pa_cons (pv 1) pa_nil)))))), ?_⟩
    refine ⟨_, rfl, a, L, M, rfl, hv, G, ht, fun H1 g1 => ⟨_, rfl, _, rfl, a, L, z, M, rfl, hv.up g1, hz, g1.t', fun H2 g2 => ?_⟩⟩
    have g12 := g1.tr g2
    exact ⟨_, rfl, _, rfl, a, L, z, M, rfl, hv.up g12, G, hz, zl, g2.t', fun p H3 g3 hp => k p H3 (g12.tr g3) hp⟩
/-! to_text -/
def sp24 (Ts : List Addr) : Sp := fun vs H Q _ => ∃ (a b : Addr) (L : Str) (M : Mg) (t : List Nat), vs = [.ref a, .ref b] ∧ Voc H a L M ∧ Good L M ∧ H b = some (.tup (nts t)) ∧ (∀ x ∈ t, x < 1 + (lt L).length + M.length) ∧ t.length ≤ 1000 ∧ TOk Ts H ∧ ∀ H', Gr Ts H H' → Q (.str (sv (txt (pcs (lt L) M) t))) H'
theorem ok24 : FnOk P w K mg base CX0 7 W.a24 W.d24 ["vocabulary", "tokens"] (sp24 W.Ts) := by
  refine W.D24.F.ok sc24 (fun vs H Q E h => ?_) fun cdv A outer s H vs Q E hr h => ?_
  · obtain ⟨a, b, L, M, t, rfl, _⟩ := h
    rfl
  · obtain ⟨a, b, L, M, t, rfl, hv, G, hb, hlt, tl, ht, k⟩ := h
    refine ⟨_, pss_cons (ps_expr (pe_call (ok28 W) hr (by rfl) W.D28.g W.D28.kp W.D28.b .nil pass0 (pa_cons (pv 0) pa_nil)))
      (pss_cons (ps_if (pt_not (pt_val (pe_call (ok11 W) (hr.mono (by decide)) (by rfl) W.D11.g W.D11.kp W.D11.b .nil pass0 (pa_cons (pv 1) (pa_cons (pe_call (ok33 W) (hr.mono (by decide)) (by rfl) W.D33.g W.D33.kp W.D33.b .nil pass0 (pa_cons (pv 0) pa_nil)) pa_nil))))) (pss_one ps_never) pss_nil)
      (pss_cons (ps_set (i := 2) sc24.nd rfl (.inr rfl) (pe_call (ok26 W) (hr.mono (by decide)) (by rfl) W.D26.g W.D26.kp W.D26.b .nil pass0 (pa_cons (pv 0) pa_nil)))
      (pss_one (ps_ret (pe_join pe_str (pe_lc (own := [("token", 3)]) (g := gName 3) (tt := tYes) (te := tOp (rIxL K) (tVar 2) (tVar 3)) rfl sc24.nd (pi_tup (pv 1)) (blkOk_by (N := ["vocabulary", "tokens", "pieces", "token"]) (sc := defScope (top 24)) (by decide +kernel)) (fun _ _ _ _ _ => pg_name (i := 3) sc24.nd rfl (.inl rfl)) (fun _ _ _ _ _ => pts_nil)
        (fun _ _ _ _ _ => pe_ix ix_list (pv 2) (pv 3) (fun _ _ => rfl)))))))), ?_⟩
    refine ⟨_, rfl, a, L, M, rfl, hv, G, ht, fun H1 g1 => ?_⟩
    refine ⟨_, rfl, _, rfl, a, L, M, rfl, hv.up g1, G.l6, b, t.map Int.ofNat, _, rfl, ?_, g1.t', fun H2 g2 => ⟨true, ?_, iteF ?_⟩⟩
    · rw [← nts_eq]
      exact g1.get hb
    · refine congrArg V.bl ?_
      rw [List.all_eq_true]
      intro n hn
      obtain ⟨x, hx, rfl⟩ := List.mem_map.mp hn
      have := hlt x hx
      rw [decide_eq_true (show (0 : Int) ≤ Int.ofNat x from Int.natCast_nonneg x), decide_eq_true (show Int.ofNat x < ((1 + (lt L).length + M.length : Nat) : Int) by show ((x : Nat) : Int) < _; omega)]
      rfl
    · have g12 := g1.tr g2
      refine ⟨_, rfl, a, L, M, rfl, hv.up g12, G, g2.t', fun p H3 g3 hp1 hp2 => ?_⟩
      have g := g12.tr g3
      refine ⟨⟨_, rfl⟩, _, rfl, b, rfl, ⟨_, .inl (.inl (g.get hb))⟩, fun D hD => lc_it (walk_tup (xs := nts t)) (fun i H4 => Gr W.Ts H3 H4 ∧ H4 D = some (.lst (svs ((t.take i).map fun x => (pcs (lt L) M).getD x [])))) ⟨(Gr.refl g.t').new hD, upd_same⟩ (fun i H4 _ h4 => .inl (.inl (h4.1.get (g.get hb)))) (fun i x H4 H5 hi h4 y => ?_) fun H4 h4 => ?_⟩
      · obtain ⟨g4, hd⟩ := h4
        obtain ⟨rfl, hx⟩ := y
        rw [nts_len] at hi
        rw [nts_get hi] at hx
        cases hx
        refine ⟨rfl, ?_⟩
        unfold tYes
        refine iteT ?_
        refine ⟨_, rfl, _, rfl, p, _, _, _, rfl, rfl, .inl (.inl (g4.get hp2)), atI_nat (svs_get (by rw [pcs_length]; exact hlt _ (List.getElem_mem hi))), _, hd, ?_, g4.mut hD (notTab g.t' hD), ?_⟩
        · rw [svs_length, List.length_map, List.length_take]
          exact small_lt (by omega)
        · have e : svs ((t.take i).map fun x => (pcs (lt L) M).getD x []) ++ [V.str (sv ((pcs (lt L) M).getD t[i] []))] = svs ((t.take (i + 1)).map fun x => (pcs (lt L) M).getD x []) := by
            rw [List.take_add_one, List.getElem?_eq_getElem hi]
            unfold svs
            rw [List.map_append, List.map_append]
            rfl
          rw [e]
          exact upd_same
      · obtain ⟨g4, hd⟩ := h4
        rw [nts_len, List.take_length] at hd
        have hd2 : H4 D = some (.lst (((t.map fun x => (pcs (lt L) M).getD x []).map sv).map V.str)) := by
          rw [List.map_map (f := sv)]
          exact hd
        have hb3 : ∀ y ∈ (t.map fun x => (pcs (lt L) M).getD x []), y.length ≤ 12 := fun y hy => by
          obtain ⟨x, hx, rfl⟩ := List.mem_map.mp hy
          exact piece_le W G.sh x
        refine ⟨_, D, _, rfl, rfl, .inl (.inl (.inl hd2)), ?_, ?_⟩
        · have := sum_le hb3
          rw [List.length_map] at this ⊢
          have e0 : (("" : Str)).length = 0 := rfl
          rw [e0, Nat.mul_zero]
          have : t.length * 12 ≤ 1000 * 12 := Nat.mul_le_mul_right _ tl
          omega
        · rw [join_svs]
          exact k H4 (g.tr g4)
/-! same, of two integers -/
def sp14 : Sp := fun vs H Q _ => ∃ x y : Int, vs = [.int x, .int y] ∧ Q (.bl (decide (x = y))) H
theorem ok14 : FnOk P w K mg base CX0 1 W.a14 W.d14 ["right", "thing"] sp14 := by
  refine W.D14.F.ok sc14 (fun vs H Q E h => ?_) fun cdv A outer s H vs Q E hr h => ?_
  · obtain ⟨x, y, rfl, _⟩ := h
    rfl
  · obtain ⟨x, y, rfl, k⟩ := h
    refine ⟨_, pss_cons (ps_if (pt_val (pe_callB call_isi (by rfl) W.m_isinstance boot_isi (pa_cons (pv 0) (pa_cons (pe_bltn (v := .ty "tuple") (by rfl) W.m_tuple (by decide +kernel) rfl) pa_nil)))) (pss_one ps_never) pss_nil)
      (pss_cons (ps_if (pt_cmpR op_ne (pe_callB call_isi (by rfl) W.m_isinstance boot_isi (pa_cons (pv 0) (pa_cons (pe_bltn (v := .ty "bool") (by rfl) W.m_bool (by decide +kernel) rfl) pa_nil))) (pe_callB call_isi (by rfl) W.m_isinstance boot_isi (pa_cons (pv 1) (pa_cons (pe_bltn (v := .ty "bool") (by rfl) W.m_bool (by decide +kernel) rfl) pa_nil))) (nomark _)) (pss_one (ps_ret pe_bl)) pss_nil)
      (pss_one (ps_ret (pe_and (pe_cmpR op_eq (pe_callB call_isi (by rfl) W.m_isinstance boot_isi (pa_cons (pv 0) (pa_cons (pe_bltn (v := .ty "int") (by rfl) W.m_int (by decide +kernel) rfl) pa_nil))) (pe_callB call_isi (by rfl) W.m_isinstance boot_isi (pa_cons (pv 1) (pa_cons (pe_bltn (v := .ty "int") (by rfl) W.m_int (by decide +kernel) rfl) pa_nil))) (nomark _))
        (pe_one (pe_cmpR op_eq (pv 0) (pv 1) (nomark _))))))), ?_⟩
    refine ⟨_, rfl, .int x, .ty "tuple", _, _, false, rfl, .ty "tuple", .base (.int x), kit_ty (by decide +kernel), false, rfl, iteF ?_⟩
    refine ⟨_, rfl, .int x, .ty "bool", _, _, false, rfl, .ty "bool", .base (.int x), kit_ty (by decide +kernel), _, rfl, .int y, .ty "bool", _, _, false, rfl, .ty "bool", .base (.int y), kit_ty (by decide +kernel), rfl, false, rfl, iteF ?_⟩
    refine ⟨_, rfl, .int x, .ty "int", _, _, true, rfl, .ty "int", .base (.int x), kit_ty (by decide +kernel), _, rfl, .int y, .ty "int", _, _, true, rfl, .ty "int", .base (.int y), kit_ty (by decide +kernel), rfl, true, rfl, iteT ⟨_, rfl, _, rfl, rfl, ?_⟩⟩
    have e : decide (V.int x = V.int y) = decide (x = y) := by simp
    rw [e]
    exact k
/-! first_difference, of a tuple of tokens and an equal one -/
def sp15 (Ts : List Addr) : Sp := fun vs H Q _ => ∃ (a b : Addr) (t : List Nat), vs = [.ref a, .ref b] ∧ H a = some (.tup (nts t)) ∧ H b = some (.tup (nts t)) ∧ TOk Ts H ∧ ∀ H', Gr Ts H H' → Q .non H'
theorem ok15 : FnOk P w K mg base CX0 2 W.a15 W.d15 ["right", "thing"] (sp15 W.Ts) := by
  refine W.D15.F.ok sc15 (fun vs H Q E h => ?_) fun cdv A outer s H vs Q E hr h => ?_
  · obtain ⟨a, b, t, rfl, _⟩ := h
    rfl
  · obtain ⟨a, b, t, rfl, ha, hb, ht, k⟩ := h
    refine ⟨_, pss_cons (ps_for PassesOwn.never rfl (pi_ez (by rfl) W.m_enumerate (by rfl) W.m_zip (pa_cons (pv 0) (pa_cons (pv 1) pa_nil))) (pg_tup rfl (pgs_cons (pg_name (i := 2) sc15.nd rfl (.inl rfl)) (pgs_cons (pg_tup rfl (pgs_cons (pg_name (i := 3) sc15.nd rfl (.inl rfl)) (pgs_cons (pg_name (i := 4) sc15.nd rfl (.inl rfl)) pgs_nil))) pgs_nil)))
        (pss_one (ps_if (pt_not (pt_val (pe_call (ok14 W) hr (by rfl) W.D14.g W.D14.kp W.D14.b .nil pass0 (pa_cons (pv 3) (pa_cons (pv 4) pa_nil))))) (pss_one (ps_ret (pv 2))) pss_nil)))
      (pss_cons (ps_if (pt_cmpR op_eq (pe_callB call_len_seq (by rfl) W.m_len PySem.boot_len (pa_cons (pv 0) pa_nil)) (pe_callB call_len_seq (by rfl) W.m_len PySem.boot_len (pa_cons (pv 1) pa_nil)) (nomark _)) (pss_one (ps_ret pe_non)) pss_nil) (pss_one ps_never)), ?_⟩
    refine ⟨_, rfl, _, rfl, a, b, nts t, nts t, rfl, .inl (.inl ha), .inl (.inl hb), for_it (walk_ez (xs := nts t) (ys := nts t) rfl) (fun i σ H1 => ∃ v2 v3 v4, σ = [some (.ref a), some (.ref b), v2, v3, v4] ∧ Gr W.Ts H H1) ⟨none, none, none, rfl, Gr.refl ht⟩ (fun i σ H1 _ h1 => ?_) (fun i x σ H1 H2 hi h1 y => ?_) fun σ H1 h1 => ?_⟩
    · obtain ⟨_, _, _, _, g⟩ := h1
      exact ⟨.inl (.inl (g.get ha)), .inl (.inl (g.get hb))⟩
    · obtain ⟨v2, v3, v4, rfl, g⟩ := h1
      obtain ⟨T2, T1, x1, y1, rfl, f1, f2, ne, rfl, ex, ey⟩ := y
      rw [nts_len] at hi
      rw [nts_get hi] at ex ey
      cases ex
      cases ey
      have g1 := g.new (o := .tup [.int (t[i] : Nat), .int (t[i] : Nat)]) f1
      have f2' : upd H1 T1 (.tup [.int (t[i] : Nat), .int (t[i] : Nat)]) T2 = none := by
        rw [upd_ne ne.symm]
        exact f2
      have g2 := g1.new (o := .tup [.int (i : Nat), .ref T1]) f2'
      refine ⟨T2, _, rfl, .inl (.inl upd_same), rfl, _, _, rfl, _, _, rfl, ⟨T1, [.int (t[i] : Nat), .int (t[i] : Nat)], rfl, .inl (.inl ?_), rfl, _, _, rfl, _, _, rfl, rfl, ?_⟩⟩
      · rw [upd_ne ne]
        exact upd_same
      · refine ⟨rfl, ?_⟩
        refine ⟨_, rfl, _, rfl, _, _, rfl, true, dT rfl, iteF ⟨_, _, _, rfl, g2⟩⟩
    · obtain ⟨v2, v3, v4, rfl, g⟩ := h1
      refine ⟨_, rfl, a, _, rfl, .inr (.inl (.inl (g.get ha))), _, rfl, b, _, rfl, .inr (.inl (.inl (g.get hb))), rfl, true, ?_, iteT (k H1 g)⟩
      rw [decide_eq_true rfl]
end
end Zk
set_option Elab.async false
set_option linter.all false
set_option maxRecDepth 100000
set_option maxHeartbeats 4000000
namespace Zk
open PySem PySem.Spec PyProof.Rows L2 GxR Zn Zm
section
variable {P : Program} {w : World} {K : PySem.W.Frag} {mg : Str → Option Value} {base : Heap} (W : Wd K mg base)
include W
/-! certificate, of equal tuples of tokens -/
def sp16 (Ts : List Addr) : Sp := fun vs H Q _ => ∃ (a b : Addr) (t : List Nat), vs = [.ref a, .ref b] ∧ H a = some (.tup (nts t)) ∧ H b = some (.tup (nts t)) ∧ TOk Ts H ∧ ∀ p H', Gr Ts H H' → H' p = some (.tup [.str "right"]) → Q (.ref p) H'
theorem ok16 : FnOk P w K mg base CX0 3 W.a16 W.d16 ["right", "thing"] (sp16 W.Ts) := by
  refine W.D16.F.ok sc16 (fun vs H Q E h => ?_) fun cdv A outer s H vs Q E hr h => ?_
  · obtain ⟨a, b, t, rfl, _⟩ := h
    rfl
  · obtain ⟨a, b, t, rfl, ha, hb, ht, k⟩ := h
    refine ⟨_, pss_cons (ps_set (i := 2) sc16.nd rfl (.inl rfl) (pe_call (ok15 W) hr (by rfl) W.D15.g W.D15.kp W.D15.b .nil pass0 (pa_cons (pv 0) (pa_cons (pv 1) pa_nil))))
      (pss_one (ps_ret (pe_ifExp (pt_cmpR op_isN (pv 2) pe_non (nomark _)) (pe_tup (pa_cons pe_str pa_nil)) (pe_tup (pa_cons pe_str (pa_cons (pv 2) pa_nil)))))), ?_⟩
    refine ⟨_, rfl, _, rfl, a, b, t, rfl, ha, hb, ht, fun H1 g1 => ⟨_, rfl, rfl, true, dT rfl, iteT ⟨by show 1 ≤ sizeLine; decide, fun p hp => ?_⟩⟩⟩
    exact k p _ (g1.new hp) upd_same
/-! judge_tokens, of the right tokens -/
def sp25 (Ts : List Addr) : Sp := fun vs H Q _ => ∃ (a b : Addr) (L z : Str) (M : Mg), vs = [.ref a, .str z, .ref b] ∧ Voc H a L M ∧ Good L M ∧ (∀ c ∈ lt z, c ∈ lt L) ∧ (lt z).length ≤ 1000 ∧ H b = some (.tup (nts (toks (lt L) M (lt z)))) ∧ TOk Ts H ∧ ∀ p H', Gr Ts H H' → H' p = some (.tup [.str "right"]) → Q (.ref p) H'
theorem ok25 : FnOk P w K mg base CX0 7 W.a25 W.d25 ["vocabulary", "text", "thing"] (sp25 W.Ts) := by
  refine W.D25.F.ok sc25 (fun vs H Q E h => ?_) fun cdv A outer s H vs Q E hr h => ?_
  · obtain ⟨a, b, L, z, M, rfl, _⟩ := h
    rfl
  · obtain ⟨a, b, L, z, M, rfl, hv, G, hz, zl, hb, ht, k⟩ := h
    refine ⟨_, pss_cons (ps_expr (pe_call (ok28 W) hr (by rfl) W.D28.g W.D28.kp W.D28.b .nil pass0 (pa_cons (pv 0) pa_nil)))
      (pss_cons (ps_expr (pe_call (ok29 W) (hr.mono (by decide)) (by rfl) W.D29.g W.D29.kp W.D29.b .nil pass0 (pa_cons (pv 0) (pa_cons (pv 1) pa_nil))))
      (pss_cons (ps_if (pt_not (pt_val (pe_call (ok11 W) (hr.mono (by decide)) (by rfl) W.D11.g W.D11.kp W.D11.b .nil pass0 (pa_cons (pv 2) (pa_cons (pe_call (ok33 W) (hr.mono (by decide)) (by rfl) W.D33.g W.D33.kp W.D33.b .nil pass0 (pa_cons (pv 0) pa_nil)) pa_nil))))) (pss_one ps_never) pss_nil)
      (pss_one (ps_ret (pe_call (ok16 W) (hr.mono (by decide)) (by rfl) W.D16.g W.D16.kp W.D16.b .nil pass0 (pa_cons (pe_call (ok27 W) (hr.mono (by decide)) (by rfl) W.D27.g W.D27.kp W.D27.b .nil pass0 (pa_cons (pv 0) (pa_cons (pv 1) pa_nil))) (pa_cons (pv 2) pa_nil))))))), ?_⟩
    refine ⟨_, rfl, a, L, M, rfl, hv, G, ht, fun H1 g1 => ⟨_, rfl, _, rfl, a, L, z, M, rfl, hv.up g1, hz, g1.t', fun H2 g2 => ?_⟩⟩
    have g12 := g1.tr g2
    refine ⟨_, rfl, _, rfl, a, L, M, rfl, hv.up g12, G.l6, b, (toks (lt L) M (lt z)).map Int.ofNat, _, rfl, ?_, g12.t', fun H3 g3 => ⟨true, ?_, iteF ?_⟩⟩
    · rw [← nts_eq]
      exact g12.get hb
    · refine congrArg V.bl ?_
      rw [List.all_eq_true]
      intro n hn
      obtain ⟨x, hx, rfl⟩ := List.mem_map.mp hn
      have := toks_lt hz x hx
      rw [decide_eq_true (show (0 : Int) ≤ Int.ofNat x from Int.natCast_nonneg x), decide_eq_true (show Int.ofNat x < ((1 + (lt L).length + M.length : Nat) : Int) by show ((x : Nat) : Int) < _; omega)]
      rfl
    · have g := g12.tr g3
      refine ⟨_, rfl, _, rfl, a, L, z, M, rfl, hv.up g, G, hz, zl, g.t', fun q H4 g4 hq => ?_⟩
      have gg := g.tr g4
      exact ⟨_, rfl, q, b, _, rfl, hq, gg.get hb, gg.t', fun p H5 g5 hp => k p H5 (gg.tr g5) hp⟩
end
end Zk
set_option Elab.async false
set_option linter.all false
set_option maxRecDepth 100000
set_option maxHeartbeats 4000000
namespace Zk
open PySem PySem.Spec PyProof.Rows L2 GxR Zn Zm
/-- all that stood stands, but for the tables and the deck -/
structure GrD (Ts : List Addr) (d l : Addr) (H H' : Hp) : Prop where
  t : TOk Ts H
  k : ∀ b o, b ∉ Ts → b ≠ d → b ≠ l → H b = some o → H' b = some o
  t' : TOk Ts H'
  s : ∀ b, b = d ∨ b = l → H b ≠ none → H' b ≠ none
theorem Gr.D {Ts : List Addr} {d l : Addr} {H H' : Hp} (g : Gr Ts H H') : GrD Ts d l H H' := ⟨g.t, fun b o h1 _ _ => g.k b o h1, g.t', fun b _ e z => e (g.free z)⟩
theorem GrD.refl {Ts : List Addr} {d l : Addr} {H : Hp} (t : TOk Ts H) : GrD Ts d l H H := (Gr.refl t).D
theorem GrD.tr {Ts : List Addr} {d l : Addr} {H H1 H2 : Hp} (a : GrD Ts d l H H1) (b : GrD Ts d l H1 H2) : GrD Ts d l H H2 := ⟨a.t, fun c o h1 h2 h3 e => b.k c o h1 h2 h3 (a.k c o h1 h2 h3 e), b.t', fun c h e => b.s c h (a.s c h e)⟩
theorem GrD.get {Ts : List Addr} {d l : Addr} {H H' : Hp} (g : GrD Ts d l H H') {a : Addr} {o : HO} (h : H a = some o) (h1 : a ≠ d) (h2 : a ≠ l) (n : ∀ ps, o ≠ .tbl ps := by intro ps z; cases z) : H' a = some o := by
  refine g.k a o (fun m => ?_) h1 h2 h
  obtain ⟨ps, e, _⟩ := g.t a m
  rw [h] at e
  exact n ps (Option.some.inj e)
theorem GrD.free {Ts : List Addr} {d l : Addr} {H H' : Hp} (g : GrD Ts d l H H') {p : Addr} (h : H' p = none) : H p = none := by
  cases e : H p with
  | none => rfl
  | some o =>
    by_cases m : p ∈ Ts
    · obtain ⟨ps, e2, _⟩ := g.t' p m
      rw [h] at e2
      cases e2
    · by_cases q : p = d ∨ p = l
      · exact absurd h (g.s p q (by rw [e]; simp))
      · rw [g.k p o m (fun z => q (.inl z)) (fun z => q (.inr z)) e] at h
        cases h
theorem GrD.new {Ts : List Addr} {d l : Addr} {H H' : Hp} (g : GrD Ts d l H H') {p : Addr} {o : HO} (h : H' p = none) : GrD Ts d l H (upd H' p o) := g.tr ((Gr.refl g.t').new h).D
theorem GrD.mut {Ts : List Addr} {d l : Addr} {H H' : Hp} (g : GrD Ts d l H H') {p : Addr} {o : HO} (h : H p = none ∨ p = d ∨ p = l) (m : p ∉ Ts) : GrD Ts d l H (upd H' p o) := by
  refine ⟨g.t, fun b u hb h1 h2 e => ?_, fun P hP => ?_, fun b hb e => ?_⟩
  · rw [upd_ne (fun z => by rcases h with h | h | h; · rw [← z, e] at h; cases h
                            · exact h1 (z.trans h)
                            · exact h2 (z.trans h))]
    exact g.k b u hb h1 h2 e
  · obtain ⟨ps, e, ht⟩ := g.t' P hP
    exact ⟨ps, by rw [upd_ne (show P ≠ p from fun z => m (z ▸ hP))]; exact e, ht⟩
  · by_cases z : b = p
    · rw [z, upd_same]
      simp
    · rw [upd_ne z]
      exact g.s b hb e
/-- a deck -/
def dkv (l : Addr) (mx n : Int) : List (Key × V) := [(.inr "left", .ref l), (.inr "mixed", .int mx), (.inr "draws", .int n)]
structure Dk (H : Hp) (d l : Addr) (mx n : Int) (cs : List Int) : Prop where
  hd : H d = some (.dK (dkv l mx n))
  m0 : 0 ≤ mx
  m1 : mx < 2147483648
  hl : H l = some (.lst (cs.map V.int))
  hz : cs.length ≤ 64
def Deck (H : Hp) (d l : Addr) : Prop := ∃ mx n cs, Dk H d l mx n cs
theorem Deck.up {Ts : List Addr} {H H' : Hp} {d l : Addr} (g : Gr Ts H H') (h : Deck H d l) : Deck H' d l := by
  obtain ⟨mx, n, cs, h⟩ := h
  exact ⟨mx, n, cs, g.get h.hd, h.m0, h.m1, g.get h.hl, h.hz⟩
theorem Deck.nd {H : Hp} {d l a : Addr} {xs : List V} (h : Deck H d l) (e : H a = some (.tup xs)) : a ≠ d ∧ a ≠ l := by
  obtain ⟨mx, n, cs, h⟩ := h
  exact ⟨ne_of e h.hd (by intro z; cases z), ne_of e h.hl (by intro z; cases z)⟩
theorem Deck.nf {H : Hp} {d l a : Addr} (h : Deck H d l) (e : H a = none) : a ≠ d ∧ a ≠ l := by
  obtain ⟨mx, n, cs, h⟩ := h
  exact ⟨fun z => (by rw [z, h.hd] at e; cases e), fun z => (by rw [z, h.hl] at e; cases e)⟩
theorem Dk.ne {H : Hp} {d l : Addr} {mx n : Int} {cs : List Int} (h : Dk H d l mx n cs) : d ≠ l := ne_of h.hd h.hl (by intro z; cases z)
theorem dkv_left (l : Addr) (mx n : Int) : valV (dkv l mx n) (.inr "left") = some (.ref l) := by rfl
theorem dkv_mixed (l : Addr) (mx n : Int) : valV (dkv l mx n) (.inr "mixed") = some (.int mx) := by rfl
theorem dkv_draws (l : Addr) (mx n : Int) : valV (dkv l mx n) (.inr "draws") = some (.int n) := by rfl
theorem dkv_putD (l : Addr) (mx n m : Int) : putK (dkv l mx n) (.inr "draws") (.int m) = dkv l mx m := by rfl
theorem dkv_putM (l : Addr) (mx n m : Int) : putK (dkv l mx n) (.inr "mixed") (.int m) = dkv l m n := by rfl
def dL (cs : List Int) : PyData := .list (cs.map PyData.int)
theorem dpAll_ints {K : PySem.W.Frag} {H : Hp} : ∀ l : List Int, DpAll K H (l.map V.int) (l.map PyData.int)
  | [] => .nil
  | n :: r => .cons (.int _) (dpAll_ints r)
theorem shapedI : ∀ l : List Int, PyData.canLayAll0 (l.map PyData.int) = true ∧ PyData.depthAll (l.map PyData.int) = 0
  | [] => ⟨by simp [PyData.canLayAll0], by simp [PyData.depthAll]⟩
  | x :: r => by
    obtain ⟨a, b⟩ := shapedI r
    rw [List.map_cons, PyData.canLayAll0, PyData.depthAll, a, b]
    simp [PyData.canLay0, PyData.depth]
theorem shaped_dL (l : List Int) : SeqAt.shaped (dL l) = true := by
  obtain ⟨a, b⟩ := shapedI l
  unfold SeqAt.shaped dL
  rw [PyData.canLay0, PyData.depth, a, b]
  decide
theorem eqv_dL (l : List Int) : PyData.eqv (dL l) (dL []) = decide (l = []) := by
  unfold dL
  cases l with
  | nil => simp [PyData.eqv, PyData.eqvAll]
  | cons x r => simp [PyData.eqv, PyData.eqvAll]
theorem Dk.gL {H : Hp} {d l : Addr} {mx n : Int} {cs : List Int} (D : Dk H d l mx n cs) : DGet H d (.str "left") (some (.ref l)) := DGet.k (k := .inr "left") D.hd
theorem Dk.gM {H : Hp} {d l : Addr} {mx n : Int} {cs : List Int} (D : Dk H d l mx n cs) : DGet H d (.str "mixed") (some (.int mx)) := DGet.k (k := .inr "mixed") D.hd
theorem Dk.gD {H : Hp} {d l : Addr} {mx n : Int} {cs : List Int} (D : Dk H d l mx n cs) : DGet H d (.str "draws") (some (.int n)) := DGet.k (k := .inr "draws") D.hd
theorem mod_b (x : Int) {m : Int} (h : 0 < m) : 0 ≤ x % m ∧ x % m < m := ⟨Int.emod_nonneg _ (by omega), Int.emod_lt_of_pos _ h⟩
theorem cm_mod (x : Int) {m j : Int} (h : 0 < m) (h2 : m ≤ 2 ^ 64) : CMul (x % m) j := .inl ⟨by have := mod_b x h; omega, by have := mod_b x h; omega⟩
section
variable {P : Program} {w : World} {K : PySem.W.Frag} {mg : Str → Option Value} {base : Heap} (W : Wd K mg base)
include W
/-! _law_draw -/
def sp39 (Ts : List Addr) : Sp := fun vs H Q _ => ∃ (d l : Addr) (many : Int), vs = [.ref d, .int many] ∧ Deck H d l ∧ 0 < many ∧ many < 2 ^ 60 ∧ TOk Ts H ∧ ∀ (r : Int) H', 0 ≤ r → r < many → GrD Ts d l H H' → Deck H' d l → Q (.int r) H'
theorem ok39 : FnOk P w K mg base CX0 1 W.a39 W.d39 ["deck", "many"] (sp39 W.Ts) := by
  refine W.D39.F.ok sc39 (fun vs H Q E h => ?_) fun cdv A outer s H vs Q E hr h => ?_
  · obtain ⟨d, l, many, rfl, _⟩ := h
    rfl
  · obtain ⟨d, l, many, rfl, ⟨mx, n, cs, D⟩, m0, m1, ht, k⟩ := h
    have hu := hu_of hr
    have hdne := D.ne
    have ndT := notTab' ht D.hd
    have nlT := notTab' ht D.hl
    refine ⟨_, pss_cons (ps_dput hu (pv 0) pe_str (pe_op op_add (pe_dget hu (pv 0) pe_str (fun _ _ => rfl)) pe_int) rfl)
      (Evl.pss_cut (ps_if (pt_cmpR (op_neD hr.units) (pe_dget hu (pv 0) pe_str (fun _ _ => rfl)) (pe_lst pa_nil) (nomark _))
        (pss_cons (ps_set (i := 2) sc39.nd rfl (.inl rfl) (pe_bm0 PySem.F.plainAttrs_list PySem.F.slot_list_pop PySem.F.type_list_pop mt_pop (pe_dget hu (pv 0) pe_str (fun _ _ => rfl))))
        (pss_cons (ps_if (pt_cmpR op_ge (pv 2) (pe_op op_pow pe_int pe_int) (nomark _))
          (pss_cons (ps_expr (pe_bm PySem.F.plainAttrs_list PySem.F.slot_list_append PySem.F.type_list_append mt_append (pe_dget hu (pv 0) pe_str (fun _ _ => rfl)) (pa_cons (pe_op op_fdivW (pv 2) (pe_callB (call_max2 rfl) (by rfl) W.m_max boot_max (pa_cons pe_int (pa_cons (pv 1) pa_nil)))) pa_nil)))
          (pss_one (ps_ret (pe_op op_mod (pe_callTy call_int1 (by rfl) W.m_int (by decide +kernel) (pa_cons (pv 2) pa_nil)) (pv 1))))) pss_nil)
        (pss_one (ps_dput hu (pv 0) pe_str (pe_op op_mod (pe_callTy call_int1 (by rfl) W.m_int (by decide +kernel) (pa_cons (pe_op op_add (pe_op op_add (pe_op op_mul (pe_dget hu (pv 0) pe_str (fun _ _ => rfl)) pe_int) (pe_op op_mod (pe_callTy call_int1 (by rfl) W.m_int (by decide +kernel) (pa_cons (pv 2) pa_nil)) pe_int)) pe_int) pa_nil)) pe_int) rfl)))) pss_nil)
      (pss_cons (ps_set (i := 3) sc39.nd rfl (.inl rfl) (pe_op op_mod (pe_callTy call_int1 (by rfl) W.m_int (by decide +kernel) (pa_cons (pe_op op_add (pe_dget hu (pv 0) pe_str (fun _ _ => rfl)) (pe_op op_mul pe_int (pe_dget hu (pv 0) pe_str (fun _ _ => rfl)))) pa_nil)) pe_int))
      (pss_cons (ps_set (i := 3) sc39.nd rfl (.inl rfl) (pe_op op_mod (pe_callTy call_int1 (by rfl) W.m_int (by decide +kernel) (pa_cons (pe_op op_add (pe_op op_add (pe_op op_mul (pv 3) (pv 3)) (pe_op op_mul pe_int (pe_dget hu (pv 0) pe_str (fun _ _ => rfl)))) pe_int) pa_nil)) pe_int))
      (pss_cons (ps_set (i := 3) sc39.nd rfl (.inl rfl) (pe_op op_mod (pe_callTy call_int1 (by rfl) W.m_int (by decide +kernel) (pa_cons (pe_op op_add (pe_op op_mul (pv 3) pe_int) pe_int) pa_nil)) pe_int))
      (pss_one (ps_ret (pe_op op_mod (pe_callTy call_int1 (by rfl) W.m_int (by decide +kernel) (pa_cons (pe_op op_fdiv (pv 3) pe_int) pa_nil)) (pv 1)))))))), ?_⟩
    refine ⟨_, rfl, d, _, rfl, D.gD, _, _, rfl, rfl, _, rfl, d, _, rfl, DPut.k (k := .inr "draws") D.hd (by show 3 < sizeLine; decide), ?_⟩
    rw [dkv_putD]
    have g1 : GrD W.Ts d l H (upd H d (.dK (dkv l mx (n + 1)))) := (GrD.refl ht).mut (.inr (.inl rfl)) ndT
    have D1 : Dk (upd H d (.dK (dkv l mx (n + 1)))) d l mx (n + 1) cs := ⟨upd_same, D.m0, D.m1, by rw [upd_ne hdne.symm]; exact D.hl, D.hz⟩
    generalize upd H d (.dK (dkv l mx (n + 1))) = H1 at g1 D1 ⊢
    refine ⟨fun σ H' => ∃ v2, σ = [some (.ref d), some (.int many), v2, none] ∧ GrD W.Ts d l H H' ∧ Deck H' d l, ?_, fun σ H' h' => ?_⟩
    · refine ⟨_, rfl, d, _, rfl, D1.gL, by show 0 ≤ sizeLine; decide, fun p hp => ?_⟩
      have pd : p ≠ d := fun z => by rw [z, D1.hd] at hp; cases hp
      have pl : p ≠ l := fun z => by rw [z, D1.hl] at hp; cases hp
      have g2 : GrD W.Ts d l H (upd H1 p (.lst [])) := g1.new hp
      have D2 : Dk (upd H1 p (.lst [])) d l mx (n + 1) cs := ⟨by rw [upd_ne pd.symm]; exact D1.hd, D1.m0, D1.m1, by rw [upd_ne pl.symm]; exact D1.hl, D1.hz⟩
      refine ⟨dL cs, dL [], .lst (.inl (.inl D2.hl)) (dpAll_ints cs), .lst (.inl (.inl upd_same)) .nil, shaped_dL _, shaped_dL _, ?_⟩
      generalize upd H1 p (.lst []) = H2 at g2 D2 ⊢
      rw [eqv_dL]
      by_cases hc : cs = []
      · exact ⟨false, by rw [decide_eq_true hc]; rfl, iteF ⟨_, rfl, g2, mx, _, cs, D2⟩⟩
      · refine ⟨true, by rw [decide_eq_false hc]; rfl, iteT ?_⟩
        have hpos : 0 < cs.length := List.length_pos_iff.mpr hc
        have hlast : (cs.map V.int)[(cs.map V.int).length - 1]? = some (.int (cs.getLast hc)) := by
          rw [List.getElem?_map, List.length_map, List.getLast_eq_getElem, List.getElem?_eq_getElem (by omega)]
          rfl
        refine ⟨_, rfl, d, _, rfl, D2.gL, .inl ⟨rfl, _, .inl (.inl D2.hl)⟩, l, _, _, rfl, rfl, D2.hl, hlast, ?_⟩
        have e1 : (cs.map V.int).dropLast = cs.dropLast.map V.int := by rw [List.map_dropLast]
        rw [e1]
        have g3 : GrD W.Ts d l H (upd H2 l (.lst (cs.dropLast.map V.int))) := g2.mut (.inr (.inr rfl)) nlT
        have D3 : Dk (upd H2 l (.lst (cs.dropLast.map V.int))) d l mx (n + 1) cs.dropLast := ⟨by rw [upd_ne hdne]; exact D2.hd, D2.m0, D2.m1, upd_same, by rw [List.length_dropLast]; have := D2.hz; omega⟩
        generalize upd H2 l (.lst (cs.dropLast.map V.int)) = H3 at g3 D3 ⊢
        generalize cs.getLast hc = cell
        refine ⟨_, rfl, _, _, rfl, rfl, ⟨by decide, by decide, by decide⟩, _, _, rfl, rfl, _, rfl, ?_⟩
        by_cases hb : cell ≥ (10 : Int) ^ (18 : Int).toNat
        · rw [decide_eq_true hb]
          refine iteT ?_
          have hm2 : (0 : Int) < (if many > 2 then many else 2) := by split <;> omega
          have hm3 : (if many > 2 then many else 2) < (2 : Int) ^ 60 := by split; exact m1; decide
          refine ⟨_, rfl, d, _, rfl, D3.gL, .inl ⟨rfl, _, .inl (.inl D3.hl)⟩, _, rfl, _, rfl, _, _, rfl, _, _, rfl, rfl, wide_div (b := 60) hm2 (by omega) (by decide) (by decide), l, _, _, rfl, rfl, D3.hl, ?_, ?_⟩
          · rw [List.length_map]
            have := D3.hz
            exact small_lt (by omega)
          · have e2 : ∀ q : Int, cs.dropLast.map V.int ++ [V.int q] = (cs.dropLast ++ [q]).map V.int := fun q => by rw [List.map_append]; rfl
            rw [e2]
            refine ⟨_, rfl, .inl ⟨_, rfl, _, rfl, _, _, rfl, rfl, m0, ?_⟩⟩
            obtain ⟨b1, b2⟩ := mod_b cell m0
            refine k _ _ b1 b2 (g3.mut (.inr (.inr rfl)) nlT) ⟨mx, n + 1, _, by rw [upd_ne hdne]; exact D3.hd, D3.m0, D3.m1, upd_same, ?_⟩
            rw [List.length_append, List.length_dropLast]
            have := D2.hz
            simp only [List.length_cons, List.length_nil]
            omega
        · rw [decide_eq_false hb]
          refine iteF ?_
          have hm0 := D3.m0
          have hm1 := D3.m1
          refine ⟨_, rfl, d, _, rfl, D3.gM, _, _, rfl, rfl, .inl ⟨by omega, by omega⟩, _, rfl, .inl ⟨_, rfl, _, _, rfl, rfl, (by show (0 : Int) < 2147483629; decide), _, _, rfl, rfl, _, _, rfl, rfl, .inl ⟨_, rfl, _, _, rfl, rfl, (by show (0 : Int) < 2147483587; decide), _, rfl, d, _, rfl, DPut.k (k := .inr "mixed") D3.hd (by show 3 < sizeLine; decide), ?_⟩⟩⟩
          rw [dkv_putM]
          obtain ⟨b1, b2⟩ := mod_b (mx * 39373 + cell % 2147483629 + 53) (m := 2147483587) (by decide)
          refine ⟨_, rfl, g3.mut (.inr (.inl rfl)) ndT, _, n + 1, cs.dropLast, upd_same, b1, by omega, by rw [upd_ne hdne.symm]; exact D3.hl, D3.hz⟩
    · obtain ⟨v2, rfl, g, mx, n, cs, D⟩ := h'
      have hm0 := D.m0
      have hm1 := D.m1
      have ps : ∀ {m : Nat}, 0 < m → (0 : Int) < (m : Nat) := fun h => by omega
      refine ⟨_, rfl, d, _, rfl, D.gM, _, rfl, d, _, rfl, D.gD, _, _, rfl, rfl, .inl ⟨by decide, by decide⟩, _, _, rfl, rfl, .inl ⟨_, rfl, _, _, rfl, rfl, (by show (0 : Int) < 2147483647; decide), ?_⟩⟩
      refine ⟨_, rfl, _, rfl, _, _, rfl, rfl, cm_mod _ (by decide) (by decide), _, rfl, d, _, rfl, D.gD, _, _, rfl, rfl, .inl ⟨by decide, by decide⟩, _, _, rfl, rfl, _, _, rfl, rfl, .inl ⟨_, rfl, _, _, rfl, rfl, (by show (0 : Int) < 2147483629; decide), ?_⟩⟩
      refine ⟨_, rfl, _, _, rfl, rfl, cm_mod _ (by decide) (by decide), _, _, rfl, rfl, .inl ⟨_, rfl, _, _, rfl, rfl, (by show (0 : Int) < 2147483563; decide), ?_⟩⟩
      exact ⟨_, rfl, _, _, rfl, rfl, ⟨by decide, by decide⟩, .inl ⟨_, rfl, _, rfl, _, _, rfl, rfl, m0, k _ _ (mod_b _ m0).1 (mod_b _ m0).2 g ⟨mx, n, cs, D⟩⟩⟩
end
end Zk
set_option Elab.async false
set_option linter.all false
set_option maxRecDepth 100000
set_option maxHeartbeats 4000000
namespace Zk
open PySem PySem.Spec PyProof.Rows L2 GxR Zn Zm
theorem Gr.sq {K : PySem.W.Frag} {Ts : List Addr} {H H' : Hp} (g : Gr Ts H H') {a : Addr} {xs : List V} (h : SqL K H a xs) : SqL K H' a xs := by
  rcases h with (h | ⟨o, h⟩) | h
  · exact .inl (.inl (g.get h))
  · exact .inl (.inr ⟨o, g.get h⟩)
  · exact .inr h
theorem cutV_ints (ns : List Int) (lo hi : Option Int) : ∃ cs : List Int, cutV (ns.map V.int) lo hi = cs.map V.int ∧ cs.length ≤ ns.length := by
  unfold cutV
  refine ⟨(ns.drop (HT.sIx (ns.map V.int).length 0 lo)).take (HT.sIx (ns.map V.int).length (ns.map V.int).length hi - HT.sIx (ns.map V.int).length 0 lo), by rw [List.map_take, List.map_drop], ?_⟩
  rw [List.length_take, List.length_drop]
  omega
def sg1 (R : List Nat) : List V := R.map fun c => V.str ⟨#[c]⟩
theorem sg1_svs (R : List Nat) : sg1 R = svs (R.map fun c => [c]) := by
  unfold sg1 svs
  rw [List.map_map]
  rfl
theorem sg1_len (R : List Nat) : (sg1 R).length = R.length := List.length_map _
theorem sg1_get {R : List Nat} {k : Nat} (h : k < R.length) : (sg1 R)[k]? = some (.str (sv [R[k]])) := by
  unfold sg1
  rw [List.getElem?_map, List.getElem?_eq_getElem h]
  rfl
theorem sg1_erase : ∀ (R : List Nat) (k : Nat), (sg1 R).eraseIdx k = sg1 (R.eraseIdx k)
  | [], k => by simp [sg1]
  | x :: r, 0 => rfl
  | x :: r, k + 1 => by
    show _ :: (sg1 r).eraseIdx k = _ :: sg1 (r.eraseIdx k)
    rw [sg1_erase r k]
theorem erase_perm : ∀ (R : List Nat) (k : Nat) (h : k < R.length), (R[k] :: R.eraseIdx k).Perm R
  | x :: r, 0, h => List.Perm.refl _
  | x :: r, k + 1, h => (List.Perm.swap x (r[k]'(Nat.lt_of_succ_lt_succ h)) (r.eraseIdx k)).trans ((erase_perm r k (Nat.lt_of_succ_lt_succ h)).cons x)
section
variable {P : Program} {w : World} {K : PySem.W.Frag} {mg : Str → Option Value} {base : Heap} (W : Wd K mg base)
include W
/-! _law_deck -/
def sp38 (K : PySem.W.Frag) (Ts : List Addr) : Sp := fun vs H Q _ => ∃ (a : Addr) (ns : List Int) (seed : Int), vs = [.ref a, .int seed] ∧ SqL K H a (ns.map V.int) ∧ ns.length ≤ 63 ∧ 0 ≤ seed ∧ seed < 2147483648 ∧ TOk Ts H ∧ ∀ d l H', Gr Ts H H' → H d = none → H l = none → Deck H' d l → Q (.ref d) H'
theorem ok38 : FnOk P w K mg base CX0 1 W.a38 W.d38 ["script", "seed"] (sp38 K W.Ts) := by
  refine W.D38.F.ok sc38 (fun vs H Q E h => ?_) fun cdv A outer s H vs Q E hr h => ?_
  · obtain ⟨a, ns, seed, rfl, _⟩ := h
    rfl
  · obtain ⟨a, ns, seed, rfl, hs, nl, s0, s1, ht, k⟩ := h
    refine ⟨_, pss_cons (ps_set (i := 2) sc38.nd rfl (.inl rfl) (pv 1))
      (pss_cons (ps_for PassesOwn.never rfl (pi_list (pe_slice sl_list (pv 0) po_none (po_some pe_int))) (pg_name (i := 3) sc38.nd rfl (.inl rfl))
        (pss_one (ps_set (i := 2) sc38.nd rfl (.inl rfl) (pe_op op_mod (pe_callTy call_int1 (by rfl) W.m_int (by decide +kernel) (pa_cons (pe_op op_add (pe_op op_add (pe_op op_mul (pv 2) pe_int) (pe_op op_mod (pe_callTy call_int1 (by rfl) W.m_int (by decide +kernel) (pa_cons (pv 3) pa_nil)) pe_int)) pe_int) pa_nil)) pe_int))))
      (pss_one (ps_ret (pe_disp (pps_cons pe_str (pe_revL (pe_callTy call_list_of (by rfl) W.m_list (by decide +kernel) (pa_cons (pe_slice sl_list (pv 0) po_none (po_some pe_int)) pa_nil))) (pps_cons pe_str (pv 2) (pps_cons pe_str pe_int pps_nil))) (by rfl) (by rfl) (fun z => by cases z) (by decide))))), ?_⟩
    obtain ⟨cs, ec, lc⟩ := cutV_ints ns none (some 63)
    refine ⟨_, rfl, _, rfl, _, rfl, a, _, rfl, hs, fun p hp => ?_⟩
    rw [ec]
    have g1 : Gr W.Ts H (upd H p (.lst (cs.map V.int))) := (Gr.refl ht).new hp
    refine ⟨p, rfl, ⟨_, .inl (.inl upd_same)⟩, for_it (walk_list (xs := cs.map V.int)) (fun i σ H1 => ∃ mx v3, σ = [some (.ref a), some (.int seed), some (.int mx), v3] ∧ 0 ≤ mx ∧ mx < 2147483648 ∧ Gr W.Ts H H1 ∧ H1 p = some (.lst (cs.map V.int))) ⟨seed, none, rfl, s0, s1, g1, upd_same⟩ (fun i σ H1 _ h1 => ?_) (fun i x σ H1 H2 hi h1 y => ?_) fun σ H1 h1 => ?_⟩
    · obtain ⟨_, _, _, _, _, _, g⟩ := h1
      exact .inl (.inl g)
    · obtain ⟨mx, v3, rfl, m0, m1, g, hp2⟩ := h1
      obtain ⟨rfl, hx⟩ := y
      rw [List.getElem?_map] at hx
      rw [List.length_map] at hi
      rw [List.getElem?_eq_getElem hi] at hx
      cases hx
      refine ⟨_, rfl, _, _, rfl, rfl, .inl ⟨by omega, by omega⟩, _, rfl, .inl ⟨_, rfl, _, _, rfl, rfl, (by show (0 : Int) < 2147483629; decide), _, _, rfl, rfl, _, _, rfl, rfl, .inl ⟨_, rfl, _, _, rfl, rfl, (by show (0 : Int) < 2147483563; decide), ?_⟩⟩⟩
      have b1 := mod_b (mx * 47293 + cs[i] % 2147483629 + 61) (m := 2147483563) (by decide)
      exact ⟨_, _, rfl, b1.1, by omega, g, hp2⟩
    · obtain ⟨mx, v3, rfl, m0, m1, g, hp2⟩ := h1
      refine fun d hd => ?_
      have hs2 := ((g.new (o := .dK []) hd).sq hs)
      refine ⟨_, rfl, _, rfl, a, _, rfl, hs2, fun p1 hp1 => ?_⟩
      rw [ec]
      refine ⟨p1, _, rfl, .inl (.inl (.inl upd_same)), fun p2 hp2 => ⟨p2, _, rfl, .inl (.inl upd_same), fun l hl => ?_⟩⟩
      have g2 := (((g.new (o := .dK []) hd).new (o := .lst (cs.map V.int)) hp1).new (o := .lst (cs.map V.int)) hp2).new (o := .lst (cs.map V.int).reverse) hl
      refine ⟨_, rfl, ?_⟩
      have n1 : d ≠ p1 := fun z => by rw [← z, upd_same] at hp1; cases hp1
      have n2 : d ≠ p2 := fun z => by rw [← z, upd_ne n1, upd_same] at hp2; cases hp2
      have n3 : d ≠ l := fun z => by rw [← z, upd_ne n2, upd_ne n1, upd_same] at hl; cases hl
      refine ⟨by rw [upd_ne n3, upd_ne n2, upd_ne n1]; exact upd_same, [(.inr "left", .ref l), (.inr "mixed", .int mx), (.inr "draws", .int 0)], rfl, by show 3 ≤ 15; decide, ?_⟩
      have hd0 := g.free hd
      refine k d l _ (g2.mut hd0 (notTab ht hd0)) hd0 (((g.new (o := .dK []) hd).new (o := .lst (cs.map V.int)) hp1 |>.new (o := .lst (cs.map V.int)) hp2).free hl) ⟨mx, 0, cs.reverse, upd_same, m0, m1, ?_, ?_⟩
      · rw [upd_ne n3.symm, upd_same, List.map_reverse]
      · rw [List.length_reverse]
        omega
/-! _law_pick -/
def sp40 (Ts : List Addr) : Sp := fun vs H Q _ => ∃ (d l p : Addr) (xs : List V), vs = [.ref d, .ref p] ∧ Deck H d l ∧ H p = some (.lst xs) ∧ p ≠ d ∧ p ≠ l ∧ 0 < xs.length ∧ xs.length ≤ 1000 ∧ TOk Ts H ∧ ∀ v H', v ∈ xs → GrD Ts d l H H' → Deck H' d l → Q v H'
theorem ok40 : FnOk P w K mg base CX0 2 W.a40 W.d40 ["deck", "some"] (sp40 W.Ts) := by
  refine W.D40.F.ok sc40 (fun vs H Q E h => ?_) fun cdv A outer s H vs Q E hr h => ?_
  · obtain ⟨d, l, p, xs, rfl, _⟩ := h
    rfl
  · obtain ⟨d, l, p, xs, rfl, D, hp, n1, n2, x0, x1, ht, k⟩ := h
    refine ⟨_, pss_one (ps_ret (pe_ix ix_list (pv 1) (pe_call (ok39 W) hr (by rfl) W.D39.g W.D39.kp W.D39.b .nil pass0 (pa_cons (pv 0) (pa_cons (pe_callB call_len_seq (by rfl) W.m_len PySem.boot_len (pa_cons (pv 1) pa_nil)) pa_nil))) (fun _ _ => rfl))), ?_⟩
    refine ⟨_, rfl, _, rfl, _, rfl, p, _, rfl, .inl (.inl (.inl hp)), d, l, _, rfl, D, by omega, by omega, ht, fun r H1 r0 r1 g D1 => ?_⟩
    obtain ⟨i, rfl⟩ := Int.eq_ofNat_of_zero_le r0
    have hi : i < xs.length := by omega
    exact ⟨p, xs, _, xs[i], rfl, rfl, .inl (.inl (g.get hp n1 n2)), atI_nat (List.getElem?_eq_getElem hi), k _ H1 (List.getElem_mem hi) g D1⟩
/-! _law_pieces -/
theorem ok41 : FnOk P w K mg base CX0 1 W.a41 W.d41 ["letters", "merges"] (sp34 W.Ts) := by
  refine W.D41.F.ok sc41 (fun vs H Q E h => ?_) fun cdv A outer s H vs Q E hr h => ?_
  · obtain ⟨L, m, M, rfl, _⟩ := h
    rfl
  · obtain ⟨L, m, M, rfl, hm, l6, m10, ok, sh, ht, k⟩ := h
    obtain ⟨rs, hm1, hm2, hm3⟩ := id hm
    refine ⟨_, pss_cons (ps_set (i := 2) sc41.nd rfl (.inl rfl) (pe_op op_cat (pe_lst (pa_cons pe_str pa_nil)) (pe_callTy (cr_listS hr.hd) (by rfl) W.m_list (by decide +kernel) (pa_cons (pv 0) pa_nil))))
      (pss_cons (ps_for PassesOwn.never rfl (pi_tup (pv 1)) (pg_tup rfl (pgs_cons (pg_name (i := 3) sc41.nd rfl (.inl rfl)) (pgs_cons (pg_name (i := 4) sc41.nd rfl (.inl rfl)) pgs_nil)))
        (pss_one (ps_expr (pe_bm PySem.F.plainAttrs_list PySem.F.slot_list_append PySem.F.type_list_append mt_append (pv 2) (pa_cons (pe_op op_add_str (pe_ix ix_list (pv 2) (pv 3) (fun _ _ => rfl)) (pe_ix ix_list (pv 2) (pv 4) (fun _ _ => rfl))) pa_nil)))))
      (pss_one (ps_ret (pv 2)))), ?_⟩
    have hL : L.cps.size = (lt L).length := by simp
    refine ⟨by show 1 ≤ sizeLine; decide, fun p1 hp1 => ⟨_, rfl, L, rfl, by rw [hL]; exact Nat.le_trans l6 (by decide), fun p2 hp2 => ?_⟩⟩
    have n12 : p1 ≠ p2 := fun z => by rw [← z, upd_same] at hp2; cases hp2
    refine ⟨p1, p2, [.str ""], Zn.signs L, rfl, rfl, by rw [upd_ne n12]; exact upd_same, upd_same, by rw [List.length_cons, List.length_nil, Zn.signs_length, hL]; exact Nat.le_trans (Nat.add_le_add_left l6 _) (by decide), fun p hp => ?_⟩
    have g12 : Gr W.Ts H (upd (upd H p1 (.lst [.str ""])) p2 (.lst (Zn.signs L))) := ((Gr.refl ht).new hp1).new hp2
    have e0 : ([V.str ""] ++ Zn.signs L) = svs (pcs (lt L) []) := by
      rw [signs_svs, pcs_nil]
      rfl
    rw [e0]
    have g0 := g12.new (o := .lst (svs (pcs (lt L) []))) hp
    have hpH := g12.free hp
    have npT := notTab ht hpH
    refine ⟨_, rfl, m, rfl, ⟨_, .inl (.inl (g0.get hm1))⟩, for_it (walk_tup (xs := rs.map V.ref)) (fun i σ H1 => ∃ v3 v4, σ = [some (.str L), some (.ref m), some (.ref p), v3, v4] ∧ Gr W.Ts H H1 ∧ H1 p = some (.lst (svs (pcs (lt L) (M.take i))))) ⟨none, none, rfl, g0, upd_same⟩ (fun i σ H1 _ h1 => ?_) (fun i x σ H1 H2 hi h1 y => ?_) fun σ H1 h1 => ?_⟩
    · obtain ⟨_, _, _, g, _⟩ := h1
      exact .inl (.inl (g.get hm1))
    · obtain ⟨v3, v4, rfl, g, hpl⟩ := h1
      obtain ⟨rfl, hx⟩ := y
      rw [List.length_map] at hi
      have hiM : i < M.length := by omega
      rw [List.getElem?_map, List.getElem?_eq_getElem hi] at hx
      cases hx
      have hr1 := g.get (hm3 i rs[i] M[i] (List.getElem?_eq_getElem hi) (List.getElem?_eq_getElem hiM))
      obtain ⟨b1, b2⟩ := okM_take ok hiM
      have hpl' : (pcs (lt L) (M.take i)).length = 1 + (lt L).length + i := by rw [pcs_length, List.length_take]; omega
      have s1 := piece_le W sh M[i].1
      have s2 := piece_le W sh M[i].2
      rw [pcs_get (k := i) (by omega) b1] at s1
      rw [pcs_get (k := i) (by omega) b2] at s2
      have i1 := svs_get (ps := pcs (lt L) (M.take i)) (i := M[i].1) (by rw [hpl']; exact b1)
      have i2 := svs_get (ps := pcs (lt L) (M.take i)) (i := M[i].2) (by rw [hpl']; exact b2)
      have e9 : svs (pcs (lt L) (M.take i)) ++ [V.str (sv ((pcs (lt L) (M.take i)).getD M[i].1 []) ++ sv ((pcs (lt L) (M.take i)).getD M[i].2 []))] = svs (pcs (lt L) (M.take (i + 1))) := by
        rw [pcs_take (lt L) M i hiM, sv_app]
        unfold svs stepP
        rw [List.map_append]
        rfl
      refine ⟨rs[i], _, rfl, .inl (.inl hr1), rfl, _, _, rfl, _, _, rfl, rfl, ?_⟩
      refine ⟨_, rfl, .inl ⟨rfl, _, .inl (.inl hpl)⟩, _, rfl, _, rfl, p, _, _, _, rfl, rfl, .inl (.inl hpl), atI_nat i1, _, rfl, _, rfl, p, _, _, _, rfl, rfl, .inl (.inl hpl), atI_nat i2, _, _, rfl, rfl, small_le (by rw [sv_len, sv_len]; omega),
        p, _, _, rfl, rfl, hpl, small_lt (by rw [svs_length, hpl']; omega), _, _, rfl, g.mut hpH npT, ?_⟩
      rw [e9]
      exact upd_same
    · obtain ⟨v3, v4, rfl, g, hpl⟩ := h1
      rw [List.length_map, hm2, List.take_length] at hpl
      exact ⟨_, rfl, k p H1 g hpH hpl⟩
/-! _law_letters -/
def abc : List Nat := [97, 98, 99, 120, 121, 122]
def LOk (F : List Nat) (most : Nat) : Prop := (∀ c ∈ F, 97 ≤ c ∧ c ≤ 122) ∧ F.Nodup ∧ 1 ≤ F.length ∧ F.length ≤ most
def sp42 (Ts : List Addr) : Sp := fun vs H Q _ => ∃ (d l : Addr) (most : Nat), vs = [.ref d, .int (most : Nat)] ∧ Deck H d l ∧ 0 < most ∧ most ≤ 6 ∧ TOk Ts H ∧ ∀ F H', LOk F most → GrD Ts d l H H' → Deck H' d l → Q (.str (sv F)) H'
theorem ok42 : FnOk P w K mg base CX0 2 W.a42 W.d42 ["deck", "most"] (sp42 W.Ts) := by
  refine W.D42.F.ok sc42 (fun vs H Q E h => ?_) fun cdv A outer s H vs Q E hr h => ?_
  · obtain ⟨d, l, most, rfl, _⟩ := h
    rfl
  · obtain ⟨d, l, most, rfl, D, m0, m6, ht, k⟩ := h
    refine ⟨_, pss_cons (ps_par (i := 2) (j := 3) (by rfl) sc42.nd rfl rfl (by decide) rfl rfl (pa_cons (pe_callTy (cr_listS hr.hd) (by rfl) W.m_list (by decide +kernel) (pa_cons pe_str pa_nil)) (pa_cons pe_str pa_nil)) (by rfl))
      (pss_cons (ps_for PassesOwn.never rfl (pi_range1 (by rfl) W.m_range (pa_cons (pe_op op_add pe_int (pe_call (ok39 W) hr (by rfl) W.D39.g W.D39.kp W.D39.b .nil pass0 (pa_cons (pv 0) (pa_cons (pv 1) pa_nil)))) pa_nil)) (pg_name (i := 4) sc42.nd rfl (.inl rfl))
        (pss_one (ps_set (i := 3) sc42.nd rfl (.inl rfl) (pe_op op_add_str (pv 3) (pe_bm PySem.F.plainAttrs_list PySem.F.slot_list_pop PySem.F.type_list_pop mt_popAt (pv 2) (pa_cons (pe_call (ok39 W) hr (by rfl) W.D39.g W.D39.kp W.D39.b .nil pass0 (pa_cons (pv 0) (pa_cons (pe_callB call_len_seq (by rfl) W.m_len PySem.boot_len (pa_cons (pv 2) pa_nil)) pa_nil))) pa_nil))))))
      (pss_one (ps_ret (pv 3)))), ?_⟩
    refine ⟨"abcxyz", rfl, by decide, fun q hq => ⟨_, _, rfl, ?_⟩⟩
    obtain ⟨nd, nl⟩ := D.nf hq
    have g0 : Gr W.Ts H (upd H q (.lst (Zn.signs "abcxyz"))) := (Gr.refl ht).new hq
    refine ⟨_, rfl, _, rfl, d, l, _, rfl, D.up g0, by omega, by omega, g0.t', fun r H1 r0 r1 g1 D1 => ⟨_, _, rfl, rfl, _, rfl, by omega, by omega, ?_⟩⟩
    obtain ⟨rr, rfl⟩ := Int.eq_ofNat_of_zero_le r0
    have hrr : (1 + (rr : Int)).toNat = rr + 1 := by omega
    refine for_it walk_range (fun i σ H2 => ∃ R F v4, σ = [some (.ref d), some (.int (most : Nat)), some (.ref q), some (.str (sv F)), v4] ∧ GrD W.Ts d l H H2 ∧ Deck H2 d l ∧ H2 q = some (.lst (sg1 R)) ∧ F.length = i ∧ (F ++ R).Perm abc)
      ⟨abc, [], none, rfl, g0.D.tr g1, D1, g1.get upd_same nd nl, rfl, List.Perm.refl _⟩ (fun _ _ _ _ _ => trivial) (fun i x σ H2 H3 hi h1 y => ?_) fun σ H2 h1 => ?_
    · obtain ⟨R, F, v4, rfl, g, D2, hq2, hF, hp⟩ := h1
      obtain ⟨rfl, rfl⟩ := y
      rw [hrr] at hi
      have hlen : F.length + R.length = 6 := by
        have := hp.length_eq
        rw [List.length_append] at this
        exact this
      refine ⟨_, rfl, _, rfl, .inl ⟨rfl, _, .inl (.inl hq2)⟩, _, rfl, _, rfl, q, _, rfl, .inl (.inl (.inl hq2)), d, l, _, rfl, D2, ?_, ?_, g.t', fun k2 H4 k0 k1 g4 D4 => ?_⟩
      · rw [sg1_len]
        omega
      · rw [sg1_len]
        omega
      · obtain ⟨kk, rfl⟩ := Int.eq_ofNat_of_zero_le k0
        rw [sg1_len] at k1
        have hk : kk < R.length := by omega
        have hq4 := g4.get hq2 nd nl
        refine ⟨q, _, _, kk, _, rfl, rfl, hq4, by omega, by omega, ?_, sg1_get hk, _, _, rfl, rfl, small_le (by rw [sv_len, sv_len]; simp only [List.length_cons, List.length_nil]; omega), ?_⟩
        · have := StrLaws.seqIndex_nonneg (i := (kk : Nat)) (n := (sg1 R).length) (by omega) (by rw [sg1_len]; omega)
          rw [this]
          rfl
        · refine ⟨R.eraseIdx kk, F ++ [R[kk]], some (.int (0 + (i : Nat))), ?_, (g.tr g4).mut (.inl hq) (notTab ht hq), ?_, ?_, ?_, ?_⟩
          · rw [sv_app]
            rfl
          · obtain ⟨mx, n, cs, E⟩ := D4
            exact ⟨mx, n, cs, by rw [upd_ne nd.symm]; exact E.hd, E.m0, E.m1, by rw [upd_ne nl.symm]; exact E.hl, E.hz⟩
          · rw [sg1_erase]
            exact upd_same
          · rw [List.length_append, hF]
            rfl
          · rw [List.append_assoc]
            exact ((erase_perm R kk hk).append_left F).trans hp
    · obtain ⟨R, F, v4, rfl, g, D2, hq2, hF, hp⟩ := h1
      rw [hrr] at hF
      refine ⟨_, rfl, k F H2 ⟨fun c hc => ?_, ?_, by omega, by omega⟩ g D2⟩
      · have h1 : c ∈ abc := hp.mem_iff.mp (List.mem_append_left _ hc)
        revert h1
        have : ∀ c ∈ abc, 97 ≤ c ∧ c ≤ 122 := by decide
        exact this c
      · have h2 : (F ++ R).Nodup := hp.nodup_iff.mpr (by decide)
        exact (List.nodup_append.mp h2).1
end
end Zk
set_option Elab.async false
set_option linter.all false
set_option maxRecDepth 100000
set_option maxHeartbeats 4000000
namespace Zk
open PySem PySem.Spec PyProof.Rows L2 GxR Zn Zm
theorem iteC {A B : Prop} {c : Bool} (h1 : c = true → A) (h2 : c = false → B) : if c = true then A else B := by
  cases c with
  | true => exact iteT (h1 rfl)
  | false => exact iteF (h2 rfl)
theorem cutS_sv (F : List Nat) (i j : Nat) : ∃ P : List Nat, cutS (sv F) (some (i : Nat)) (some (j : Nat)) = sv P ∧ (∀ c ∈ P, c ∈ F) ∧ P.length ≤ F.length := by
  refine ⟨_, rfl, fun c hc => ?_, ?_⟩
  · have h1 := List.mem_of_mem_drop (List.mem_of_mem_take hc)
    simpa [sv] using h1
  · rw [List.length_take, List.length_drop]
    show min _ (F.toArray.toList.length - _) ≤ _
    rw [Array.length_toList, List.size_toArray]
    omega
section
variable {P : Program} {w : World} {K : PySem.W.Frag} {mg : Str → Option Value} {base : Heap} (W : Wd K mg base)
include W
/-! _law_drawn_text -/
def sp44 (Ts : List Addr) : Sp := fun vs H Q _ => ∃ (d l : Addr) (L : List Nat), vs = [.ref d, .str (sv L), .int 40] ∧ Deck H d l ∧ 0 < L.length ∧ L.length ≤ 1000 ∧ TOk Ts H ∧ ∀ (F : List Nat) H', (∀ c ∈ F, c ∈ L) → F.length ≤ 40 → GrD Ts d l H H' → Deck H' d l → Q (.str (sv F)) H'
theorem ok44 : FnOk P w K mg base CX0 3 W.a44 W.d44 ["deck", "letters", "most"] (sp44 W.Ts) := by
  refine W.D44.F.ok sc44 (fun vs H Q E h => ?_) fun cdv A outer s H vs Q E hr h => ?_
  · obtain ⟨d, l, L, rfl, _⟩ := h
    rfl
  · obtain ⟨d, l, L, rfl, D, l0, l1, ht, k⟩ := h
    refine ⟨_, pss_cons (ps_set (i := 3) sc44.nd rfl (.inl rfl) pe_str)
      (pss_cons (ps_for PassesOwn.never rfl (pi_range1 (by rfl) W.m_range (pa_cons (pe_call (ok39 W) (hr.mono (by decide)) (by rfl) W.D39.g W.D39.kp W.D39.b .nil pass0 (pa_cons (pv 0) (pa_cons pe_int pa_nil))) pa_nil)) (pg_name (i := 4) sc44.nd rfl (.inl rfl))
        (pss_cons (ps_set (i := 5) sc44.nd rfl (.inl rfl) (pe_call (ok40 W) hr (by rfl) W.D40.g W.D40.kp W.D40.b .nil pass0 (pa_cons (pv 0) (pa_cons (pe_callTy (cr_listS hr.hd) (by rfl) W.m_list (by decide +kernel) (pa_cons (pv 1) pa_nil)) pa_nil))))
        (Evl.pss_cut (ps_if (PW.pt (pw_and (pt_cmpR op_ne (pv 3) pe_str (nomark _)) (pw_and1 (pt_cmpR op_eq (pe_call (ok39 W) (hr.mono (by decide)) (by rfl) W.D39.g W.D39.kp W.D39.b .nil pass0 (pa_cons (pv 0) (pa_cons pe_int pa_nil))) pe_int (nomark _)))))
            (pss_cons (ps_set (i := 6) sc44.nd rfl (.inl rfl) (pe_call (ok39 W) (hr.mono (by decide)) (by rfl) W.D39.g W.D39.kp W.D39.b .nil pass0 (pa_cons (pv 0) (pa_cons (pe_callB call_len_str (by rfl) W.m_len PySem.boot_len (pa_cons (pv 3) pa_nil)) pa_nil))))
            (pss_one (ps_set (i := 5) sc44.nd rfl (.inl rfl) (pe_slice sl_str (pv 3) (po_some (pv 6)) (po_some (pe_op op_add (pv 6) pe_int)))))) pss_nil)
          (pss_one (ps_if (pt_cmpR op_le (pe_op op_add (pe_callB call_len_str (by rfl) W.m_len PySem.boot_len (pa_cons (pv 3) pa_nil)) (pe_callB call_len_str (by rfl) W.m_len PySem.boot_len (pa_cons (pv 5) pa_nil))) (pv 2) (nomark _)) (pss_one (ps_set (i := 3) sc44.nd rfl (.inl rfl) (pe_op op_add_str (pv 3) (pv 5)))) pss_nil)))))
      (pss_one (ps_ret (pv 3)))), ?_⟩
    refine ⟨_, rfl, d, l, _, rfl, D, by decide, by decide, ht, fun r H1 r0 r1 g1 D1 => ⟨_, rfl, by omega, by omega, ?_⟩⟩
    refine for_it walk_range (fun i σ H2 => ∃ F v4 v5 v6, σ = [some (.ref d), some (.str (sv L)), some (.int 40), some (.str (sv F)), v4, v5, v6] ∧ (∀ c ∈ F, c ∈ L) ∧ F.length ≤ 40 ∧ GrD W.Ts d l H H2 ∧ Deck H2 d l)
      ⟨[], none, none, none, rfl, (fun c hc => by cases hc), by decide, g1, D1⟩ (fun _ _ _ _ _ => trivial) (fun i x σ H2 H3 hi h1 y => ?_) fun σ H2 h1 => ?_
    · obtain ⟨F, v4, v5, v6, rfl, fL, f40, g, D2⟩ := h1
      obtain ⟨rfl, rfl⟩ := y
      have hsz : (sv L).cps.size = L.length := by simp [sv]
      refine ⟨_, rfl, _, rfl, sv L, rfl, by rw [hsz]; exact Nat.le_trans l1 (by decide), fun p hp => ?_⟩
      obtain ⟨nd, nl⟩ := D2.nf hp
      have g2 := g.new (o := .lst (Zn.signs (sv L))) hp
      refine ⟨d, l, p, Zn.signs (sv L), rfl, D2.up ((Gr.refl g.t').new hp), upd_same, nd, nl, by rw [Zn.signs_length, hsz]; exact l0, by rw [Zn.signs_length, hsz]; exact l1, g2.t', fun v H4 hv g4 D4 => ?_⟩
      obtain ⟨c, hc, rfl⟩ := List.mem_map.mp hv
      have hcL : c ∈ L := by simpa [sv] using hc
      have gg := g2.tr g4
      refine ⟨fun σ' H' => ∃ B v6, σ' = [some (.ref d), some (.str (sv L)), some (.int 40), some (.str (sv F)), some (.int (0 + (i : Nat))), some (.str (sv B)), v6] ∧ (∀ c ∈ B, c ∈ L) ∧ B.length ≤ 40 ∧ GrD W.Ts d l H H' ∧ Deck H' d l, ?_, fun σ' H' h' => ?_⟩
      · have base1 : ∀ H', GrD W.Ts d l H H' → Deck H' d l → ∃ B v7, [some (V.ref d), some (.str (sv L)), some (.int 40), some (.str (sv F)), some (.int (0 + (i : Nat))), some (.str ⟨#[c]⟩), v6] = [some (V.ref d), some (.str (sv L)), some (.int 40), some (.str (sv F)), some (.int (0 + (i : Nat))), some (.str (sv B)), v7] ∧ (∀ c ∈ B, c ∈ L) ∧ B.length ≤ 40 ∧ GrD W.Ts d l H H' ∧ Deck H' d l := fun H' g D => by
          refine ⟨[c], v6, rfl, fun x hx => ?_, (by show 1 ≤ 40; decide), g, D⟩
          rw [List.mem_singleton.mp hx]
          exact hcL
        refine ⟨_, rfl, rfl, _, rfl, ?_⟩
        refine iteC (fun hne => ?_) fun _ => ?_
        · have fpos : 0 < F.length := by
            cases F with
            | nil => exact absurd hne (by decide)
            | cons a r => exact Nat.succ_pos _
          refine ⟨_, rfl, d, l, _, rfl, D4, by decide, by decide, gg.t', fun r5 H5 _ _ g5 D5 => ⟨rfl, _, rfl, ?_⟩⟩
          have g15 := gg.tr g5
          refine iteC (fun _ => ?_) fun _ => ?_
          · refine ⟨_, rfl, _, rfl, sv F, rfl, small_le (by rw [sv_len]; omega), d, l, _, rfl, D5, by rw [sv_len]; omega, by rw [sv_len]; omega, g15.t', fun r6 H6 r60 _ g6 D6 => ?_⟩
            obtain ⟨ii, rfl⟩ := Int.eq_ofNat_of_zero_le r60
            obtain ⟨B, eB, b1, b2⟩ := cutS_sv F ii (ii + 5)
            refine ⟨_, rfl, _, rfl, _, rfl, _, rfl, _, _, rfl, rfl, (ii + 5 : Nat), rfl, sv F, rfl, small_le (by rw [sv_len]; omega), ?_⟩
            refine ⟨B, some (.int (ii : Nat)), ?_, fun c hc => fL c (b1 c hc), by omega, g15.tr g6, D6⟩
            rw [eB]
            rfl
          · exact base1 H5 g15 D5
        · exact base1 H4 gg D4
      · obtain ⟨B, v7, rfl, bL, b40, g5, D5⟩ := h'
        refine ⟨_, rfl, sv F, rfl, small_le (by rw [sv_len]; omega), _, rfl, sv B, rfl, small_le (by rw [sv_len]; omega), _, _, rfl, rfl, _, rfl, _, _, rfl, rfl, _, rfl, ?_⟩
        refine iteC (fun hle => ?_) fun _ => ?_
        · have hle2 := of_decide_eq_true hle
          rw [sv_len, sv_len] at hle2
          refine ⟨_, rfl, _, rfl, _, _, rfl, rfl, small_le (by rw [sv_len, sv_len]; omega), F ++ B, some (.int (0 + (i : Nat))), some (.str (sv B)), v7, ?_, fun c hc => ?_, ?_, g5, D5⟩
          · rw [sv_app]
            rfl
          · exact (List.mem_append.mp hc).elim (fL c) (bL c)
          · rw [List.length_append]
            omega
        · exact ⟨F, _, some (.str (sv B)), v7, rfl, fL, f40, g5, D5⟩
    · obtain ⟨F, v4, v5, v6, rfl, fL, f40, g, D2⟩ := h1
      exact ⟨_, rfl, k F H2 fL f40 g D2⟩
/-! _law_merged -/
def sp45 (Ts : List Addr) : Sp := fun vs H Q _ => ∃ (a m : Addr) (pr : Nat × Nat) (new : Nat) (t : List Nat), vs = [.ref a, .ref m, .int (new : Nat)] ∧ H a = some (.lst (nts t)) ∧ H m = some (.tup (nts [pr.1, pr.2])) ∧ t.length ≤ 1000 ∧ TOk Ts H ∧
  ∀ p H', Gr Ts H H' → H p = none → H' p = some (.lst (nts (mrg pr new t))) → Q (.ref p) H'
theorem ok45 : FnOk P w K mg base CX0 1 W.a45 W.d45 ["tokens", "pair", "new"] (sp45 W.Ts) := by
  refine W.D45.F.ok sc45 (fun vs H Q E h => ?_) fun cdv A outer s H vs Q E hr h => ?_
  · obtain ⟨a, m, pr, new, t, rfl, _⟩ := h
    rfl
  · obtain ⟨a, m, pr, new, t, rfl, ha, hm, tl, ht, k⟩ := h
    refine ⟨_, pss_cons (ps_par (i := 3) (j := 4) (by rfl) sc45.nd rfl rfl (by decide) rfl rfl (pa_cons (pe_lst pa_nil) (pa_cons pe_int pa_nil)) (by rfl))
      (pss_cons (ps_while PassesOwn.never (pt_cmpR op_lt (pv 4) (pe_callB call_len_seq (by rfl) W.m_len PySem.boot_len (pa_cons (pv 0) pa_nil)) (nomark _))
        (pss_one (ps_if (PW.pt (pw_and (pt_cmpR op_lt (pe_op op_add (pv 4) pe_int) (pe_callB call_len_seq (by rfl) W.m_len PySem.boot_len (pa_cons (pv 0) pa_nil)) (nomark _))
            (pw_and1 (pt_cmpR (op_eqD hr.units) (pe_tup (pa_cons (pe_ix ix_list (pv 0) (pv 4) (fun _ _ => rfl)) (pa_cons (pe_ix ix_list (pv 0) (pe_op op_add (pv 4) pe_int) (fun _ _ => rfl)) pa_nil))) (pv 1) (nomark _)))))
          (pss_cons (ps_expr (pe_bm PySem.F.plainAttrs_list PySem.F.slot_list_append PySem.F.type_list_append mt_append (pv 3) (pa_cons (pv 2) pa_nil))) (pss_one (ps_set (i := 4) sc45.nd rfl (.inl rfl) (pe_op op_add (pv 4) pe_int))))
          (pss_cons (ps_expr (pe_bm PySem.F.plainAttrs_list PySem.F.slot_list_append PySem.F.type_list_append mt_append (pv 3) (pa_cons (pe_ix ix_list (pv 0) (pv 4) (fun _ _ => rfl)) pa_nil))) (pss_one (ps_set (i := 4) sc45.nd rfl (.inl rfl) (pe_op op_add (pv 4) pe_int)))))))
      (pss_one (ps_ret (pv 3)))), ?_⟩
    refine ⟨by show 0 ≤ sizeLine; decide, fun p hp => ⟨_, _, rfl, ?_⟩⟩
    have npT := notTab ht hp
    refine ⟨fun mm σ H1 => ∃ (i : Nat) (acc : List Nat), mm = t.length - i ∧ σ = [some (.ref a), some (.ref m), some (.int (new : Nat)), some (.ref p), some (.int (i : Nat))] ∧ i ≤ t.length ∧ acc ++ mrg pr new (t.drop i) = mrg pr new t ∧ acc.length ≤ i ∧ Gr W.Ts H H1 ∧ H1 p = some (.lst (nts acc)),
      ⟨_, 0, [], rfl, rfl, Nat.zero_le _, rfl, Nat.le_refl _, (Gr.refl ht).new hp, upd_same⟩, fun mm σ H1 h1 => ?_⟩
    obtain ⟨i, acc, rfl, rfl, il, em, al, g, hpl⟩ := h1
    have ha1 := g.get ha
    refine ⟨_, rfl, _, rfl, a, _, rfl, .inl (.inl (.inl ha1)), _, _, rfl, rfl, ?_⟩
    rw [nts_len]
    by_cases hi : i < t.length
    · refine ⟨true, dT (show (i : Int) < (t.length : Int) by omega), iteT ?_⟩
      refine ⟨fun σ H2 => ∃ (j : Nat) (acc : List Nat), i < j ∧ σ = [some (.ref a), some (.ref m), some (.int (new : Nat)), some (.ref p), some (.int (j : Nat))] ∧ j ≤ t.length ∧ acc ++ mrg pr new (t.drop j) = mrg pr new t ∧ acc.length ≤ j ∧ Gr W.Ts H H2 ∧ H2 p = some (.lst (nts acc)),
        fun σ H2 h2 => ?_, ?_⟩
      · obtain ⟨j, acc2, hj, e1, e2, e3, e4, e5, e6⟩ := h2
        exact ⟨_, by omega, j, acc2, rfl, e1, e2, e3, e4, e5, e6⟩
      · have hd := List.drop_eq_getElem_cons hi
        have one : ∀ H2, Gr W.Ts H H2 → H2 p = some (.lst (nts acc)) → mrg pr new (t.drop i) = t[i] :: mrg pr new (t.drop (i + 1)) → (∃ (j : Nat) (ac : List Nat), i < j ∧ [some (V.ref a), some (.ref m), some (.int (new : Nat)), some (.ref p), some (.int ((i : Nat) + 1))] = [some (V.ref a), some (.ref m), some (.int (new : Nat)), some (.ref p), some (.int (j : Nat))] ∧ j ≤ t.length ∧ ac ++ mrg pr new (t.drop j) = mrg pr new t ∧ ac.length ≤ j ∧ Gr W.Ts H (upd H2 p (.lst (nts (acc ++ [t[i]])))) ∧ (upd H2 p (.lst (nts (acc ++ [t[i]])))) p = some (.lst (nts ac))) := fun H2 g2 hp2 e => by
          refine ⟨i + 1, acc ++ [t[i]], by omega, rfl, by omega, ?_, ?_, g2.mut hp npT, upd_same⟩
          · rw [List.append_assoc, ← em, e]
            rfl
          · rw [List.length_append]
            simp only [List.length_cons, List.length_nil]
            omega
        refine ⟨_, rfl, _, _, rfl, rfl, _, rfl, a, _, rfl, .inl (.inl (.inl ha1)), _, _, rfl, rfl, ?_⟩
        rw [nts_len]
        by_cases hi2 : i + 1 < t.length
        · refine ⟨true, dT (show (i : Int) + 1 < (t.length : Int) by omega), iteT ?_⟩
          have hd2 := List.drop_eq_getElem_cons hi2
          rw [hd2] at hd
          refine ⟨_, rfl, _, rfl, a, _, _, _, rfl, rfl, .inl (.inl ha1), atI_nat (nts_get hi), _, rfl, _, rfl, _, _, rfl, rfl, a, _, ((i + 1 : Nat) : Int), _, rfl, rfl, .inl (.inl ha1), atI_nat (nts_get hi2), by show 2 ≤ sizeLine; decide, fun q hq => ?_⟩
          have e2 : [V.int (t[i] : Nat), V.int (t[i + 1] : Nat)] = nts [t[i], t[i + 1]] := rfl
          rw [e2]
          have g2 := g.new (o := .tup (nts [t[i], t[i + 1]])) hq
          have g3 : Gr W.Ts H1 (upd H1 q (.tup (nts [t[i], t[i + 1]]))) := (Gr.refl g.t').new hq
          have hp2 := g3.get hpl
          refine ⟨_, rfl, dI [t[i], t[i + 1]], dI [pr.1, pr.2], dp_nts upd_same, dp_nts (g2.get hm), shaped_dI _, shaped_dI _, ?_⟩
          rw [eqv_dI]
          by_cases hc : [t[i], t[i + 1]] = [pr.1, pr.2]
          · refine ⟨true, dT hc, iteT ?_⟩
            simp only [List.cons.injEq, and_true] at hc
            refine ⟨_, rfl, .inl ⟨rfl, _, .inl (.inl hp2)⟩, _, rfl, p, _, _, rfl, rfl, hp2, small_lt (by rw [nts_len]; omega), _, rfl, _, _, rfl, rfl, i + 2, acc ++ [new], by omega, rfl, by omega, ?_, ?_, g2.mut hp npT, ?_⟩
            · rw [hd, mrg, if_pos hc] at em
              rw [List.append_assoc]
              exact em
            · rw [List.length_append]
              simp only [List.length_cons, List.length_nil]
              omega
            · rw [nts_snoc]
              exact upd_same
          · refine ⟨false, dF hc, iteF ?_⟩
            simp only [List.cons.injEq, and_true] at hc
            have e3 : mrg pr new (t.drop i) = t[i] :: mrg pr new (t.drop (i + 1)) := by rw [hd, mrg, if_neg hc, hd2]
            refine ⟨_, rfl, .inl ⟨rfl, _, .inl (.inl hp2)⟩, _, rfl, _, rfl, a, _, _, _, rfl, rfl, .inl (.inl (g3.get ha1)), atI_nat (nts_get hi), p, _, _, rfl, rfl, hp2, small_lt (by rw [nts_len]; omega), ?_⟩
            rw [nts_snoc]
            exact ⟨_, rfl, _, _, rfl, rfl, one _ g2 hp2 e3⟩
        · refine ⟨false, dF (show ¬ (i : Int) + 1 < (t.length : Int) by omega), iteF ?_⟩
          have e0 : t.drop (i + 1) = [] := List.drop_eq_nil_of_le (by omega)
          have e3 : mrg pr new (t.drop i) = t[i] :: mrg pr new (t.drop (i + 1)) := by rw [hd, e0]; rfl
          refine ⟨_, rfl, .inl ⟨rfl, _, .inl (.inl hpl)⟩, _, rfl, _, rfl, a, _, _, _, rfl, rfl, .inl (.inl ha1), atI_nat (nts_get hi), p, _, _, rfl, rfl, hpl, small_lt (by rw [nts_len]; omega), ?_⟩
          rw [nts_snoc]
          exact ⟨_, rfl, _, _, rfl, rfl, one _ g hpl e3⟩
    · refine ⟨false, dF (show ¬ (i : Int) < (t.length : Int) by omega), iteF ?_⟩
      have e0 : t.drop i = [] := List.drop_eq_nil_of_le (by omega)
      rw [e0, mrg, List.append_nil] at em
      subst em
      exact ⟨_, rfl, k p H1 g hp hpl⟩
end
end Zk
set_option Elab.async false
set_option linter.all false
set_option maxRecDepth 100000
set_option maxHeartbeats 4000000
namespace Zk
open PySem PySem.Spec PyProof.Rows L2 GxR Zn Zm
section
variable {P : Program} {w : World} {K : PySem.W.Frag} {mg : Str → Option Value} {base : Heap} (W : Wd K mg base)
include W
/-! _law_tokens -/
theorem ok46 : FnOk P w K mg base CX0 2 W.a46 W.d46 ["vocabulary", "text"] (sp27 W.Ts) := by
  refine W.D46.F.ok sc46 (fun vs H Q E h => ?_) fun cdv A outer s H vs Q E hr h => ?_
  · obtain ⟨a, L, z, M, rfl, _⟩ := h
    rfl
  · obtain ⟨a, L, z, M, rfl, ⟨m, hv, hm⟩, G, hz, zl, ht, k⟩ := h
    obtain ⟨rs, hm1, hm2, hm3⟩ := id hm
    refine ⟨_, pss_cons (ps_asg (pv 0) (pg_tup rfl (pgs_cons (pg_name (i := 2) sc46.nd rfl (.inl rfl)) (pgs_cons (pg_name (i := 3) sc46.nd rfl (.inr rfl)) (pgs_cons (pg_name (i := 4) sc46.nd rfl (.inl rfl)) pgs_nil)))))
      (pss_cons (ps_setLc (i := 5) (own := [("x", 8)]) (g := gName 8) (tt := tYes) (te := tOp _ _ (tBM K "str" _ (tVar 3) (tCons (tVar 8) tNil))) rfl sc46.nd rfl rfl (sw_true rfl rfl rfl (by decide +kernel)) (pi_str (pv 1)) (blkOk_by (N := ["vocabulary", "text", "word", "letters", "merges", "found", "at", "pair", "x"]) (sc := defScope (top 46)) (by decide +kernel)) (fun _ _ _ _ _ => pg_name (i := 8) sc46.nd rfl (.inl rfl)) (fun _ _ _ _ _ => pts_nil)
        (fun _ _ _ _ _ => pe_op op_add pe_int (pe_bm PySem.F.plainAttrs_str PySem.F.slot_str_index PySem.F.type_str_index mt_sindex (pv 3) (pa_cons (pv 8) pa_nil))))
      (pss_cons (ps_for PassesOwn.never rfl (pi_enumT (by rfl) W.m_enumerate (pa_cons (pv 4) pa_nil)) (pg_tup rfl (pgs_cons (pg_name (i := 6) sc46.nd rfl (.inl rfl)) (pgs_cons (pg_name (i := 7) sc46.nd rfl (.inl rfl)) pgs_nil)))
        (pss_one (ps_set (i := 5) sc46.nd rfl (.inl rfl) (pe_call (ok45 W) hr (by rfl) W.D45.g W.D45.kp W.D45.b .nil pass0 (pa_cons (pv 5) (pa_cons (pv 7) (pa_cons (pe_op op_add (pe_op op_add pe_int (pe_callB call_len_str (by rfl) W.m_len PySem.boot_len (pa_cons (pv 3) pa_nil))) (pv 6)) pa_nil)))))))
      (pss_one (ps_ret (pe_callTy call_tuple_of (by rfl) W.m_tuple (by decide +kernel) (pa_cons (pv 5) pa_nil)))))), ?_⟩
    have hrl : (rs.map V.ref).length = M.length := by rw [List.length_map]; exact hm2
    refine ⟨_, rfl, a, _, rfl, .inl (.inl hv), rfl, _, _, rfl, _, _, rfl, _, _, rfl, rfl, ?_⟩
    refine ⟨_, rfl, z, rfl, fun D hD => lc_it walk_str (fun i H1 => Gr W.Ts H H1 ∧ H1 D = some (.lst (nts (lts (lt L) ((lt z).take i))))) ⟨(Gr.refl ht).new hD, upd_same⟩ (fun _ _ _ _ => trivial) (fun i x H1 H2 hi h1 y => ?_) fun H1 h1 => ?_⟩
    · obtain ⟨g, hd⟩ := h1
      obtain ⟨rfl, c, hc, rfl⟩ := y
      have hc' : (lt z)[i]? = some c := by rw [Array.getElem?_toList]; exact hc
      obtain ⟨r, hr⟩ := occ_ix (hz c (List.mem_of_getElem? hc'))
      have hil : i < (lt z).length := (List.getElem?_eq_some_iff.mp hc').1
      refine ⟨rfl, ?_⟩
      unfold tYes
      refine iteT ?_
      refine ⟨_, rfl, rfl, _, rfl, L, _, _, r, rfl, rfl, hr, _, _, rfl, rfl, _, hd, ?_, g.mut hD (notTab ht hD), ?_⟩
      · unfold nts lts
        rw [List.length_map, List.length_map, List.length_take]
        exact small_lt (by omega)
      · have e : nts (lts (lt L) ((lt z).take i)) ++ [V.int (1 + ((ix (lt L) c : Nat) : Int))] = nts (lts (lt L) ((lt z).take (i + 1))) := by
          unfold nts lts
          rw [List.take_add_one, hc', List.map_append, List.map_append]
          show _ = _ ++ [V.int ((1 + ix (lt L) c : Nat) : Int)]
          rw [Int.natCast_add]
          rfl
        rw [e]
        exact upd_same
    · obtain ⟨g1, hd⟩ := h1
      have hl : (lt z).take z.cps.size = lt z := by
        rw [List.take_of_length_le]
        simp
      rw [hl] at hd
      have hm1' := g1.get hm1
      refine ⟨_, rfl, m, _, rfl, .inl (.inl hm1'), for_it (walk_enumT (xs := rs.map V.ref)) (fun i σ H2 => ∃ v6 v7 v8 q, σ = [some (.ref a), some (.str z), some (.str "vocabulary"), some (.str L), some (.ref m), some (.ref q), v6, v7, v8] ∧ Gr W.Ts H H2 ∧
        H2 q = some (.lst (nts (toksFrom (1 + (lt L).length) 0 (M.take i) (lts (lt L) (lt z)))))) ⟨none, none, none, D, rfl, g1, hd⟩ (fun i σ H2 _ h2 => ?_) (fun i x σ H2 H3 hi h2 y => ?_) fun σ H2 h2 => ?_⟩
      · obtain ⟨_, _, _, _, _, g, _⟩ := h2
        exact .inl (.inl (g.get hm1))
      · obtain ⟨v6, v7, v8, q, rfl, g, hq⟩ := h2
        obtain ⟨T, x1, y1, rfl, hT, rfl, hx1, hy1⟩ := y
        rw [hrl] at hi
        cases hx1
        have hy2 : (rs.map V.ref)[i]? = some y1 := hy1
        rw [List.getElem?_map, List.getElem?_eq_getElem (by omega)] at hy2
        cases hy2
        have g2 := g.new (o := .tup [.int (i : Nat), V.ref rs[i]]) hT
        have g23 := (Gr.refl g.t').new (o := .tup [.int (i : Nat), V.ref rs[i]]) hT
        have hr1 := g2.get (hm3 i rs[i] M[i] (List.getElem?_eq_getElem (by omega)) (List.getElem?_eq_getElem hi))
        refine ⟨T, _, rfl, .inl (.inl upd_same), rfl, _, _, rfl, _, _, rfl, rfl, ?_⟩
        have tl : (toksFrom (1 + (lt L).length) 0 (M.take i) (lts (lt L) (lt z))).length ≤ 1000 := by
          refine Nat.le_trans (toksFrom_le _ _ _ _) ?_
          unfold lts
          rw [List.length_map]
          exact zl
        have l6 := G.l6
        have hl : L.length = (lt L).length := len_lt L
        refine ⟨_, rfl, _, rfl, _, rfl, L, rfl, small_le (by omega), _, _, rfl, rfl, _, rfl, _, _, rfl, rfl, q, rs[i], M[i], 1 + (lt L).length + i, _, ?_, g23.get hq, hr1, tl, g2.t', fun p2 H4 g4 hp3 hp4 => ?_⟩
        · show [V.ref q, V.ref rs[i], V.int (1 + (L.length : Int) + ((i : Nat) : Int))] = _
          rw [hl]
          simp only [List.cons.injEq, V.int.injEq, true_and, and_true]
          omega
        · refine ⟨_, _, _, p2, rfl, g2.tr g4, ?_⟩
          rw [toksFrom_take _ M _ hi]
          exact hp4
      · obtain ⟨v6, v7, v8, q, rfl, g, hq⟩ := h2
        rw [hrl, List.take_length] at hq
        exact ⟨_, rfl, q, _, rfl, .inl ⟨.inl (.inl hq), fun l hl => k l _ (g.new hl) upd_same⟩⟩
/-! _law_text -/
theorem ok47 : FnOk P w K mg base CX0 2 W.a47 W.d47 ["vocabulary", "tokens"] (sp24 W.Ts) := by
  refine W.D47.F.ok sc47 (fun vs H Q E h => ?_) fun cdv A outer s H vs Q E hr h => ?_
  · obtain ⟨a, b, L, M, t, rfl, _⟩ := h
    rfl
  · obtain ⟨a, b, L, M, t, rfl, ⟨m, hv, hm⟩, G, hb, hlt, tl, ht, k⟩ := h
    refine ⟨_, pss_cons (ps_set (i := 2) sc47.nd rfl (.inr rfl) (pe_call (ok41 W) hr (by rfl) W.D41.g W.D41.kp W.D41.b .nil pass0 (pa_cons (pe_ix ix_tup (pv 0) pe_int (fun _ _ => rfl)) (pa_cons (pe_ix ix_tup (pv 0) pe_int (fun _ _ => rfl)) pa_nil))))
      (pss_one (ps_ret (pe_join pe_str (pe_lc (own := [("x", 3)]) (g := gName 3) (tt := tYes) (te := tOp (rIxL K) (tVar 2) (tVar 3)) rfl sc47.nd (pi_tup (pv 1)) (blkOk_by (N := ["vocabulary", "tokens", "some", "x"]) (sc := defScope (top 47)) (by decide +kernel)) (fun _ _ _ _ _ => pg_name (i := 3) sc47.nd rfl (.inl rfl)) (fun _ _ _ _ _ => pts_nil)
        (fun _ _ _ _ _ => pe_ix ix_list (pv 2) (pv 3) (fun _ _ => rfl)))))), ?_⟩
    refine ⟨_, rfl, a, _, 1, _, rfl, rfl, .inl (.inl hv), rfl, _, rfl, a, _, 2, _, rfl, rfl, .inl (.inl hv), rfl, L, m, M, rfl, hm, G.l6, G.m10, G.ok, G.sh, ht, fun p H3 g3 hp1 hp2 => ?_⟩
    refine ⟨⟨_, rfl⟩, _, rfl, b, rfl, ⟨_, .inl (.inl (g3.get hb))⟩, fun D hD => lc_it (walk_tup (xs := nts t)) (fun i H4 => Gr W.Ts H3 H4 ∧ H4 D = some (.lst (svs ((t.take i).map fun x => (pcs (lt L) M).getD x [])))) ⟨(Gr.refl g3.t').new hD, upd_same⟩ (fun i H4 _ h4 => .inl (.inl (h4.1.get (g3.get hb)))) (fun i x H4 H5 hi h4 y => ?_) fun H4 h4 => ?_⟩
    · obtain ⟨g4, hd⟩ := h4
      obtain ⟨rfl, hx⟩ := y
      rw [nts_len] at hi
      rw [nts_get hi] at hx
      cases hx
      refine ⟨rfl, ?_⟩
      unfold tYes
      refine iteT ?_
      refine ⟨_, rfl, _, rfl, p, _, _, _, rfl, rfl, .inl (.inl (g4.get hp2)), atI_nat (svs_get (by rw [pcs_length]; exact hlt _ (List.getElem_mem hi))), _, hd, ?_, g4.mut hD (notTab g3.t' hD), ?_⟩
      · rw [svs_length, List.length_map, List.length_take]
        exact small_lt (by omega)
      · have e : svs ((t.take i).map fun x => (pcs (lt L) M).getD x []) ++ [V.str (sv ((pcs (lt L) M).getD t[i] []))] = svs ((t.take (i + 1)).map fun x => (pcs (lt L) M).getD x []) := by
          rw [List.take_add_one, List.getElem?_eq_getElem hi]
          unfold svs
          rw [List.map_append, List.map_append]
          rfl
        rw [e]
        exact upd_same
    · obtain ⟨g4, hd⟩ := h4
      rw [nts_len, List.take_length] at hd
      have hd2 : H4 D = some (.lst (((t.map fun x => (pcs (lt L) M).getD x []).map sv).map V.str)) := by
        rw [List.map_map (f := sv)]
        exact hd
      have hb3 : ∀ y ∈ (t.map fun x => (pcs (lt L) M).getD x []), y.length ≤ 12 := fun y hy => by
        obtain ⟨x, hx, rfl⟩ := List.mem_map.mp hy
        exact piece_le W G.sh x
      refine ⟨_, D, _, rfl, rfl, .inl (.inl (.inl hd2)), ?_, ?_⟩
      · have := sum_le hb3
        rw [List.length_map] at this ⊢
        have e0 : (("" : Str)).length = 0 := rfl
        rw [e0, Nat.mul_zero]
        have : t.length * 12 ≤ 1000 * 12 := Nat.mul_le_mul_right _ tl
        omega
      · rw [join_svs]
        exact k H4 (g3.tr g4)
end
end Zk
set_option Elab.async false
set_option linter.all false
set_option maxRecDepth 100000
set_option maxHeartbeats 4000000
namespace Zk
open PySem PySem.Spec PyProof.Rows L2 GxR Zn Zm
theorem cat_tup {K : PySem.W.Frag} {Ts : List Addr} {H : Hp} {a b : Addr} {xs ys : List V} {Q : VK} (ha : H a = some (.tup xs)) (hb : H b = some (.tup ys)) (ht : TOk Ts H) (hz : xs.length + ys.length ≤ sizeLine)
    (h : ∀ r H', Gr Ts H H' → H' r = some (.tup (xs ++ ys)) → Q (.ref r) H') : rCatA K (.ref a) (.ref b) H Q := by
  refine ⟨a, b, xs, ys, rfl, rfl, .inl (.inl ha), .inl (.inl hb), hz, fun e => ?_, fun _ e => ?_, fun _ _ p hp => ?_⟩
  · subst e
    exact h b H (Gr.refl ht) hb
  · subst e
    exact h a H (Gr.refl ht) (by rw [List.append_nil]; exact ha)
  · exact h p _ ((Gr.refl ht).new hp) upd_same
theorem MgAt.upD {Ts : List Addr} {d l : Addr} {H H' : Hp} {m : Addr} {M : Mg} (g : GrD Ts d l H H') (D : Deck H d l) (h : MgAt H m M) : MgAt H' m M := by
  obtain ⟨rs, h1, h2, h3⟩ := h
  refine ⟨rs, g.get h1 (D.nd h1).1 (D.nd h1).2, h2, fun i r p a b => ?_⟩
  have e := h3 i r p a b
  exact g.get e (D.nd e).1 (D.nd e).2
theorem Voc.upD {Ts : List Addr} {d l : Addr} {H H' : Hp} {a : Addr} {L : Str} {M : Mg} (g : GrD Ts d l H H') (D : Deck H d l) (h : Voc H a L M) : Voc H' a L M := by
  obtain ⟨m, h1, h2⟩ := h
  exact ⟨m, g.get h1 (D.nd h1).1 (D.nd h1).2, h2.upD g D⟩
theorem MgAt.snoc {H : Hp} {m m' r : Addr} {rs : List Addr} {M : Mg} {p : Nat × Nat} (h1 : rs.length = M.length) (h3 : ∀ (i : Nat) (r : Addr) (p : Nat × Nat), rs[i]? = some r → M[i]? = some p → H r = some (.tup [.int (p.1 : Nat), .int (p.2 : Nat)]))
    (hm : H m' = some (.tup (rs.map V.ref ++ [.ref r]))) (hr : H r = some (.tup [.int (p.1 : Nat), .int (p.2 : Nat)])) : MgAt H m' (M ++ [p]) := by
  refine ⟨rs ++ [r], by rw [List.map_append]; exact hm, by rw [List.length_append, List.length_append, h1]; rfl, fun i a b ea eb => ?_⟩
  by_cases hi : i < rs.length
  · rw [List.getElem?_append_left hi] at ea
    rw [List.getElem?_append_left (by omega)] at eb
    exact h3 i a b ea eb
  · rw [List.getElem?_append_right (by omega)] at ea
    rw [List.getElem?_append_right (by omega), ← h1] at eb
    cases hj : i - rs.length with
    | zero =>
      rw [hj] at ea eb
      cases ea
      cases eb
      exact hr
    | succ j =>
      rw [hj] at ea
      cases ea
theorem notIn_ps {x : List Nat} {ps : List (List Nat)} (h : (!inV (.str (sv x)) (svs ps)) = true) : x ∉ ps := by
  intro hm
  have : inV (.str (sv x)) (svs ps) = true := by
    unfold inV svs
    rw [List.any_map, List.any_eq_true]
    exact ⟨x, hm, by simp [eqV]⟩
  rw [this] at h
  cases h
theorem flat_svs (ps : List (List Nat)) : (svs ps).all flatV = true := by
  unfold svs
  rw [List.all_map, List.all_eq_true]
  intro x _
  rfl
theorem nodup_start {F : List Nat} (h : F.Nodup) : (pcs F []).Nodup := by
  rw [pcs_nil, List.nodup_cons]
  refine ⟨fun hm => ?_, ?_⟩
  · obtain ⟨c, _, e⟩ := List.mem_map.mp hm
    cases e
  · exact List.Pairwise.map _ (fun a b hab e => hab (by injection e)) h
theorem short_start (F : List Nat) : ∀ y ∈ pcs F [], y.length ≤ 12 := by
  intro y hy
  rw [pcs_nil] at hy
  rcases List.mem_cons.mp hy with rfl | hy
  · decide
  · obtain ⟨c, _, rfl⟩ := List.mem_map.mp hy
    show 1 ≤ 12
    decide
/-- a vocabulary under way -/
structure Way (F : List Nat) (M : Mg) (many : Nat) : Prop where
  ml : M.length ≤ many
  ok : okM (1 + F.length) M
  pn : (pcs F M).Nodup
  sh : ∀ y ∈ pcs F M, y.length ≤ 12
theorem Way.start {F : List Nat} (h : F.Nodup) (many : Nat) : Way F [] many := ⟨Nat.zero_le _, fun k p e => by simp at e, nodup_start h, short_start F⟩
theorem Way.step {F : List Nat} {M : Mg} {many : Nat} (w : Way F M many) {i j : Nat} (hm : M.length < many) (i1 : 1 ≤ i) (i2 : i < 1 + F.length + M.length) (j1 : 1 ≤ j) (j2 : j < 1 + F.length + M.length) (hn : (pcs F M).getD i [] ++ (pcs F M).getD j [] ∉ pcs F M)
    (hl : ((pcs F M).getD i [] ++ (pcs F M).getD j []).length ≤ 12) : Way F (M ++ [(i, j)]) many := by
  refine ⟨by rw [List.length_append]; exact hm, fun k p e => ?_, ?_, ?_⟩
  · by_cases hk : k < M.length
    · rw [List.getElem?_append_left hk] at e
      exact w.ok k p e
    · rw [List.getElem?_append_right (by omega)] at e
      cases hj : k - M.length with
      | zero =>
        rw [hj] at e
        cases e
        exact ⟨⟨i1, by show i < _; omega⟩, j1, by show j < _; omega⟩
      | succ q =>
        rw [hj] at e
        cases e
  · rw [pcs_snoc]
    unfold stepP
    rw [List.nodup_append]
    refine ⟨w.pn, by simp, fun a ha b hb e => ?_⟩
    rw [List.mem_singleton.mp hb] at e
    exact hn (e ▸ ha)
  · rw [pcs_snoc]
    unfold stepP
    intro y hy
    rcases List.mem_append.mp hy with hy | hy
    · exact w.sh y hy
    · rw [List.mem_singleton.mp hy]
      exact hl
section
variable {P : Program} {w : World} {K : PySem.W.Frag} {mg : Str → Option Value} {base : Heap} (W : Wd K mg base)
include W
def sp43 (Ts : List Addr) : Sp := fun vs H Q _ => ∃ (d l : Addr) (most many : Nat), vs = [.ref d, .int (most : Nat), .int (many : Nat)] ∧ Deck H d l ∧ 0 < most ∧ most ≤ 6 ∧ many ≤ 10 ∧ TOk Ts H ∧ ∀ a L M H', Voc H' a L M → Good L M → GrD Ts d l H H' → Deck H' d l → Q (.ref a) H'
theorem ok43 : FnOk P w K mg base CX0 3 W.a43 W.d43 ["deck", "most", "many"] (sp43 W.Ts) := by
  refine W.D43.F.ok sc43 (fun vs H Q E h => ?_) fun cdv A outer s H vs Q E hr h => ?_
  · obtain ⟨d, l, most, many, rfl, _⟩ := h
    rfl
  · obtain ⟨d, l, most, many, rfl, D, m0, m6, m10, ht, k⟩ := h
    refine ⟨_, pss_cons (ps_par (i := 3) (j := 4) (by rfl) sc43.nd rfl rfl (by decide) rfl rfl (pa_cons (pe_call (ok42 W) hr (by rfl) W.D42.g W.D42.kp W.D42.b .nil pass0 (pa_cons (pv 0) (pa_cons (pv 1) pa_nil))) (pa_cons (pe_tup pa_nil) pa_nil)) (by rfl))
      (pss_cons (ps_set (i := 5) sc43.nd rfl (.inl rfl) (pe_call (ok41 W) (hr.mono (by decide)) (by rfl) W.D41.g W.D41.kp W.D41.b .nil pass0 (pa_cons (pv 3) (pa_cons (pe_tup pa_nil) pa_nil))))
      (pss_cons (ps_for PassesOwn.never rfl (pi_range1 (by rfl) W.m_range (pa_cons (pe_op op_mul pe_int (pv 2)) pa_nil)) (pg_name (i := 6) sc43.nd rfl (.inl rfl))
        (pss_cons (ps_set (i := 7) sc43.nd rfl (.inl rfl) (pe_tup (pa_cons (pe_op op_add pe_int (pe_call (ok39 W) (hr.mono (by decide)) (by rfl) W.D39.g W.D39.kp W.D39.b .nil pass0 (pa_cons (pv 0) (pa_cons (pe_op op_sub (pe_callB call_len_seq (by rfl) W.m_len PySem.boot_len (pa_cons (pv 5) pa_nil)) pe_int) pa_nil))))
            (pa_cons (pe_op op_add pe_int (pe_call (ok39 W) (hr.mono (by decide)) (by rfl) W.D39.g W.D39.kp W.D39.b .nil pass0 (pa_cons (pv 0) (pa_cons (pe_op op_sub (pe_callB call_len_seq (by rfl) W.m_len PySem.boot_len (pa_cons (pv 5) pa_nil)) pe_int) pa_nil)))) pa_nil))))
        (pss_cons (ps_set (i := 8) sc43.nd rfl (.inl rfl) (pe_op op_add_str (pe_ix ix_list (pv 5) (pe_ix ix_tup (pv 7) pe_int (fun _ _ => rfl)) (fun _ _ => rfl)) (pe_ix ix_list (pv 5) (pe_ix ix_tup (pv 7) pe_int (fun _ _ => rfl)) (fun _ _ => rfl))))
        (pss_one (ps_if (PW.pt (pw_and (pt_cmpR op_lt (pe_callB call_len_seq (by rfl) W.m_len PySem.boot_len (pa_cons (pv 4) pa_nil)) (pv 2) (nomark _)) (pw_and (pt_cmpR op_lt (pe_callB call_len_str (by rfl) W.m_len PySem.boot_len (pa_cons (pv 8) pa_nil)) pe_int (nomark _)) (pw_and1 (pt_cmpR op_notIn_seq (pv 8) (pv 5) (by rfl))))))
          (pss_one (ps_par (i := 4) (j := 5) (by rfl) sc43.nd rfl rfl (by decide) rfl rfl (pa_cons (pe_op op_catA (pv 4) (pe_tup (pa_cons (pv 7) pa_nil))) (pa_cons (pe_op op_cat (pv 5) (pe_lst (pa_cons (pv 8) pa_nil))) pa_nil)) (by rfl))) pss_nil)))))
      (pss_one (ps_ret (pe_tup (pa_cons pe_str (pa_cons (pv 3) (pa_cons (pv 4) pa_nil)))))))), ?_⟩
    refine ⟨_, rfl, _, rfl, d, l, most, rfl, D, m0, m6, ht, fun F H1 fo g1 D1 => ?_⟩
    obtain ⟨faz, fnd, f1, f6⟩ := fo
    refine ⟨by show 0 ≤ sizeLine; decide, fun m hm => ⟨_, _, rfl, ?_⟩⟩
    refine ⟨_, rfl, by show 0 ≤ sizeLine; decide, fun m2 hm2 => ?_⟩
    have g2 : Gr W.Ts H1 (upd (upd H1 m (.tup [])) m2 (.tup [])) := ((Gr.refl g1.t').new hm).new hm2
    have hm2' : (upd (upd H1 m (.tup [])) m2 (.tup [])) m = some (.tup []) := by
      rw [upd_ne (fun z => by rw [← z, upd_same] at hm2; cases hm2)]
      exact upd_same
    refine ⟨sv F, m2, [], rfl, ⟨[], upd_same, rfl, fun i r p e => by simp at e⟩, by rw [lt_sv]; omega, Nat.zero_le _, fun k p e => by simp at e, short_start _, g2.t', fun p H2 g3 hp1 hp2 => ?_⟩
    rw [lt_sv] at hp2
    have D1' := D1.up g2
    obtain ⟨pd, pl⟩ := D1'.nf hp1
    have gH2 := (g1.tr g2.D).tr g3.D
    refine ⟨_, rfl, _, _, rfl, rfl, .inl ⟨by decide, by decide⟩, _, rfl, by omega, by omega, ?_⟩
    refine for_it walk_range (fun i σ H3 => ∃ M m p v6 v7 v8, σ = [some (.ref d), some (.int (most : Nat)), some (.int (many : Nat)), some (.str (sv F)), some (.ref m), some (.ref p), v6, v7, v8] ∧ MgAt H3 m M ∧ H3 p = some (.lst (svs (pcs F M))) ∧ p ≠ d ∧ p ≠ l ∧ Way F M many ∧ GrD W.Ts d l H H3 ∧ Deck H3 d l)
      ⟨[], m, p, none, none, none, rfl, ⟨[], g3.get hm2', rfl, fun i r p e => by simp at e⟩, hp2, pd, pl, Way.start fnd many, gH2, D1'.up g3⟩ (fun _ _ _ _ _ => trivial) (fun i x σ H3 H4 hi h1 y => ?_) fun σ H3 h1 => ?_
    · clear hp1 hp2 pd pl g3 gH2 hm hm2 hm2' g2 D1' 
      obtain ⟨M, m, p, v6, v7, v8, rfl, mM, hp, pd, pl, w, g, D3⟩ := h1
      obtain ⟨rfl, rfl⟩ := y
      have ml := w.ml
      have plen : (svs (pcs F M)).length = 1 + F.length + M.length := by rw [svs_length, pcs_length]
      refine ⟨_, rfl, _, rfl, p, _, rfl, .inl (.inl (.inl hp)), _, _, rfl, rfl, d, l, _, rfl, D3, by rw [plen]; omega, by rw [plen]; omega, g.t', fun r1 H5 r10 r11 g5 D5 => ⟨_, _, rfl, rfl, ?_⟩⟩
      have hp5 := g5.get hp pd pl
      refine ⟨_, rfl, _, rfl, p, _, rfl, .inl (.inl (.inl hp5)), _, _, rfl, rfl, d, l, _, rfl, D5, by rw [plen]; omega, by rw [plen]; omega, g5.t', fun r2 H6 r20 r21 g6 D6 => ⟨_, _, rfl, rfl, by show 2 ≤ sizeLine; decide, fun q hq => ?_⟩⟩
      rw [plen] at r11 r21
      obtain ⟨a1, rfl⟩ := Int.eq_ofNat_of_zero_le r10
      obtain ⟨a2, rfl⟩ := Int.eq_ofNat_of_zero_le r20
      have e1 : (1 + (a1 : Int)) = ((1 + a1 : Nat) : Int) := by omega
      have e2 : (1 + (a2 : Int)) = ((1 + a2 : Nat) : Int) := by omega
      rw [show HO.tup [V.int (1 + (a1 : Int)), V.int (1 + (a2 : Int))] = HO.tup [V.int ((1 + a1 : Nat) : Int), V.int ((1 + a2 : Nat) : Int)] by rw [e1, e2]]
      have g56 := (g.tr g5).tr g6
      have g7 := (Gr.refl g6.t').new (o := .tup [.int ((1 + a1 : Nat) : Int), .int ((1 + a2 : Nat) : Int)]) hq
      have hp7 := g7.get (g6.get hp5 pd pl)
      have mM7 := ((mM.upD g5 D3).upD g6 D5).up g7
      have D7 := D6.up g7
      have gg := g56.tr g7.D
      have hq7 : (upd H6 q (.tup [.int ((1 + a1 : Nat) : Int), .int ((1 + a2 : Nat) : Int)])) q = some (.tup [.int ((1 + a1 : Nat) : Int), .int ((1 + a2 : Nat) : Int)]) := upd_same
      generalize upd H6 q (.tup [.int ((1 + a1 : Nat) : Int), .int ((1 + a2 : Nat) : Int)]) = H7 at g7 hp7 mM7 D7 gg hq7 ⊢
      have x1 := svs_get (ps := pcs F M) (i := 1 + a1) (by rw [pcs_length]; omega)
      have x2 := svs_get (ps := pcs F M) (i := 1 + a2) (by rw [pcs_length]; omega)
      have l1 : ((pcs F M).getD (1 + a1) []).length ≤ 12 := piece_le W w.sh _
      have l2 : ((pcs F M).getD (1 + a2) []).length ≤ 12 := piece_le W w.sh _
      refine ⟨_, rfl, _, rfl, q, _, 0, _, rfl, rfl, .inl (.inl hq7), rfl, p, _, _, _, rfl, rfl, .inl (.inl hp7), atI_nat x1, _, rfl, _, rfl, q, _, 1, _, rfl, rfl, .inl (.inl hq7), rfl, p, _, _, _, rfl, rfl, .inl (.inl hp7), atI_nat x2, _, _, rfl, rfl, small_le (by rw [sv_len, sv_len]; omega), ?_⟩
      have eN : (sv ((pcs F M).getD (1 + a1) []) ++ sv ((pcs F M).getD (1 + a2) [])) = sv ((pcs F M).getD (1 + a1) [] ++ (pcs F M).getD (1 + a2) []) := sv_app _ _
      rw [eN]
      have hnl : ((pcs F M).getD (1 + a1) [] ++ (pcs F M).getD (1 + a2) []).length ≤ 24 := by rw [List.length_append]; omega
      have wn : ∀ hm hl hn, Way F (M ++ [(1 + a1, 1 + a2)]) many := fun hm hl hn => w.step (i := 1 + a1) (j := 1 + a2) hm (by omega) (by omega) (by omega) (by omega) hn hl
      generalize hNW : (pcs F M).getD (1 + a1) [] ++ (pcs F M).getD (1 + a2) [] = nw at hnl wn ⊢
      obtain ⟨rs, s1, s2, s3⟩ := id mM7
      have stay : ∀ H', GrD W.Ts d l H H' → Deck H' d l → MgAt H' m M → H' p = some (.lst (svs (pcs F M))) → ∃ M' m' p' v6 v7 v8, [some (V.ref d), some (.int (most : Nat)), some (.int (many : Nat)), some (.str (sv F)), some (.ref m), some (.ref p), some (.int (0 + (i : Nat))), some (.ref q), some (.str (sv nw))] = [some (.ref d), some (.int (most : Nat)), some (.int (many : Nat)), some (.str (sv F)), some (.ref m'), some (.ref p'), v6, v7, v8] ∧ MgAt H' m' M' ∧ H' p' = some (.lst (svs (pcs F M'))) ∧ p' ≠ d ∧ p' ≠ l ∧ Way F M' many ∧ GrD W.Ts d l H H' ∧ Deck H' d l := fun H' g D mM hp =>
        ⟨M, m, p, _, _, _, rfl, mM, hp, pd, pl, w, g, D⟩
      refine ⟨_, rfl, m, _, rfl, .inr (.inl (.inl s1)), _, rfl, _, _, rfl, rfl, _, rfl, ?_⟩
      refine iteC (fun c1 => ?_) fun _ => stay _ gg D7 mM7 hp7
      refine ⟨_, rfl, sv nw, rfl, small_le (by rw [sv_len]; omega), _, _, rfl, rfl, _, rfl, ?_⟩
      refine iteC (fun c2 => ?_) fun _ => stay _ gg D7 mM7 hp7
      refine ⟨_, rfl, _, rfl, p, _, rfl, .inl (.inl (.inl hp7)), rfl, flat_svs _, _, rfl, ?_⟩
      refine iteC (fun c3 => ?_) fun _ => stay _ gg D7 mM7 hp7
      have c1' := of_decide_eq_true c1
      rw [List.length_map, s2] at c1'
      have c2' := of_decide_eq_true c2
      rw [sv_len] at c2'
      have w2 := wn (by omega) (by omega) (notIn_ps c3)
      refine ⟨_, rfl, _, rfl, by show 1 ≤ sizeLine; decide, fun u hu => ?_⟩
      have g8 := (Gr.refl gg.t').new (o := .tup [.ref q]) hu
      refine cat_tup (g8.get s1) upd_same g8.t' (by rw [List.length_map, s2]; exact small_le (by show M.length + 1 ≤ 100000; omega)) fun r H9 g9 hr9 => ?_
      have g79 := g8.tr g9
      have hp9 := g79.get hp7
      refine ⟨_, rfl, _, rfl, by show 1 ≤ sizeLine; decide, fun y hy => ⟨p, y, _, _, rfl, rfl, ((Gr.refl g79.t').new hy).get hp9, upd_same, by rw [plen]; exact small_le (by show _ + 1 ≤ 100000; omega), fun p2 hp2 => ⟨_, _, rfl, ?_⟩⟩⟩
      have g9y := (Gr.refl g79.t').new (o := .lst [.str (sv nw)]) hy
      have D9 := D7.up (g79.tr g9y)
      obtain ⟨p2d, p2l⟩ := D9.nf hp2
      have g10 := g9y.new (o := .lst (svs (pcs F M) ++ [.str (sv nw)])) hp2
      have eP : svs (pcs F M) ++ [V.str (sv nw)] = svs (pcs F (M ++ [(1 + a1, 1 + a2)])) := by
        rw [pcs_snoc]
        unfold svs stepP
        rw [List.map_append, ← hNW]
        rfl
      have gf := g79.tr g10
      refine ⟨M ++ [(1 + a1, 1 + a2)], r, p2, _, _, _, rfl, ?_, ?_, p2d, p2l, w2, gg.tr gf.D, D7.up gf⟩
      · exact MgAt.snoc (m := m) (rs := rs) s2 (fun i r p a b => gf.get (s3 i r p a b)) (g10.get hr9) (gf.get hq7)
      · rw [eP]
        exact upd_same
    · obtain ⟨M, m, p, v6, v7, v8, rfl, mM, hp, pd, pl, w, g, D3⟩ := h1
      refine ⟨_, rfl, _, rfl, by show 3 ≤ sizeLine; decide, fun a ha => ?_⟩
      have g4 := (Gr.refl g.t').new (o := .tup [.str "vocabulary", .str (sv F), .ref m]) ha
      refine k a (sv F) M _ ⟨m, upd_same, mM.up g4⟩ ⟨?_, ?_, ?_, ?_, ?_, ?_, ?_, ?_⟩ (g.tr g4.D) (D3.up g4)
      · rw [lt_sv]; exact faz
      · rw [lt_sv]; exact fnd
      · rw [lt_sv]; exact f1
      · rw [lt_sv]; omega
      · have := w.ml; omega
      · rw [lt_sv]; exact w.ok
      · rw [lt_sv]; exact w.pn
      · rw [lt_sv]; exact w.sh
end
end Zk
set_option Elab.async false
set_option linter.all false
set_option maxRecDepth 100000
set_option maxHeartbeats 4000000
namespace Zk
open PySem PySem.Spec PyProof.Rows L2 GxR Zn Zm
/-! ### calls by names alone -/
def tCallW (sp : Sp) (gV : List V → List V) (E : XK) (tk : TA) : TE := fun σ H Q => tk σ H fun zs H1 => sp (gV zs) H1 Q E
theorem pe_callW {X : Cx} {CX : CXT} {k : Nat} {f : Addr} {fd : FuncData} {ps ks : List Str} {sp : Sp} {x : Str} {p pos : Pos} {E : XK} {kws : List Keyword} {tk : TA} {g : List Value → List Value → List Value} {gV : List V → List V → List V}
    (F : FnOk X.prog X.w X.K X.mg X.base CX k f fd ps sp) (hr : Room k X.A) (hg : Gl X x) (hm : X.mg x = some (.ref f)) (kp : PySem.W.keepIn X.K (.ref f) = true) (hb : KBinds X.K fd ps ks g gV) (hx : Passes CX X E) (hkw : PK X kws tk)
    (hall : (backToKw pos (keywordEach kws X.env)).all (·.1.isSome) = true := by rfl) (hks : (backToKw pos (keywordEach kws X.env)).filterMap (·.1) = ks := by rfl) (hdb : (x == ("__debug__" : Str)) = false := by decide)
    (hpl : ((backTo pos (starEach [] X.env)).any (·.1) || (backToKw pos (keywordEach kws X.env)).any (·.1.isNone)) = false := by rfl) :
    PE X (.Call (.Name x p) [] kws pos) (tCallW sp (gV []) E tk) := by
  constructor
  intro pins s σ H Q I h
  apply wpAny_Call_Name_kw
  apply ld_glob I hg hm _ hdb
  apply PySem.W.callWith_KW0 (h₀ := X.base) I.ok.mod.kin kp hall _ hpl
  refine thn (hkw.run pos pins s σ H _ I h) ?_
  rintro ws s2 ⟨zs, H2, I2, rz, q2⟩
  refine ⟨I2.kIn, ?_⟩
  rw [hks]
  exact run_fnk F hr hb hx I2 .nil rz q2
def turn2 {α : Type} : List α → List α → List α
  | [], [u, v] => [v, u]
  | _, _ => []
/-- a def of two parameters, called by their names turned round -/
theorem kb2 {K : PySem.W.Frag} {x qual : Str} {st : Stmt} {f : Addr} {fd : FuncData} (F : Fun K x qual st f fd) {p1 p2 : Str}
    (h : ∀ (kV doc pm : Value) (an : Option Addr) (cdv ct u v : Value), bindArgs (PySem.W.fnOf x qual (defArgs st) (defBody st) (defScope st) .none kV doc pm an cdv ct) ⟨[], [(p2, u), (p1, v)]⟩ = pure [(p1, v), (p2, u)]) :
    KBinds K fd [p1, p2] [p2, p1] turn2 turn2 := by
  obtain ⟨oc, od, kV, doc, pm, an, cdv, ct, osl, rfl, lk, hcd⟩ := F.ex
  refine ⟨fun s us ws hk hl => ?_, fun {vs us zs ws} r rz => ?_⟩
  · match us, ws, hl with
    | [], [u, v], _ => exact .of_eq (h kV doc pm an cdv ct u v)
  · cases r with
    | cons _ _ => exact .nil
    | nil =>
      cases rz with
      | nil => exact .nil
      | cons a rz =>
        cases rz with
        | nil => exact .nil
        | cons b rz =>
          cases rz with
          | nil => exact .cons b (.cons a .nil)
          | cons _ _ => exact .nil
section
variable {P : Program} {w : World} {K : PySem.W.Frag} {mg : Str → Option Value} {base : Heap} (W : Wd K mg base)
include W
theorem kb22 : KBinds K W.d23 ["vocabulary", "text"] ["text", "vocabulary"] turn2 turn2 := kb2 W.D23.F fun _ _ _ _ _ _ _ _ => rfl
theorem kb23 : KBinds K W.d24 ["vocabulary", "tokens"] ["tokens", "vocabulary"] turn2 turn2 := kb2 W.D24.F fun _ _ _ _ _ _ _ _ => rfl
end
end Zk
set_option Elab.async false
set_option linter.all false
set_option maxRecDepth 100000
set_option maxHeartbeats 4000000
namespace Zk
open PySem PySem.Spec PyProof.Rows L2 GxR Zn Zm
/-- data whose text is short -/
structure RI (k : Nat) (d : PyData) : Prop where
  sh : PyData.showable d = true
  nd : d.hasDict = false
  dp : d.depth ≤ 59
  ln : d.shown.length ≤ k
theorem str_app_len (a b : Str) : (a ++ b).length = a.length + b.length := by
  show (a.cps ++ b.cps).size = _
  rw [Array.size_append]
  rfl
theorem join_le {k : Nat} : ∀ ts : List Str, (∀ t ∈ ts, t.length ≤ k) → (Str.join ", " ts).length ≤ ts.length * (k + 2)
  | [], _ => Nat.zero_le _
  | [x], h => by
    have := h x List.mem_cons_self
    show x.length ≤ 1 * (k + 2)
    omega
  | x :: y :: r, h => by
    have h1 := h x List.mem_cons_self
    have h2 := join_le (y :: r) fun t ht => h t (List.mem_cons_of_mem _ ht)
    show (x ++ ", " ++ Str.join ", " (y :: r)).length ≤ (r.length + 1 + 1) * (k + 2)
    rw [str_app_len, str_app_len]
    have e : ((", " : Str)).length = 2 := rfl
    rw [e, Nat.succ_mul]
    have h3 : (Str.join ", " (y :: r)).length ≤ (r.length + 1) * (k + 2) := h2
    omega
theorem all_items {k : Nat} : ∀ ds : List PyData, (∀ d ∈ ds, RI k d) → PyData.showableAll ds = true ∧ PyData.hasDictAll ds = false ∧ PyData.depthAll ds ≤ 59 ∧ (PyData.shownAll ds).length = ds.length ∧ ∀ t ∈ PyData.shownAll ds, t.length ≤ k
  | [], _ => ⟨by simp [PyData.showableAll], by simp [PyData.hasDictAll], by simp [PyData.depthAll], by simp [PyData.shownAll], by simp [PyData.shownAll]⟩
  | d :: r, h => by
    obtain ⟨a, b, c, e, f⟩ := all_items r fun x hx => h x (List.mem_cons_of_mem _ hx)
    have q := h d List.mem_cons_self
    rw [PyData.showableAll, PyData.hasDictAll, PyData.depthAll, PyData.shownAll, q.sh, q.nd, a, b]
    refine ⟨rfl, rfl, Nat.max_le.mpr ⟨q.dp, c⟩, by rw [List.length_cons, List.length_cons, e], fun t ht => ?_⟩
    rcases List.mem_cons.mp ht with rfl | ht
    · exact q.ln
    · exact f t ht
/-- data that repr may be asked of -/
structure RP (d : PyData) : Prop where
  sh : PyData.showable d = true
  nd : d.hasDict = false
  dp : d.depth ≤ 60
  ln : d.shown.length ≤ sizeLine
theorem RP.tup {k : Nat} {ds : List PyData} (h : ∀ d ∈ ds, RI k d) (hl : ds.length * (k + 2) + 3 ≤ 100000) : RP (.tuple ds) := by
  obtain ⟨a, b, c, e, f⟩ := all_items ds h
  refine ⟨by rw [PyData.showable]; exact a, by rw [PyData.hasDict]; exact b, by rw [PyData.depth]; omega, small_le ?_⟩
  rw [PyData.shown]
  unfold tupleText
  rw [str_app_len, str_app_len]
  have h1 := join_le _ f
  rw [e] at h1
  have h2 : ((if (PyData.shownAll ds).length == 1 then ",)" else ")" : String) : Str).length ≤ 2 := by split <;> decide
  have h3 : ((("(" : Str))).length = 1 := rfl
  omega
theorem RI.int {n : Nat} (h : n < 100000000) : RI 10 (.int (n : Nat)) := by
  refine ⟨?_, rfl, by rw [PyData.depth]; decide, ?_⟩
  · rw [PyData.showable]
    refine decide_eq_true ?_
    show (Int.natAbs (n : Int)).log2 < 1920
    rw [Int.natAbs_natCast]
    by_cases h0 : n = 0
    · rw [h0]; decide
    · exact (Nat.log2_lt h0).mpr (Nat.lt_trans h (by decide))
  · rw [PyData.shown]
    have := int_text_length_le10 (a := (n : Int)) (k := 8) (by decide) (by rw [Int.natAbs_natCast]; exact h)
    show (Str.ofString (toString (n : Int))).length ≤ 10
    rw [PySem.ofString_length]
    omega
theorem RI.str {x : Str} (h : ∀ c ∈ lt x, c ≤ 122) (hl : x.length ≤ 1000) : RI 10002 (.str x) := by
  refine ⟨rfl, rfl, by rw [PyData.depth]; decide, ?_⟩
  rw [PyData.shown]
  have := StrLaws.reprText_len x fun c hc => Nat.lt_of_le_of_lt (h c hc) (by decide)
  omega
theorem rp_dI {t : List Nat} (h : ∀ x ∈ t, x < 100000000) (hl : t.length ≤ 1000) : RP (dI t) := by
  refine RP.tup (k := 10) (fun d hd => ?_) (by rw [List.length_map]; omega)
  obtain ⟨x, hx, rfl⟩ := List.mem_map.mp hd
  exact RI.int (h x hx)
def dS (x y : Str) : PyData := .tuple [.str x, .str y]
theorem rp_dS {x y : Str} (h : ∀ c ∈ lt x, c ≤ 122) (hl : x.length ≤ 1000) (h2 : ∀ c ∈ lt y, c ≤ 122) (hl2 : y.length ≤ 1000) : RP (dS x y) := by
  refine RP.tup (k := 10002) (fun d hd => ?_) (by show 2 * (10002 + 2) + 3 ≤ 100000; decide)
  rcases List.mem_cons.mp hd with rfl | hd
  · exact RI.str h hl
  · rw [List.mem_singleton.mp hd]
    exact RI.str h2 hl2
def dR : PyData := .tuple [.str "right"]
theorem rp_dR : RP dR := by
  refine RP.tup (k := 10002) (fun d hd => ?_) (by show 1 * (10002 + 2) + 3 ≤ 100000; decide)
  rw [List.mem_singleton.mp hd]
  exact RI.str (by decide) (by decide)
def dE : PyData := .tuple [dI [], .str ""]
theorem rp_dE : RP dE := by
  refine RP.tup (k := 10002) (fun d hd => ?_) (by show 2 * (10002 + 2) + 3 ≤ 100000; decide)
  rcases List.mem_cons.mp hd with rfl | hd
  · have := rp_dI (t := []) (by simp) (by decide)
    refine ⟨this.sh, this.nd, ?_, ?_⟩
    · unfold dI
      rw [PyData.depth]
      decide
    · decide +kernel
  · rw [List.mem_singleton.mp hd]
    exact RI.str (by decide) (by decide)
theorem rp_str {x : Str} (h : ∀ c ∈ lt x, c ≤ 122) (hl : x.length ≤ 1000) : RP (.str x) := by
  have := RI.str h hl
  exact ⟨this.sh, this.nd, Nat.le_trans this.dp (by decide), small_le (Nat.le_trans this.ln (by decide))⟩
theorem rr {K : PySem.W.Frag} {a : Addr} {d : PyData} {H : Hp} {Q : VK} (hd : Dp K H (.ref a) d) (R : RP d) (q : Q (.str d.shown) H) : rRepr K [.ref a] H Q := ⟨_, d, rfl, hd, R.sh, R.nd, R.dp, R.ln, .inl ⟨_, rfl⟩, q⟩
theorem rrs {K : PySem.W.Frag} {x : Str} {H : Hp} {Q : VK} (R : RP (.str x)) (q : Q (.str (PyData.str x).shown) H) : rRepr K [.str x] H Q := ⟨_, .str x, rfl, .str _, R.sh, R.nd, R.dp, R.ln, .inr ⟨_, rfl⟩, q⟩
/-- pieces are of the letters -/
theorem fold_letters {L : List Nat} : ∀ (M : Mg) (ps : List (List Nat)), (∀ y ∈ ps, ∀ c ∈ y, c ∈ L) → ∀ y ∈ M.foldl stepP ps, ∀ c ∈ y, c ∈ L
  | [], ps, h => h
  | p :: M, ps, h => by
    refine fold_letters M (stepP ps p) fun y hy => ?_
    unfold stepP at hy
    have g : ∀ i, ∀ c ∈ ps.getD i [], c ∈ L := fun i c hc => by
      rw [List.getD_eq_getElem?_getD] at hc
      cases e : ps[i]? with
      | none => rw [e] at hc; cases hc
      | some z =>
        rw [e] at hc
        exact h z (List.mem_of_getElem? e) c hc
    rcases List.mem_append.mp hy with hy | hy
    · exact h y hy
    · rw [List.mem_singleton.mp hy]
      intro c hc
      exact (List.mem_append.mp hc).elim (g _ c) (g _ c)
theorem pcs_letters {L : List Nat} {M : Mg} (i : Nat) : ∀ c ∈ (pcs L M).getD i [], c ∈ L := by
  intro c hc
  rw [List.getD_eq_getElem?_getD] at hc
  cases e : (pcs L M)[i]? with
  | none => rw [e] at hc; cases hc
  | some z =>
    rw [e] at hc
    refine fold_letters M _ (fun y hy c hc => ?_) z (List.mem_of_getElem? e) c hc
    rcases List.mem_cons.mp hy with rfl | hy
    · cases hc
    · obtain ⟨x, hx, rfl⟩ := List.mem_map.mp hy
      rw [List.mem_singleton.mp hc]
      exact hx
theorem txt_letters {L : List Nat} {M : Mg} {t : List Nat} : ∀ c ∈ txt (pcs L M) t, c ∈ L := by
  intro c hc
  unfold txt at hc
  obtain ⟨y, hy, hc⟩ := List.mem_flatten.mp hc
  obtain ⟨x, _, rfl⟩ := List.mem_map.mp hy
  exact pcs_letters x c hc
theorem txt_len {L : List Nat} {M : Mg} (sh : ∀ y ∈ pcs L M, y.length ≤ 12) : ∀ t : List Nat, (txt (pcs L M) t).length ≤ t.length * 12
  | [] => Nat.zero_le _
  | x :: r => by
    have h := txt_len sh r
    have h2 : ((pcs L M).getD x []).length ≤ 12 := by
      rw [List.getD_eq_getElem?_getD]
      cases e : (pcs L M)[x]? with
      | none => simp
      | some y => exact sh y (List.mem_of_getElem? e)
    unfold txt at h ⊢
    rw [List.map_cons, List.flatten_cons, List.length_append, List.length_cons, Nat.succ_mul]
    omega
theorem txt_app (ps : List (List Nat)) (a b : List Nat) : txt ps (a ++ b) = txt ps a ++ txt ps b := by
  unfold txt
  rw [List.map_append, List.flatten_append]
theorem toksFrom_nil (n : Nat) : ∀ (M : Mg) (k : Nat), toksFrom n k M [] = []
  | [], k => rfl
  | p :: M, k => toksFrom_nil n M (k + 1)
/-- the merges as data -/
def dM (M : Mg) : List PyData := M.map fun p => dI [p.1, p.2]
theorem dpAll_M {K : PySem.W.Frag} {H : Hp} : ∀ (rs : List Addr) (M : Mg), rs.length = M.length → (∀ (i : Nat) (r : Addr) (p : Nat × Nat), rs[i]? = some r → M[i]? = some p → H r = some (.tup [.int (p.1 : Nat), .int (p.2 : Nat)])) → DpAll K H (rs.map V.ref) (dM M)
  | [], [], _, _ => .nil
  | r :: rs, p :: M, hl, h => .cons (dp_nts (l := [p.1, p.2]) (h 0 r p rfl rfl)) (dpAll_M rs M (by simpa using hl) fun i r p a b => h (i + 1) r p (by simpa using a) (by simpa using b))
theorem shaped_dM (M : Mg) : SeqAt.shaped (.tuple (dM M)) = true := by
  have key : ∀ M : Mg, PyData.canLayAll0 (dM M) = true ∧ PyData.depthAll (dM M) ≤ 1 := by
    intro M
    induction M with
    | nil => exact ⟨by simp [dM, PyData.canLayAll0], by simp [dM, PyData.depthAll]⟩
    | cons p M ih =>
      obtain ⟨a, b⟩ := ih
      unfold dM at a b ⊢
      obtain ⟨u, v⟩ := shaped_all [p.1, p.2]
      rw [List.map_cons, PyData.canLayAll0, PyData.depthAll, a]
      unfold dI
      rw [PyData.canLay0, PyData.depth, u, v]
      exact ⟨rfl, Nat.max_le.mpr ⟨by decide, b⟩⟩
  obtain ⟨a, b⟩ := key M
  unfold SeqAt.shaped
  rw [PyData.canLay0, PyData.depth, a, Bool.true_and]
  exact decide_eq_true (by omega)
theorem any_dM {M : Mg} {l : List Nat} (h : ∀ p ∈ M, [p.1, p.2] ≠ l) : ((dM M).any fun z => PyData.eqv z (dI l)) = false := by
  rw [Bool.eq_false_iff]
  intro q
  rw [List.any_eq_true] at q
  obtain ⟨d, hd, e⟩ := q
  obtain ⟨p, hp, rfl⟩ := List.mem_map.mp hd
  rw [eqv_dI] at e
  exact h p hp (of_decide_eq_true e)
theorem noP_cut {M : Mg} {t : List Nat} (h : ∀ (j : Nat) (p : Nat × Nat), M[j]? = some p → noP p t) {i : Nat} : ∀ p ∈ M, [p.1, p.2] ≠ (t.drop i).take 2 := by
  intro p hp e
  obtain ⟨j, hj, ej⟩ := List.getElem_of_mem hp
  have hn := h j p (by rw [List.getElem?_eq_getElem hj, ej]) i
  have e0 := congrArg (·[0]?) e
  have e1 := congrArg (·[1]?) e
  simp only [List.getElem?_take, List.getElem?_drop] at e0 e1
  exact hn ⟨by simpa using e0.symm, by simpa using e1.symm⟩
end Zk
set_option Elab.async false
set_option linter.all false
set_option pp.maxSteps 900
set_option maxRecDepth 100000
set_option maxHeartbeats 4000000
namespace Zk
open PySem PySem.Spec PyProof.Rows L2 GxR Zn Zm
abbrev N47 : List Str := ["script", "deck", "turn", "vocabulary", "text", "due", "told", "many", "one", "other", "near", "at", "token", "k"]
theorem boot_repr' : bootBuiltins "repr" = some (.builtin "repr") := by decide +kernel
theorem nts_app (a b : List Nat) : nts (a ++ b) = nts a ++ nts b := List.map_append
theorem neF (x : V) : V.bl (!decide (x = x)) = V.bl false := by simp
theorem cutS_two {L : Str} (h : 1 ≤ (lt L).length) (h6 : (lt L).length ≤ 6) : ∃ B : List Nat, cutS L none (some (2 : Nat)) = sv B ∧ (∀ c ∈ B, c ∈ lt L) ∧ 0 < B.length ∧ B.length ≤ 1000 := by
  have hl : L.cps.toList.length = (lt L).length := rfl
  refine ⟨_, rfl, fun c hc => List.mem_of_mem_drop (List.mem_of_mem_take hc), ?_, ?_⟩
  · rw [List.length_take, List.length_drop, HT.sIx_nat, HT.sIx_none, len_lt]
    omega
  · rw [List.length_take, List.length_drop]
    omega
/-- what the turn goes on with -/
structure Bd (Ts : List Addr) (d l b : Addr) (L : Str) (M : Mg) (H : Hp) : Prop where
  t : TOk Ts H
  D : Deck H d l
  v : Voc H b L M
theorem Bd.up {Ts : List Addr} {d l b : Addr} {L : Str} {M : Mg} {H H' : Hp} (B : Bd Ts d l b L M H) (g : Gr Ts H H') : Bd Ts d l b L M H' := ⟨g.t', B.D.up g, B.v.up g⟩
theorem Bd.upD {Ts : List Addr} {d l b : Addr} {L : Str} {M : Mg} {H H' : Hp} (B : Bd Ts d l b L M H) (g : GrD Ts d l H H') (D' : Deck H' d l) : Bd Ts d l b L M H' := ⟨g.t', D', B.v.upD g B.D⟩
theorem Bd.new {Ts : List Addr} {d l b : Addr} {L : Str} {M : Mg} {H : Hp} (B : Bd Ts d l b L M H) {p : Addr} {o : HO} (h : H p = none) : Gr Ts H (upd H p o) := (Gr.refl B.t).new h
theorem GrD.tup {Ts : List Addr} {d l : Addr} {H H' : Hp} (g : GrD Ts d l H H') (D : Deck H d l) {a : Addr} {xs : List V} (h : H a = some (.tup xs)) : H' a = some (.tup xs) := g.get h (D.nd h).1 (D.nd h).2
section
variable {P : Program} {w : World} {K : PySem.W.Frag} {mg : Str → Option Value} {base : Heap} (W : Wd K mg base)
include W
theorem ok48 {A : Around} {outer : List Env} {s : Shared} {H : Hp} {E : XK} {cdv : Value} (hgd : A.guards = some []) (hr : Room 7 (A.deeper (envOfC "law" (defScope (top 48)) s.heap.objs.size W.a48 cdv))) {a : Addr} {ns : List Int} (hS : SqL K H a (ns.map V.int)) (hl : ns.length ≤ 63) (ht : TOk W.Ts H) :
    ∃ t, PSs (cxOf CX0 P w K mg base N47 "law" (defScope (top 48)) W.a48 cdv A outer s H E).nox (defBody (top 48)) t ∧ t { nx := fun _ _ => False, rt := fun v _ => v = .bl true } (start N47 [.ref a]) H := by
  have hu : (cxOf CX0 P w K mg base N47 "law" (defScope (top 48)) W.a48 cdv A outer s H E).nox.A.units + 64 < cLine := hr.units
  have hg : (cxOf CX0 P w K mg base N47 "law" (defScope (top 48)) W.a48 cdv A outer s H E).nox.A.guards = some [] := hgd
  have hu65 : (cxOf CX0 P w K mg base N47 "law" (defScope (top 48)) W.a48 cdv A outer s H E).nox.A.units + 65 < cLine := by have := hr.un; show (A.deeper _).units + 65 < cLine; omega
  refine ⟨_, pss_cons (ps_set (i := 1) sc48.nd rfl (.inr rfl) (pe_call (ok38 W) (hr.mono (by decide)) (by rfl) W.D38.g W.D38.kp W.D38.b .nil pass0 (pa_cons (pv 0) (pa_cons pe_int pa_nil))))
    (pss_cons (ps_for PassesOwn.never rfl (pi_range1 (by rfl) W.m_range (pa_cons pe_int pa_nil)) (pg_name (i := 2) sc48.nd rfl (.inl rfl))
      (Evl.pss_cut (ps_set (i := 3) sc48.nd rfl (.inr rfl) (pe_ifExp (pt_cmpR op_lt (pv 2) pe_int (nomark _)) (pe_call (ok43 W) (hr.mono (by decide)) (by rfl) W.D43.g W.D43.kp W.D43.b .nil pass0 (pa_cons (pv 1) (pa_cons pe_int (pa_cons pe_int pa_nil)))) (pe_call (ok43 W) (hr.mono (by decide)) (by rfl) W.D43.g W.D43.kp W.D43.b .nil pass0 (pa_cons (pv 1) (pa_cons pe_int (pa_cons pe_int pa_nil))))))
      (Evl.pss_cut (ps_set (i := 4) sc48.nd rfl (.inl rfl) (pe_ifExp (pt_cmpR op_gt (pv 2) pe_int (nomark _)) (pe_call (ok44 W) (hr.mono (by decide)) (by rfl) W.D44.g W.D44.kp W.D44.b .nil pass0 (pa_cons (pv 1) (pa_cons (pe_ix ix_tup (pv 3) pe_int (fun _ _ => rfl)) (pa_cons pe_int pa_nil))))
          (pe_call (ok44 W) (hr.mono (by decide)) (by rfl) W.D44.g W.D44.kp W.D44.b .nil pass0 (pa_cons (pv 1) (pa_cons (pe_slice sl_str (pe_ix ix_tup (pv 3) pe_int (fun _ _ => rfl)) po_none (po_some pe_int)) (pa_cons pe_int pa_nil))))))
      (pss_cons (ps_set (i := 5) sc48.nd rfl (.inl rfl) (pe_call (ok46 W) (hr.mono (by decide)) (by rfl) W.D46.g W.D46.kp W.D46.b .nil pass0 (pa_cons (pv 3) (pa_cons (pv 4) pa_nil))))
      (Evl.pss_cut (ps_set (i := 6) sc48.nd rfl (.inr rfl) (pe_ifExp (pt_cmpR op_lt (pv 2) pe_int (nomark _)) (pe_call (ok23 W) hr (by rfl) W.D23.g W.D23.kp W.D23.b .nil pass0 (pa_cons (pv 3) (pa_cons (pv 4) pa_nil))) (pe_callW (ok23 W) hr (by rfl) W.D23.g W.D23.kp (kb22 W) pass0 (pk_cons (pv 4) (pk_cons (pv 3) pk_nil)))))
      (pss_cons (ps_if (PW.pt (pw_or (pt_cmpR op_ne (pe_callB (cr_repr hg hu) (by rfl) W.m_repr boot_repr' (pa_cons (pv 6) pa_nil)) (pe_callB (cr_repr hg hu) (by rfl) W.m_repr boot_repr' (pa_cons (pv 5) pa_nil)) (nomark _))
          (pw_or1 (pt_cmpR op_ne (pe_callB (cr_repr hg hu) (by rfl) W.m_repr boot_repr' (pa_cons (pe_call (ok25 W) hr (by rfl) W.D25.g W.D25.kp W.D25.b .nil pass0 (pa_cons (pv 3) (pa_cons (pv 4) (pa_cons (pv 5) pa_nil)))) pa_nil)) (pe_callB (cr_repr hg hu) (by rfl) W.m_repr boot_repr' (pa_cons (pe_tup (pa_cons pe_str pa_nil)) pa_nil)) (nomark _))))) (pss_one (ps_ret pe_bl)) pss_nil)
      (pss_cons (ps_if (pt_cmpR (op_neD hu) (pe_lc (own := [("at", 11)]) (g := gName 11) (tt := tTest (tOp (rInT K) (tSl (rSlA K) (tVar 6) (tPart (tVar 11)) (tPart (tOp (rI0 fun i j => .int (i + j)) (tVar 11) (tC (.int 2))))) (tOp (rIxT K) (tVar 3) (tC (.int 2))))) (te := tC (.int 1)) rfl sc48.nd (pi_range1 (by rfl) W.m_range (pa_cons (pe_op op_sub (pe_callB call_len_seq (by rfl) W.m_len PySem.boot_len (pa_cons (pv 5) pa_nil)) pe_int) pa_nil))
            (blkOk_by (by rfl)) (fun _ _ _ _ _ => pg_name (i := 11) sc48.nd rfl (.inl rfl)) (fun _ _ _ _ _ => pts_one (pt_cmpR (op_inT hu65) (pe_slice sl_tupA (pv 6) (po_some (pv 11)) (po_some (pe_op op_add (pv 11) pe_int))) (pe_ix ix_tup (pv 3) pe_int (fun _ _ => rfl)) (by rfl))) (fun _ _ _ _ _ => pe_int)) (pe_lst pa_nil) (nomark _)) (pss_one (ps_ret pe_bl)) pss_nil)
      (pss_cons (ps_if (pt_cmpR op_ne (pe_callB (cr_repr hg hu) (by rfl) W.m_repr boot_repr' (pa_cons (pe_tup (pa_cons (pe_call (ok24 W) hr (by rfl) W.D24.g W.D24.kp W.D24.b .nil pass0 (pa_cons (pv 3) (pa_cons (pv 5) pa_nil))) (pa_cons (pe_callW (ok24 W) hr (by rfl) W.D24.g W.D24.kp (kb23 W) pass0 (pk_cons (pv 5) (pk_cons (pv 3) pk_nil))) pa_nil))) pa_nil))
          (pe_callB (cr_repr hg hu) (by rfl) W.m_repr boot_repr' (pa_cons (pe_tup (pa_cons (pv 4) (pa_cons (pv 4) pa_nil))) pa_nil)) (nomark _)) (pss_one (ps_ret pe_bl)) pss_nil)
      (pss_cons (ps_if (pt_cmpR op_ne (pe_callB (cr_repr hg hu) (by rfl) W.m_repr boot_repr' (pa_cons (pe_join pe_str (pe_lc (own := [("token", 12)]) (g := gName 12) (tt := tYes) (te := tCall (sp22 W.Ts) [] E0 (tCons (tVar 3) (tCons (tVar 12) tNil))) rfl sc48.nd (pi_tup (pv 6)) (blkOk_by (by rfl)) (fun _ _ _ _ _ => pg_name (i := 12) sc48.nd rfl (.inl rfl)) (fun _ _ _ _ _ => pts_nil)
            (fun _ _ _ _ _ => pe_call (ok22 W) hr (by rfl) W.D22.g W.D22.kp W.D22.b .nil pass0 (pa_cons (pv 3) (pa_cons (pv 12) pa_nil))))) pa_nil))
          (pe_callB (cr_repr hg hu) (by rfl) W.m_repr boot_repr' (pa_cons (pv 4) pa_nil)) (nomark _)) (pss_one (ps_ret pe_bl)) pss_nil)
      (pss_cons (ps_set (i := 7) sc48.nd rfl (.inr rfl) (pe_call (ok21 W) hr (by rfl) W.D21.g W.D21.kp W.D21.b .nil pass0 (pa_cons (pv 3) pa_nil)))
      (pss_cons (ps_asg (pe_lc (own := [("k", 13)]) (g := gName 13) (tt := tYes) (te := tCB (fun xs H Q => ∃ p ys, xs = [.ref p] ∧ ((SqL K H p ys ∧ ∀ l, H l = none → Q (.ref l) (upd H l (.tup ys))) ∨ (SqT K H p ys ∧ Q (.ref p) H))) (tCons (tLc (iRng1 (tCons (tCall (sp39 W.Ts) [] E0 (tCons (tVar 1) (tCons (tC (.int 4)) tNil))) tNil)) (gName 11) tYes (tCall (sp39 W.Ts) [] E0 (tCons (tVar 1) (tCons (tVar 7) tNil))) [11]) tNil)) rfl sc48.nd (pi_range1 (by rfl) W.m_range (pa_cons pe_int pa_nil)) (blkOk_by (by rfl)) (fun _ _ _ _ _ => pg_name (i := 13) sc48.nd rfl (.inl rfl)) (fun _ _ _ _ _ => pts_nil)
            (fun _ _ _ _ _ => pe_callTy call_tuple_of (by rfl) W.m_tuple (by decide +kernel) (pa_cons (pe_lc (own := [("at", 11)]) rfl sc48.nd (pi_range1 (by rfl) W.m_range (pa_cons (pe_call (ok39 W) (hr.mono (by decide)) (by rfl) W.D39.g W.D39.kp W.D39.b .nil pass0 (pa_cons (pv 1) (pa_cons pe_int pa_nil))) pa_nil)) (blkOk_by (by rfl)) (fun _ _ _ _ _ => pg_name (i := 11) sc48.nd rfl (.inl rfl)) (fun _ _ _ _ _ => pts_nil) (fun _ _ _ _ _ => pe_call (ok39 W) (hr.mono (by decide)) (by rfl) W.D39.g W.D39.kp W.D39.b .nil pass0 (pa_cons (pv 1) (pa_cons (pv 7) pa_nil)))) pa_nil)))
          (pg_unl rfl (pgs_cons (pg_name (i := 8) sc48.nd rfl (.inl rfl)) (pgs_cons (pg_name (i := 9) sc48.nd rfl (.inl rfl)) pgs_nil))))
      (pss_cons (ps_set (i := 10) sc48.nd rfl (.inl rfl) (pe_call (ok47 W) (hr.mono (by decide)) (by rfl) W.D47.g W.D47.kp W.D47.b .nil pass0 (pa_cons (pv 3) (pa_cons (pe_op op_catA (pv 8) (pv 9)) pa_nil))))
      (pss_cons (ps_if (pt_cmpR op_gt (pe_callB call_len_str (by rfl) W.m_len PySem.boot_len (pa_cons (pv 10) pa_nil)) pe_int (nomark _)) (pss_one ps_continue) pss_nil)
      (pss_cons (ps_if (pt_cmpR op_ne (pe_callB (cr_repr hg hu) (by rfl) W.m_repr boot_repr' (pa_cons (pe_tup (pa_cons (pe_call (ok24 W) hr (by rfl) W.D24.g W.D24.kp W.D24.b .nil pass0 (pa_cons (pv 3) (pa_cons (pe_op op_catA (pv 8) (pv 9)) pa_nil))) (pa_cons (pe_op op_add_str (pe_call (ok24 W) hr (by rfl) W.D24.g W.D24.kp W.D24.b .nil pass0 (pa_cons (pv 3) (pa_cons (pv 8) pa_nil))) (pe_call (ok24 W) hr (by rfl) W.D24.g W.D24.kp W.D24.b .nil pass0 (pa_cons (pv 3) (pa_cons (pv 9) pa_nil)))) pa_nil))) pa_nil))
          (pe_callB (cr_repr hg hu) (by rfl) W.m_repr boot_repr' (pa_cons (pe_tup (pa_cons (pv 10) (pa_cons (pv 10) pa_nil))) pa_nil)) (nomark _)) (pss_one (ps_ret pe_bl)) pss_nil)
      (pss_one (ps_if (pt_cmpR op_ne (pe_callB (cr_repr hg hu) (by rfl) W.m_repr boot_repr' (pa_cons (pe_call (ok23 W) hr (by rfl) W.D23.g W.D23.kp W.D23.b .nil pass0 (pa_cons (pv 3) (pa_cons (pv 10) pa_nil))) pa_nil)) (pe_callB (cr_repr hg hu) (by rfl) W.m_repr boot_repr' (pa_cons (pe_call (ok46 W) (hr.mono (by decide)) (by rfl) W.D46.g W.D46.kp W.D46.b .nil pass0 (pa_cons (pv 3) (pa_cons (pv 10) pa_nil))) pa_nil)) (nomark _)) (pss_one (ps_ret pe_bl)) pss_nil))))))))))))))))
    (pss_one (ps_ret (pe_cmpR op_eq (pe_callB (cr_repr hg hu) (by rfl) W.m_repr boot_repr' (pa_cons (pe_tup (pa_cons (pe_call (ok23 W) hr (by rfl) W.D23.g W.D23.kp W.D23.b .nil pass0 (pa_cons (pv 3) (pa_cons pe_str pa_nil))) (pa_cons (pe_call (ok24 W) hr (by rfl) W.D24.g W.D24.kp W.D24.b .nil pass0 (pa_cons (pv 3) (pa_cons (pe_tup pa_nil) pa_nil))) pa_nil))) pa_nil))
      (pe_callB (cr_repr hg hu) (by rfl) W.m_repr boot_repr' (pa_cons (pe_tup (pa_cons (pe_tup pa_nil) (pa_cons pe_str pa_nil))) pa_nil)) (nomark _))))), ?_⟩
  refine ⟨_, rfl, a, ns, _, rfl, hS, hl, by decide, by decide, ht, fun d l H1 g1 hd1 hl1 D1 => ?_⟩
  refine ⟨_, rfl, by decide, by decide, for_it walk_range (fun i σ H2 => ∃ v2 v3 v4 v5 v6 v7 v8 v9 v10 v11 v12 v13, σ = [some (.ref a), some (.ref d), v2, v3, v4, v5, v6, v7, v8, v9, v10, v11, v12, v13] ∧ TOk W.Ts H2 ∧ Deck H2 d l ∧ (i = 0 ∨ ∃ b L M, v3 = some (.ref b) ∧ Voc H2 b L M ∧ Good L M))
    ⟨none, none, none, none, none, none, none, none, none, none, none, none, rfl, g1.t', D1, .inl rfl⟩ (fun _ _ _ _ _ => trivial) (fun i x σ H2 H3 hi h1 y => ?_) fun σ H2 h1 => ?_⟩
  · obtain ⟨v2, v3, v4, v5, v6, v7, v8, v9, v10, v11, v12, v13, rfl, t2, D2, _⟩ := h1
    obtain ⟨rfl, hx⟩ := y
    have hx : x = V.int (i : Nat) := by
      rw [hx]
      show V.int (0 + (i : Int)) = _
      rw [Int.zero_add]
    subst hx
    refine ⟨fun σ' H' => ∃ b L M, σ' = [some (.ref a), some (.ref d), some (.int (i : Nat)), some (.ref b), v4, v5, v6, v7, v8, v9, v10, v11, v12, v13] ∧ Bd W.Ts d l b L M H' ∧ Good L M, ?_, fun σ' H' h' => ?_⟩
    · refine ⟨_, rfl, _, _, rfl, rfl, _, rfl, iteC (fun _ => ?_) fun _ => ?_⟩
      · exact ⟨_, rfl, d, l, 4, 8, rfl, D2, by decide, by decide, by decide, t2, fun b L M H4 hv G g4 D4 => ⟨b, L, M, rfl, ⟨g4.t', D4, hv⟩, G⟩⟩
      · exact ⟨_, rfl, d, l, 6, 10, rfl, D2, by decide, by decide, by decide, t2, fun b L M H4 hv G g4 D4 => ⟨b, L, M, rfl, ⟨g4.t', D4, hv⟩, G⟩⟩
    clear t2 D2
    obtain ⟨b, L, M, rfl, B, G⟩ := h'
    refine ⟨fun σ' H' => ∃ z : Str, σ' = [some (.ref a), some (.ref d), some (.int (i : Nat)), some (.ref b), some (.str z), v5, v6, v7, v8, v9, v10, v11, v12, v13] ∧ Bd W.Ts d l b L M H' ∧ (∀ c ∈ lt z, c ∈ lt L) ∧ (lt z).length ≤ 40, ?_, fun σ' H' h' => ?_⟩
    · obtain ⟨m, hv, _⟩ := id B.v
      refine ⟨_, rfl, _, _, rfl, rfl, _, rfl, iteC (fun _ => ?_) fun _ => ?_⟩
      · refine ⟨_, rfl, _, rfl, b, _, 1, _, rfl, rfl, .inl (.inl hv), rfl, d, l, lt L, by rw [sv_lt]; rfl, B.D, G.l1, Nat.le_trans G.l6 (by decide), B.t, fun F H4 f1 f2 g4 D4 => ⟨sv F, rfl, B.upD g4 D4, ?_, ?_⟩⟩
        · rw [lt_sv]; exact f1
        · rw [lt_sv]; exact f2
      · obtain ⟨C, eC, c1, c2, c3⟩ := cutS_two G.l1 G.l6
        refine ⟨_, rfl, _, rfl, b, _, 1, _, rfl, rfl, .inl (.inl hv), rfl, 2, rfl, L, rfl, small_le (by have := G.l6; rw [len_lt]; omega), d, l, C, ?_, B.D, c2, c3, B.t, fun F H4 f1 f2 g4 D4 => ⟨sv F, rfl, B.upD g4 D4, ?_, ?_⟩⟩
        · rw [← eC]
          rfl
        · rw [lt_sv]; exact fun c hc => c1 c (f1 c hc)
        · rw [lt_sv]; exact f2
    clear B
    obtain ⟨z, rfl, B, hz, z40⟩ := h'
    have zl : (lt z).length ≤ 1000 := by omega
    refine ⟨_, rfl, _, rfl, b, L, z, M, rfl, B.v, G, hz, zl, B.t, fun q H4 g4 hq4 => ?_⟩
    have B4 := B.up g4
    clear B g4
    obtain ⟨T, hT⟩ : ∃ T, T = toks (lt L) M (lt z) := ⟨_, rfl⟩
    have hTlt := toks_lt (L := lt L) (M := M) hz
    have hTtx := txt_toks (M := M) G.ok hz
    have hTno := noP_toks G.ok (lt z)
    have hTle := toks_le (lt L) M (lt z)
    rw [← hT] at hq4 hTlt hTtx hTno hTle
    have T40 : T.length ≤ 40 := by omega
    have l6 := G.l6
    have m10 := G.m10
    have RT : RP (dI T) := rp_dI (fun x hx => by have := hTlt x hx; omega) (by omega)
    have Lz : ∀ c ∈ lt z, c ≤ 122 := fun c hc => (G.az c (hz c hc)).2
    have zz : z.length ≤ 1000 := by rw [len_lt]; exact zl
    refine ⟨fun σ' H' => ∃ r, σ' = [some (.ref a), some (.ref d), some (.int (i : Nat)), some (.ref b), some (.str z), some (.ref q), some (.ref r), v7, v8, v9, v10, v11, v12, v13] ∧ Bd W.Ts d l b L M H' ∧ H' q = some (.tup (nts T)) ∧ H' r = some (.tup (nts T)), ?_, fun σ' H' h' => ?_⟩
    · refine ⟨_, rfl, _, _, rfl, rfl, _, rfl, iteC (fun _ => ?_) fun _ => ?_⟩
      · refine ⟨_, rfl, _, rfl, b, L, z, M, rfl, B4.v, G, hz, zl, B4.t, fun r H5 g5 hr5 => ⟨r, rfl, B4.up g5, g5.get hq4, ?_⟩⟩
        rw [hT]; exact hr5
      · refine ⟨_, rfl, _, rfl, b, L, z, M, rfl, B4.v, G, hz, zl, B4.t, fun r H5 g5 hr5 => ⟨r, rfl, B4.up g5, g5.get hq4, ?_⟩⟩
        rw [hT]; exact hr5
    clear B4 hq4
    obtain ⟨r, rfl, B5, hq5, hr5⟩ := h'
    refine ⟨_, rfl, _, dI T, rfl, dp_nts hr5, (RT).sh, (RT).nd, (RT).dp, (RT).ln, .inl ⟨_, rfl⟩, _, rfl, _, dI T, rfl, dp_nts hq5, (RT).sh, (RT).nd, (RT).dp, (RT).ln, .inl ⟨_, rfl⟩, ?_⟩
    refine ⟨rfl, false, neF _, iteF ?_⟩
    refine ⟨_, rfl, _, rfl, _, rfl, b, q, L, z, M, rfl, B5.v, G, hz, zl, (by rw [← hT]; exact hq5), B5.t, fun p H6 g6 hp6 => ?_⟩
    refine ⟨_, dR, rfl, .tup (.inl (.inl hp6)) (.cons (.str _) .nil), (rp_dR).sh, (rp_dR).nd, (rp_dR).dp, (rp_dR).ln, .inl ⟨_, rfl⟩, ?_⟩
    refine ⟨(by show 1 ≤ sizeLine; decide), fun p2 hp2 => ?_⟩
    refine ⟨_, dR, rfl, .tup (.inl (.inl upd_same)) (.cons (.str _) .nil), (rp_dR).sh, (rp_dR).nd, (rp_dR).dp, (rp_dR).ln, .inl ⟨_, rfl⟩, ?_⟩
    refine ⟨rfl, false, neF _, iteF ?_⟩
    have B7 := (B5.up g6).up ((B5.up g6).new (o := .tup [.str "right"]) hp2)
    have g57 := g6.tr ((B5.up g6).new (o := .tup [.str "right"]) hp2)
    have hq7 := g57.get hq5
    have hr7 := g57.get hr5
    generalize upd H6 p2 (.tup [.str "right"]) = H7 at B7 hq7 hr7 ⊢
    clear g57 hp2 hp6 g6 B5 hq5 hr5
    -- no pair is left
    refine ⟨_, rfl, q, _, rfl, .inr (.inl (.inl hq7)), _, _, rfl, rfl, _, rfl, (by rw [nts_len]; omega), (by rw [nts_len]; omega), fun D hD => lc_it walk_range (fun j H8 => Gr W.Ts H7 H8 ∧ H8 D = some (.lst [])) ⟨B7.new hD, upd_same⟩ (fun _ _ _ _ => trivial) (fun j x H8 H9 hj h8 y => ?_) fun H8 h8 => ?_⟩
    · obtain ⟨g8, hD8⟩ := h8
      obtain ⟨rfl, hx⟩ := y
      have hx : x = V.int (j : Nat) := by
        rw [hx]
        show V.int (0 + (j : Int)) = _
        rw [Int.zero_add]
      subst hx
      refine ⟨rfl, ?_⟩
      refine ⟨_, rfl, _, rfl, j, rfl, _, rfl, _, _, rfl, rfl, (j + 2 : Nat), rfl, ?_⟩
      refine sl_tup_nat (Ts := W.Ts) (g8.get hr7) g8.t' (by omega) fun u H9 g9 hu9 => ?_
      have g89 := g8.tr g9
      obtain ⟨m, hv, rs, hm1, hm2, hm3⟩ := B7.v
      rw [nts_cut, show j + 2 - j = 2 by omega] at hu9
      refine ⟨_, rfl, b, _, 2, _, rfl, rfl, .inl (.inl (g89.get hv)), rfl, dI ((T.drop j).take 2), dM M, dp_nts hu9, .tup (.inl (.inl (g89.get hm1))) (dpAll_M rs M hm2 fun i r p a b => g89.get (hm3 i r p a b)), shaped_dI _, shaped_dM M, false, ?_, iteF ⟨g89, g9.get hD8⟩⟩
      rw [any_dM (noP_cut hTno)]
    obtain ⟨g8, hD8⟩ := h8
    refine ⟨by show 0 ≤ sizeLine; decide, fun p hp => ⟨dL [], dL [], .lst (.inl (.inl (((Gr.refl g8.t').new hp).get hD8))) .nil, .lst (.inl (.inl upd_same)) .nil, shaped_dL _, shaped_dL _, false, by rw [eqv_dL]; rfl, iteF ?_⟩⟩
    have g9 := g8.new (o := .lst []) hp
    have B9 := B7.up g9
    have hq9 := g9.get hq7
    have hr9 := g9.get hr7
    generalize upd H8 p (.lst []) = H9 at B9 hq9 hr9 ⊢
    clear g9 hp hD8 g8 B7 hq7 hr7
    -- texts of the tokens
    have eT : sv (txt (pcs (lt L) M) T) = z := by rw [hTtx, sv_lt]
    refine ⟨_, rfl, _, rfl, b, q, L, M, T, rfl, B9.v, G, hq9, hTlt, by omega, B9.t, fun H10 g10 => ?_⟩
    rw [eT]
    have B10 := B9.up g10
    refine ⟨_, rfl, _, rfl, b, q, L, M, T, rfl, B10.v, G, g10.get hq9, hTlt, by omega, B10.t, fun H11 g11 => ?_⟩
    rw [eT]
    have B11 := B10.up g11
    have g911 := g10.tr g11
    refine ⟨by show 2 ≤ sizeLine; decide, fun p hp => ?_⟩
    refine ⟨_, dS z z, rfl, .tup (.inl (.inl upd_same)) (.cons (.str _) (.cons (.str _) .nil)), (rp_dS Lz zz Lz zz).sh, (rp_dS Lz zz Lz zz).nd, (rp_dS Lz zz Lz zz).dp, (rp_dS Lz zz Lz zz).ln, .inl ⟨_, rfl⟩, ?_⟩
    refine ⟨_, rfl, _, rfl, by show 2 ≤ sizeLine; decide, fun p2 hp2 => ?_⟩
    refine ⟨_, dS z z, rfl, .tup (.inl (.inl upd_same)) (.cons (.str _) (.cons (.str _) .nil)), (rp_dS Lz zz Lz zz).sh, (rp_dS Lz zz Lz zz).nd, (rp_dS Lz zz Lz zz).dp, (rp_dS Lz zz Lz zz).ln, .inl ⟨_, rfl⟩, ?_⟩
    refine ⟨rfl, false, neF _, iteF ?_⟩
    have gn := (B11.new (o := .tup [.str z, .str z]) hp).new (o := .tup [.str z, .str z]) hp2
    have B12 := B11.up gn
    have hr12 := (g911.tr gn).get hr9
    generalize upd (upd H11 p (.tup [.str z, .str z])) p2 (.tup [.str z, .str z]) = H12 at B12 hr12 ⊢
    clear gn hp2 hp g911 B11 g11 B10 g10 B9 hq9 hr9
    -- joined pieces
    refine ⟨⟨_, rfl⟩, _, rfl, r, rfl, ⟨_, .inl (.inl hr12)⟩, fun D hD => lc_it (walk_tup (xs := nts T)) (fun j H13 => Gr W.Ts H12 H13 ∧ H13 D = some (.lst (svs ((T.take j).map fun x => (pcs (lt L) M).getD x [])))) ⟨B12.new hD, upd_same⟩ (fun j H13 _ h => .inl (.inl (h.1.get hr12))) (fun j x H13 H14 hj h13 y => ?_) fun H13 h13 => ?_⟩
    · obtain ⟨g13, hD13⟩ := h13
      obtain ⟨rfl, hx⟩ := y
      rw [nts_len] at hj
      rw [nts_get hj] at hx
      cases hx
      refine ⟨rfl, ?_⟩
      unfold tYes
      refine iteT ?_
      have B13 := B12.up g13
      refine ⟨_, rfl, _, rfl, b, L, M, T[j], rfl, B13.v, G, B13.t, hTlt _ (List.getElem_mem hj), fun H14 g14 => ⟨_, g14.get hD13, ?_, (g13.tr g14).mut hD (notTab B12.t hD), ?_⟩⟩
      · rw [svs_length, List.length_map, List.length_take]
        exact small_lt (by omega)
      · have e : svs ((T.take j).map fun x => (pcs (lt L) M).getD x []) ++ [V.str (sv ((pcs (lt L) M).getD T[j] []))] = svs ((T.take (j + 1)).map fun x => (pcs (lt L) M).getD x []) := by
          rw [List.take_add_one, List.getElem?_eq_getElem hj]
          unfold svs
          rw [List.map_append, List.map_append]
          rfl
        rw [e]
        exact upd_same
    obtain ⟨g13, hD13⟩ := h13
    rw [nts_len, List.take_length] at hD13
    have hD13' : H13 D = some (.lst (((T.map fun x => (pcs (lt L) M).getD x []).map sv).map V.str)) := by
      rw [List.map_map (f := sv)]
      exact hD13
    have hb3 : ∀ y ∈ (T.map fun x => (pcs (lt L) M).getD x []), y.length ≤ 12 := fun y hy => by
      obtain ⟨x, hx, rfl⟩ := List.mem_map.mp hy
      exact piece_le W G.sh x
    refine ⟨_, D, _, rfl, rfl, .inl (.inl (.inl hD13')), ?_, ?_⟩
    · have := sum_le hb3
      rw [List.length_map] at this ⊢
      have e0 : (("" : Str)).length = 0 := rfl
      rw [e0, Nat.mul_zero]
      have : T.length * 12 ≤ 40 * 12 := Nat.mul_le_mul_right _ T40
      omega
    rw [join_svs, show (T.map fun x => (pcs (lt L) M).getD x []).flatten = lt z from hTtx, sv_lt]
    refine ⟨_, .str z, rfl, .str _, (rp_str Lz zz).sh, (rp_str Lz zz).nd, (rp_str Lz zz).dp, (rp_str Lz zz).ln, .inr ⟨_, rfl⟩, ?_⟩
    refine ⟨_, rfl, ?_⟩
    refine ⟨_, .str z, rfl, .str _, (rp_str Lz zz).sh, (rp_str Lz zz).nd, (rp_str Lz zz).dp, (rp_str Lz zz).ln, .inr ⟨_, rfl⟩, ?_⟩
    refine ⟨rfl, false, neF _, iteF ?_⟩
    have B13 := B12.up g13
    clear B12 g13 hD13 hD13' hr12
    -- two rows of drawn tokens
    obtain ⟨mn, hmn⟩ : ∃ mn, mn = 1 + (lt L).length + M.length := ⟨_, rfl⟩
    refine ⟨_, rfl, b, L, M, rfl, B13.v, G, B13.t, fun H14 g14 => ?_⟩
    rw [← hmn]
    have B14 := B13.up g14
    clear B13 g14
    refine ⟨_, rfl, by decide, by decide, fun D hD => ?_⟩
    obtain ⟨Dd, Dl⟩ := B14.D.nf hD
    refine lc_it walk_range (fun j H15 => GrD W.Ts d l H14 H15 ∧ Deck H15 d l ∧ ∃ ts : List (Addr × List Nat), ts.length = j ∧ H15 D = some (.lst (ts.map fun p => V.ref p.1)) ∧ ∀ p ∈ ts, H15 p.1 = some (.tup (nts p.2)) ∧ p.2.length ≤ 3 ∧ ∀ x ∈ p.2, x < mn)
      ⟨(B14.new hD).D, B14.D.up (B14.new hD), [], rfl, upd_same, fun p hp => by cases hp⟩ (fun _ _ _ _ => trivial) (fun j x H15 H16 hj h15 y => ?_) fun H15 h15 => ?_
    · obtain ⟨g15, D15, ts, tl, hD15, hts⟩ := h15
      obtain ⟨rfl, rfl⟩ := y
      refine ⟨rfl, ?_⟩
      unfold tYes
      refine iteT ?_
      refine ⟨_, rfl, d, l, _, rfl, D15, by decide, by decide, g15.t', fun r3 H16 r30 r31 g16 D16 => ⟨_, rfl, by omega, by omega, fun D2 hD2 => ?_⟩⟩
      obtain ⟨D2d, D2l⟩ := D16.nf hD2
      have g20 := (Gr.refl g16.t').new (o := .lst []) hD2
      refine lc_it (vs := [11]) (g := gName 11) (tt := fun _ H Q => Q true H) (te := tCall (sp39 W.Ts) [] E0 (tCons (tVar 1) (tCons (tVar 7) tNil))) walk_range (fun j H17 => GrD W.Ts d l H16 H17 ∧ Deck H17 d l ∧ ∃ t : List Nat, t.length = j ∧ H17 D2 = some (.lst (nts t)) ∧ ∀ x ∈ t, x < mn)
        ⟨g20.D, D16.up g20, [], rfl, upd_same, fun x hx => by cases hx⟩ (fun _ _ _ _ => trivial) (fun j2 x H17 H18 hj2 h17 y => ?_) fun H17 h17 => ?_
      · obtain ⟨g17, D17, t, t3, hD17, htm⟩ := h17
        obtain ⟨rfl, rfl⟩ := y
        refine ⟨rfl, ?_⟩
        refine iteT ?_
        refine ⟨_, rfl, _, rfl, d, l, _, rfl, D17, by omega, by omega, g17.t', fun r4 H18 r40 r41 g18 D18 => ?_⟩
        obtain ⟨u, rfl⟩ := Int.eq_ofNat_of_zero_le r40
        have hD18 := g18.get hD17 D2d D2l
        refine ⟨_, hD18, small_lt (by rw [nts_len]; omega), (g17.tr g18).mut (.inl hD2) (notTab g16.t' hD2), ?_, t ++ [u], ?_, ?_, fun x hx => ?_⟩
        · obtain ⟨mx, n, cs, F⟩ := D18
          exact ⟨mx, n, cs, by rw [upd_ne D2d.symm]; exact F.hd, F.m0, F.m1, by rw [upd_ne D2l.symm]; exact F.hl, F.hz⟩
        · rw [List.length_append, t3]
          rfl
        · rw [nts_snoc]
          exact upd_same
        · rcases List.mem_append.mp hx with hx | hx
          · exact htm x hx
          · rw [List.mem_singleton.mp hx]
            omega
      · obtain ⟨g17, D17, t, t3, hD17, htm⟩ := h17
        refine ⟨D2, _, rfl, .inl ⟨.inl (.inl hD17), fun u hu => ?_⟩⟩
        have g1617 := g16.tr g17
        have gu := (Gr.refl g17.t').new (o := .tup (nts t)) hu
        have hDu := gu.get (g1617.get hD15 Dd Dl)
        refine ⟨_, hDu, small_lt (by rw [List.length_map]; omega), ((g15.tr g1617).tr gu.D).mut (.inl hD) (notTab B14.t hD), ?_, ts ++ [(u, t)], ?_, ?_, fun p hp => ?_⟩
        · obtain ⟨mx, n, cs, F⟩ := D17.up gu
          exact ⟨mx, n, cs, by rw [upd_ne Dd.symm]; exact F.hd, F.m0, F.m1, by rw [upd_ne Dl.symm]; exact F.hl, F.hz⟩
        · rw [List.length_append, tl]
          rfl
        · rw [List.map_append]
          exact upd_same
        · have nD : ∀ (q : Addr) (xs : List V), (upd H17 u (.tup (nts t))) q = some (.tup xs) → (upd (upd H17 u (.tup (nts t))) D (.lst (ts.map (fun p => V.ref p.1) ++ [V.ref u]))) q = some (.tup xs) := fun q xs e => by
            rw [upd_ne (ne_of e hDu (by intro z; cases z))]
            exact e
          rcases List.mem_append.mp hp with hp | hp
          · obtain ⟨e1, e2, e3⟩ := hts p hp
            exact ⟨nD _ _ (gu.get (g1617.tup D15 e1)), e2, e3⟩
          · rw [List.mem_singleton.mp hp]
            exact ⟨nD _ _ upd_same, (by show t.length ≤ 3; omega), htm⟩
    obtain ⟨g15, D15, ts, tl, hD15, hts⟩ := h15
    have tl2 : ts.length = 2 := tl
    match ts, tl2 with
    | [(p1, t1), (p2, t2)], _ =>
    obtain ⟨h1, h13, h1m⟩ := hts (p1, t1) (by simp)
    obtain ⟨h2, h23, h2m⟩ := hts (p2, t2) (by simp)
    simp only at h1 h13 h1m h2 h23 h2m
    clear hts
    have B15 := B14.upD g15 D15
    clear B14 g15 D15 hD
    refine ⟨D, _, rfl, .inl (.inl hD15), rfl, _, _, rfl, _, _, rfl, rfl, ?_⟩
    have tlen : (nts t1).length + (nts t2).length ≤ sizeLine := by rw [nts_len, nts_len]; exact small_le (by omega)
    have hm12 : ∀ x ∈ t1 ++ t2, x < 1 + (lt L).length + M.length := fun x hx => by
      rw [← hmn]
      exact (List.mem_append.mp hx).elim (h1m x) (h2m x)
    have l12 : (t1 ++ t2).length ≤ 1000 := by rw [List.length_append]; omega
    refine ⟨_, rfl, _, rfl, _, rfl, ?_⟩
    refine cat_tup h1 h2 B15.t tlen fun r2 H16 g16 hr2 => ?_
    rw [← nts_app] at hr2
    refine ⟨b, r2, L, M, t1 ++ t2, rfl, (B15.up g16).v, G, hr2, hm12, l12, g16.t', fun H17 g17 => ?_⟩
    have g1617 := g16.tr g17
    have B17 := B15.up g1617
    have h1' := g1617.get h1
    have h2' := g1617.get h2
    clear B15 g1617 g17 g16 hr2 h1 h2
    obtain ⟨nz, hnz⟩ : ∃ nz, nz = sv (txt (pcs (lt L) M) (t1 ++ t2)) := ⟨_, rfl⟩
    have hnl : ∀ c ∈ lt nz, c ∈ lt L := by
      rw [hnz, lt_sv]
      exact txt_letters
    have hn72 : (lt nz).length ≤ 72 := by
      rw [hnz, lt_sv]
      refine Nat.le_trans (txt_len G.sh _) ?_
      rw [List.length_append]
      omega
    have Ln : ∀ c ∈ lt nz, c ≤ 122 := fun c hc => (G.az c (hnl c hc)).2
    have nn : nz.length ≤ 1000 := by rw [len_lt]; omega
    rw [← hnz]
    refine ⟨_, rfl, nz, rfl, small_le (by omega), _, _, rfl, rfl, _, rfl, iteC (fun _ => ?_) fun _ => ?_⟩
    · exact ⟨_, _, _, _, _, _, _, _, _, _, _, _, rfl, B17.t, B17.D, .inr ⟨b, L, M, rfl, B17.v, G⟩⟩
    refine ⟨_, rfl, _, rfl, _, rfl, ?_⟩
    refine cat_tup h1' h2' B17.t tlen fun r3 H18 g18 hr3 => ?_
    rw [← nts_app] at hr3
    have B18 := B17.up g18
    refine ⟨b, r3, L, M, t1 ++ t2, rfl, B18.v, G, hr3, hm12, l12, B18.t, fun H19 g19 => ?_⟩
    have B19 := B18.up g19
    have g1819 := g18.tr g19
    refine ⟨_, rfl, _, rfl, b, p1, L, M, t1, rfl, B19.v, G, g1819.get h1', (fun x hx => by rw [← hmn]; exact h1m x hx), by omega, B19.t, fun H20 g20 => ?_⟩
    have B20 := B19.up g20
    have g1820 := g1819.tr g20
    refine ⟨_, rfl, _, rfl, b, p2, L, M, t2, rfl, B20.v, G, g1820.get h2', (fun x hx => by rw [← hmn]; exact h2m x hx), by omega, B20.t, fun H21 g21 => ?_⟩
    have B21 := B20.up g21
    have x1 := txt_len G.sh t1
    have x2 := txt_len G.sh t2
    refine ⟨_, _, rfl, rfl, small_le (by rw [sv_len, sv_len]; omega), by show 2 ≤ sizeLine; decide, fun p hp => ?_⟩
    rw [show HO.tup [V.str (sv (txt (pcs (lt L) M) (t1 ++ t2))), V.str (sv (txt (pcs (lt L) M) t1) ++ sv (txt (pcs (lt L) M) t2))] = HO.tup [V.str nz, V.str nz] by rw [sv_app, ← txt_app, ← hnz]]
    refine ⟨_, dS nz nz, rfl, .tup (.inl (.inl upd_same)) (.cons (.str _) (.cons (.str _) .nil)), (rp_dS Ln nn Ln nn).sh, (rp_dS Ln nn Ln nn).nd, (rp_dS Ln nn Ln nn).dp, (rp_dS Ln nn Ln nn).ln, .inl ⟨_, rfl⟩, ?_⟩
    refine ⟨_, rfl, _, rfl, by show 2 ≤ sizeLine; decide, fun p3 hp3 => ?_⟩
    refine ⟨_, dS nz nz, rfl, .tup (.inl (.inl upd_same)) (.cons (.str _) (.cons (.str _) .nil)), (rp_dS Ln nn Ln nn).sh, (rp_dS Ln nn Ln nn).nd, (rp_dS Ln nn Ln nn).dp, (rp_dS Ln nn Ln nn).ln, .inl ⟨_, rfl⟩, ?_⟩
    refine ⟨rfl, false, neF _, iteF ?_⟩
    have gn := (B21.new (o := .tup [.str nz, .str nz]) hp).new (o := .tup [.str nz, .str nz]) hp3
    have B22 := B21.up gn
    generalize upd (upd H21 p (.tup [.str nz, .str nz])) p3 (.tup [.str nz, .str nz]) = H22 at B22 ⊢
    have RN : RP (dI (toks (lt L) M (lt nz))) := rp_dI (fun x hx => by have := toks_lt (M := M) hnl x hx; omega) (by have := toks_le (lt L) M (lt nz); omega)
    refine ⟨_, rfl, _, rfl, b, L, nz, M, rfl, B22.v, G, hnl, by omega, B22.t, fun u H23 g23 hu => ?_⟩
    refine ⟨_, dI (toks (lt L) M (lt nz)), rfl, dp_nts hu, (RN).sh, (RN).nd, (RN).dp, (RN).ln, .inl ⟨_, rfl⟩, ?_⟩
    have B23 := B22.up g23
    refine ⟨_, rfl, _, rfl, b, L, nz, M, rfl, B23.v, G, hnl, by omega, B23.t, fun u2 H24 g24 hu2 => ?_⟩
    refine ⟨_, dI (toks (lt L) M (lt nz)), rfl, dp_nts hu2, (RN).sh, (RN).nd, (RN).dp, (RN).ln, .inl ⟨_, rfl⟩, ?_⟩
    have B24 := B23.up g24
    refine ⟨rfl, false, neF _, iteF ?_⟩
    exact ⟨_, _, _, _, _, _, _, _, _, _, _, _, rfl, B24.t, B24.D, .inr ⟨b, L, M, rfl, B24.v, G⟩⟩
  · obtain ⟨v2, v3, v4, v5, v6, v7, v8, v9, v10, v11, v12, v13, rfl, t2, D2, hv⟩ := h1
    rcases hv with hv | ⟨b, L, M, rfl, hv, G⟩
    · exact absurd hv (by decide)
    have B : Bd W.Ts d l b L M H2 := ⟨t2, D2, hv⟩
    refine ⟨_, rfl, b, L, "", M, rfl, B.v, G, (fun c hc => by cases hc), by decide, B.t, fun q H3 g3 hq => ?_⟩
    have B3 := B.up g3
    rw [show toks (lt L) M (lt "") = [] from toksFrom_nil _ M 0] at hq
    refine ⟨_, rfl, by show 0 ≤ sizeLine; decide, fun u hu => ?_⟩
    have g4 := B3.new (o := .tup []) hu
    have B4 := B3.up g4
    refine ⟨b, u, L, M, [], rfl, B4.v, G, upd_same, (fun x hx => by cases hx), by decide, B4.t, fun H5 g5 => ⟨by show 2 ≤ sizeLine; decide, fun p hp => ?_⟩⟩
    have B5 := B4.up g5
    have g35 := g4.tr g5
    have g6 := B5.new (o := .tup [.ref q, .str (sv (txt (pcs (lt L) M) []))]) hp
    refine ⟨_, dE, rfl, .tup (.inl (.inl upd_same)) (.cons (dp_nts (l := []) (g6.get (g35.get hq))) (.cons (.str _) .nil)), (rp_dE).sh, (rp_dE).nd, (rp_dE).dp, (rp_dE).ln, .inl ⟨_, rfl⟩, ?_⟩
    refine ⟨by show 0 ≤ sizeLine; decide, fun u2 hu2 => ⟨by show 2 ≤ sizeLine; decide, fun p2 hp2 => ?_⟩⟩
    refine ⟨_, dE, rfl, .tup (.inl (.inl upd_same)) (.cons (dp_nts (l := []) (((Gr.refl ((B5.up g6).new hu2).t').new hp2).get upd_same)) (.cons (.str _) .nil)), (rp_dE).sh, (rp_dE).nd, (rp_dE).dp, (rp_dE).ln, .inl ⟨_, rfl⟩, ?_⟩
    refine ⟨rfl, ?_⟩
    show V.bl (decide _) = V.bl true
    rw [decide_eq_true rfl]
end
end Zk
set_option Elab.async false
set_option linter.all false
set_option maxRecDepth 100000
set_option maxHeartbeats 4000000
/-! The end of a law that asks for repr of data: its call stands at the caller alone, where no guard is held. -/
namespace Zk
open PySem PySem.Spec PyProof.Rows L2 GxR Zn Zm
/-- one run of a def, at the caller that is known -/
theorem run_at {CX : CXT} {P : Program} {w : World} {K : PySem.W.Frag} {mg : Str → Option Value} {base : Heap} {k : Nat} {x qual : Str} {st : Stmt} {f : Addr} {fd : FuncData} {N ps : List Str} (F : Fun K x qual st f fd) (S : FnScope N ps (defScope st))
    {A : Around} {outer : List Env} {s : Shared} {H : Hp} {args : Args} {us : List Value} {vs : List V} {Q : VK} {E : XK} (room : Room (k + 1) A) (e0 : Env0 P w K mg base A outer s H) (hb : BindsTo s fd args (ps.zip us)) (rv : Vals vs us) (hl : vs.length = ps.length)
    (body : ∀ cdv, Room k (A.deeper (envOfC qual (defScope st) s.heap.objs.size f cdv)) → ∃ t, PSs (cxOf CX P w K mg base N qual (defScope st) f cdv A outer s H E) (defBody st) t ∧ t { nx := fun _ _ => False, rt := Q } (start N vs) H) :
    codeAny (model P w) A (.call (.ref f) args) (CR CX outer P w H s Q E) s := by
  obtain ⟨oc, od, kV, doc, pm, an, cdv, ct, osl, rfl, at_f, rec_f⟩ := F.ex
  have inK : K.In s.heap := fun b o q => (e0.bs b o (e0.mod.kin b o q)).1
  have params : ∀ y ∈ ps.zip us, (defScope st).names.lookup y.1 = some .local ∨ ((defScope st).names.lookup y.1 = some .cell ∧ ((cellsFrom (s.heap.objs.size + 1) (defScope st).names []).lookup y.1).isSome = true) := by
    rintro ⟨y, v⟩ hm
    exact (S.par y (List.of_mem_zip hm).1).imp id fun q => ⟨q, PySem.W.cellsFrom_some _ _ _ (.inl q)⟩
  obtain ⟨t, ht, start_ok⟩ := body cdv (room.deeper _)
  apply codeAny_call_function room.depth (inK _ _ at_f) rfl S.co S.gen rfl (PySem.W.codeRec_of inK rec_f)
  apply hb
  apply wpAny_newFunctionEnv_cells S.kind params
  rintro env rfl s1 made
  refine ⟨(e0.mod.nolimit.keeps fun b o q => (e0.bs b o q).1).keeps made.toInCall.keep, codeAny_func ?_⟩
  refine thn (ht.run [] s1 _ H _ (inv_start S room.hd e0 hl rv made) start_ok) ?_
  rintro (_ | _ | _ | u) s' hs
  · exact hs.elim fun _ q => q.elim fun _ q => q.2.elim
  · exact hs.elim fun _ q => q.elim fun _ q => q.2.elim
  · exact hs.elim fun _ q => q.elim fun _ q => q.2.elim
  · obtain ⟨v, σ', H', J, ru, q⟩ := hs
    exact ⟨v, H', J.os, J.bare, J.base, J.hok, ru, q⟩
/-- what the walk tracks at first: the tables, and the script where the top has not written it -/
def hp0 (K : PySem.W.Frag) (Ts : List Addr) (a : Addr) (u : HO) : Hp := fun b => if b ∈ Ts then some (.tbl #[]) else if b = a ∧ K.lookup a = none then some u else none
theorem hp0_cases {K : PySem.W.Frag} {Ts : List Addr} {a b : Addr} {u o : HO} (h : hp0 K Ts a u b = some o) : (b ∈ Ts ∧ o = .tbl #[]) ∨ (b = a ∧ K.lookup a = none ∧ o = u) := by
  unfold hp0 at h
  split at h
  · rename_i m
    exact .inl ⟨m, (Option.some.inj h).symm⟩
  · split at h
    · rename_i m
      exact .inr ⟨m.1, m.2, (Option.some.inj h).symm⟩
    · cases h
/-- the law's promise, told of its run at the caller -/
def RunAt (P : Program) (w : World) (K : PySem.W.Frag) (mg : Str → Option Value) (Ts : List Addr) (fa : Addr) : Prop :=
  ∀ (base : Heap) (s : Shared) (H : Hp) (a : Addr) (ns : List Int), K.In base → base.Ns mainGlobals mg → (∀ p ∈ Ts, base.BuiltinsAt mg p ∧ mainGlobals ≠ p) → Env0 P w K mg base callerA [] s H → TOk Ts H → SqL K H a (ns.map V.int) → ns.length ≤ 63 →
    codeAny (model P w) callerA (.call (.ref fa) ⟨[.ref a], []⟩) (CR CX0 [] P w H s (fun v _ => v = .bl true) E0) s
theorem end_at {P : Program} {w : World} {K : PySem.W.Frag} {mg mb : Str → Option Value} {Ts : List Addr} {fa a : Addr} {s1 : Shared} {vs : List Value} {ns : List Int} (inK : K.In s1.heap) (glob : s1.heap.Ns mainGlobals mg) (blt : s1.heap.Ns builtinsNs mb)
    (boot : ∀ x : Str, x ≠ "__name__" → mb x = bootBuiltins x) (lim : s1.heap.NoLimit) (gens : s1.gens = #[]) (tabs : ∀ p ∈ Ts, s1.heap.get? p = some { cls := .none, data := .fields #[] }) (out : ∀ p ∈ Ts, K.lookup p = none) (kinds : ∀ p ∈ Ts, isCodeTable s1.heap p)
    (main : ∃ (bm : Addr) (ob : Obj), mg "__builtins__" = some (.ref bm) ∧ bm ≠ builtinsNs ∧ s1.heap.get? bm = some ob ∧ ob.cls = .type "module" ∧ ob.dict = some builtinsNs ∧ ob.data = .plain)
    (script : s1.heap.get? a = some { cls := .type "list", data := .seq vs.toArray }) (numbers : IntsAre vs ns) (short : ns.length ≤ 63) (R : RunAt P w K mg Ts fa) :
    codeAny (model P w) callerA (.call (.ref fa) ⟨[.ref a], []⟩) (fun r s' => r = .ok (.ret (.bool true)) ∧ OldK s1.heap s'.heap ∧ s'.os = s1.os ∧ AllBare s'.gens) s1 := by
  obtain ⟨H, eH⟩ : ∃ H, H = hp0 K Ts a (.frz { cls := .type "list", data := .seq vs.toArray } (.lst (ns.map V.int))) := ⟨_, rfl⟩
  have split : ∀ {b : Addr} {o : HO}, H b = some o → (b ∈ Ts ∧ o = .tbl #[]) ∨ (b = a ∧ K.lookup a = none ∧ o = .frz { cls := .type "list", data := .seq vs.toArray } (.lst (ns.map V.int))) := fun {b o} h => hp0_cases (eH ▸ h)
  have small : (ns.map V.int).length ≤ sizeLine := by
    rw [List.length_map]
    exact small_le (by omega)
  have onTab : ∀ {p : Addr}, p ∈ Ts → H p = some (.tbl #[]) := fun {p} m => by
    rw [eH]
    exact if_pos m
  have aNot : a ∉ Ts := fun m => by
    have q := tabs a m
    rw [script] at q
    exact Data.noConfusion (congrArg Obj.data (Option.some.inj q))
  -- what is neither a sequence nor a table is not tracked
  have free : ∀ {b : Addr} {o : Obj}, s1.heap.get? b = some o → (∀ v n, o.data ≠ .seq v n) → o.data ≠ .fields #[] → H b = none := fun {b o} e n1 n2 => by
    cases q : H b with
    | none => rfl
    | some u =>
      exfalso
      rcases split q with ⟨m, _⟩ | ⟨z, _⟩
      · rw [tabs b m] at e
        cases e
        exact n2 rfl
      · rw [z, script] at e
        cases e
        exact n1 _ _ rfl
  have lay : ∀ {b : Addr} {o : Obj}, s1.heap.get? b = some o → H b = none → (hidT s1.heap H).get? b = some o := fun e n => hidT_get e n
  have names : ∀ {b : Addr} {m : Str → Option Value}, s1.heap.Ns b m → (hidT s1.heap H).Ns b m := by
    rintro b m ⟨o, es, ep, e, hd, rest⟩
    refine ⟨o, es, ep, lay e (free e (fun v n z => ?_) fun z => ?_), hd, rest⟩
    · rw [hd] at z; cases z
    · rw [hd] at z; cases z
  have kin : K.In (hidT s1.heap H) := fun b o e => by
    refine lay (inK b o e) ?_
    cases q : H b with
    | none => rfl
    | some u =>
      exfalso
      rcases split q with ⟨m, _⟩ | ⟨z, n, _⟩
      · rw [out b m] at e; cases e
      · rw [z, n] at e; cases e
  have limB : (hidT s1.heap H).NoLimit := by
    obtain ⟨m, x, y⟩ := lim
    exact ⟨m, names x, y⟩
  have bAt : ∀ p ∈ Ts, (hidT s1.heap H).BuiltinsAt mg p ∧ mainGlobals ≠ p := fun p m => by
    have hp := tabs p m
    obtain ⟨bm, ob, q1, q2, q3, q4, q5, q6⟩ := main
    obtain ⟨og, es, ep, g1, g2, _⟩ := id glob
    refine ⟨⟨bm, ob, q1, q2, fun z => ?_, fun z => ?_, lay q3 (free q3 (fun v n z => ?_) fun z => ?_), q4, q5, q6⟩, fun z => ?_⟩
    · rw [z, g1] at q3; cases q3; rw [g2] at q6; cases q6
    · rw [z, hp] at q3; cases q3; cases q6
    · rw [q6] at z; cases z
    · rw [q6] at z; cases z
    · rw [z, hp] at g1; cases g1; cases g2
  have held : HOk P w H s1.heap := fun b u q => by
    rcases split q with ⟨m, rfl⟩ | ⟨rfl, _, rfl⟩
    · exact tabs b m
    · exact ⟨script, small, vs, _, vals_ints numbers, script⟩
  have env0 : Env0 P w K mg (hidT s1.heap H) callerA [] s1 H :=
    { frames := rfl, mod := ⟨kin, names glob, ⟨mb, names blt, boot⟩, limB⟩, bs := fun b o e => of_hidT e, bsz := Nat.le_of_eq (hidT_size _ _), funs := trivial, frf := fun b m => absurd (show b ∈ ([] : List Addr) from m) (by simp), hok := held, bare := .of_eq gens }
  have seq : SqL K H a (ns.map V.int) := by
    cases q : K.lookup a with
    | none =>
      refine .inl (.inr ⟨{ cls := .type "list", data := .seq vs.toArray }, ?_⟩)
      rw [eH]
      exact (if_neg aNot).trans (if_pos ⟨rfl, q⟩)
    | some o =>
      have e := inK a o q
      rw [script] at e
      cases e
      refine .inr ⟨_, vs.toArray, _, q, rfl, rfl, rfl, ?_, by simpa using vals_ints numbers⟩
      have := numbers.length
      rw [List.size_toArray]
      exact small_le (by omega)
  have tok : TOk Ts H := fun p m => ⟨#[], onTab m, trivial⟩
  refine codeAny_mono (R _ s1 H a ns kin (names glob) bAt env0 tok seq short) ?_
  rintro (e | fl) s' h
  · exact h.elim
  cases fl with
  | next => exact h.elim
  | brk => exact h.elim
  | cont => exact h.elim
  | ret u =>
    obtain ⟨v, H', os, bare, un, after, rel, rfl⟩ := h
    obtain rfl : u = Value.bool true := rel
    -- every object but the tables is as it was
    have stay : ∀ b o, b ∉ Ts → s1.heap.get? b = some o → s'.heap.get? b = some o := fun b o n e => by
      cases q : H b with
      | none => exact un.keep b o e q (fun z => by cases z) fun z => by cases z
      | some x =>
        rcases split q with ⟨m, _⟩ | ⟨rfl, _, rfl⟩
        · exact absurd m n
        · rw [script] at e
          cases e
          exact (after _ _ (un.frzs _ _ _ q)).1
    have more : ∀ p, p ∈ Ts → ∃ ps : Array Value, s'.heap.get? p = some { cls := .none, data := .fields ps } := fun p m => by
      obtain ⟨ps, z⟩ := un.tbls p #[] (onTab m)
      exact ⟨_, after p _ z⟩
    refine ⟨rfl, ⟨fun b o e => ?_, fun b o e => ?_⟩, os, bare⟩
    · by_cases m : b ∈ Ts
      · obtain ⟨ps, z⟩ := more b m
        rw [tabs b m] at e
        cases e
        exact .inr (.inl ⟨kinds b m, rfl, #[], ps, rfl, by rw [Array.empty_append]; exact z⟩)
      · exact .inl (stay b o m e)
    · by_cases m : b ∈ Ts
      · obtain ⟨ps, z⟩ := more b m
        exact ⟨_, z⟩
      · exact ⟨o, stay b o m e⟩
/-- the walk of the law's row -/
theorem walk_at {l : PySem.W.OpenLaw} {q : Program} {loose : List Str} {XP : (Str → Option Value) → Heap → Prop} {YP : World → Heap → Prop} {d : DefRec} {K : Params → PySem.W.Frag} (names : List Str) (most : l.most = some 63) (plain : d.params.defaults = [])
    (recs : (names.all fun x => (recsOf q).any fun e => e.name == x) = true) (inK : ∀ (w : World) (h : Heap), YP w h → (K w.params).In h)
    (F : ∀ (w : World) (mg : Str → Option Value) (fa : Addr) (h : Heap), (K w.params).In h → h.Ns mainGlobals mg → mg d.name = some (.ref fa) → (∀ x ∈ names, ∀ f, mg x = some (.ref f) → LamX.OwnTab (K w.params) f h) →
      ∃ Ts : List Addr, (∀ p ∈ Ts, h.get? p = some { cls := .none, data := .fields #[] } ∧ isCodeTable h p ∧ (K w.params).lookup p = none) ∧ RunAt l.prog w (K w.params) mg Ts fa) :
    PySem.W.WalkO q loose XP YP l.row.toRowW d [] (fun f vs => PySem.call f vs) := by
  apply Att.attach_callB most plain
  intro w s0 s1 mg mb fa o pm cd doc a vs ns G Y _ _ _ atFa script numbers short _ gens
  have kin := inK w _ Y
  have own : ∀ x ∈ names, ∀ f, mg x = some (.ref f) → LamX.OwnTab (K w.params) f s1.heap := by
    intro x hx f hf c p o1 fd e dd us sl k1 k2 k3 k4 k5
    obtain ⟨r, hr, same⟩ := List.any_eq_true.mp (List.all_eq_true.mp recs x hx)
    obtain ⟨f', o', fd', c', p', m1, m2, m3, m4, _, ⟨⟨oc, uc, y1, _, y3, y4⟩, tab⟩⟩ := G.T.tab r hr
    rw [beq_iff_eq.mp same, hf] at m1
    cases m1
    rw [kin _ _ k1] at m2
    cases m2
    rw [k2] at m3
    cases m3
    rw [k3] at m4
    cases m4
    rw [kin _ _ k4] at y1
    cases y1
    cases y3
    rw [k5] at y4
    cases y4
    exact tab
  obtain ⟨Ts, hT, R⟩ := F w mg fa _ kin G.T.g atFa own
  exact end_at kin G.T.g G.T.b G.T.builtins G.T.nolimit gens (fun p m => (hT p m).1) (fun p m => (hT p m).2.2) (fun p m => (hT p m).2.1) G.T.bmain script numbers short R
end Zk
set_option Elab.async false
set_option linter.all false
set_option maxRecDepth 100000
set_option maxHeartbeats 4000000
namespace Zk
open PySem PySem.Spec PyProof.Rows L2 GxR Zn Zm
def tabNames : List Str := ["are_tokens", "are_small_letters", "_need_text", "_is_merge"]
theorem all_mk {l : PySem.W.OpenLaw} {w : World} {K : PySem.W.Frag} {h : Heap} {mg : Str → Option Value} {fa f7 f8 f9 f10 f11 f12 f13 f14 f15 f16 f20 f21 f22 f23 f24 f25 f26 f27 f28 f29 f30 f31 f32 f33 f34 f35 f36 f38 f39 f40 f41 f42 f43 f44 f45 f46 f47 f48 : Addr} (X : K.In h) (G : h.Ns mainGlobals mg) (hfa : mg "law" = some (.ref fa)) (own : ∀ x ∈ tabNames, ∀ f, mg x = some (.ref f) → LamX.OwnTab K f h)
    {od7 an7 od8 an8 od9 an9 od10 an10 od11 an11 od12 an12 od13 an13 od14 an14 od15 an15 od16 an16 od20 an20 od21 an21 od22 an22 od23 an23 od24 an24 od25 an25 od26 an26 od27 an27 od28 an28 od29 an29 od30 an30 od31 an31 od32 an32 od33 an33 od34 an34 od35 an35 od36 an36 od38 an38 od39 an39 od40 an40 od41 an41 od42 an42 od43 an43 od44 an44 od45 an45 od46 an46 od47 an47 od48 an48 : Option Addr} {sl7 sl8 sl9 sl10 sl11 sl12 sl13 sl14 sl15 sl16 sl20 sl21 sl22 sl23 sl24 sl25 sl26 sl27 sl28 sl29 sl30 sl31 sl32 sl33 sl34 sl35 sl36 sl38 sl39 sl40 sl41 sl42 sl43 sl44 sl45 sl46 sl47 sl48 : Array (Option Value)} {oc7 kV7 dc7 pm7 cd7 ct7 oc8 kV8 dc8 pm8 cd8 ct8 oc9 kV9 dc9 pm9 cd9 ct9 oc10 kV10 dc10 pm10 cd10 ct10 oc11 kV11 dc11 pm11 ct11 oc12 kV12 dc12 pm12 ct12 oc13 kV13 dc13 pm13 cd13 ct13 oc14 kV14 dc14 pm14 cd14 ct14 oc15 kV15 dc15 pm15 cd15 ct15 oc16 kV16 dc16 pm16 cd16 ct16 oc20 kV20 dc20 pm20 cd20 ct20 oc21 kV21 dc21 pm21 cd21 ct21 oc22 kV22 dc22 pm22 cd22 ct22 oc23 kV23 dc23 pm23 cd23 ct23 oc24 kV24 dc24 pm24 cd24 ct24 oc25 kV25 dc25 pm25 cd25 ct25 oc26 kV26 dc26 pm26 cd26 ct26 oc27 kV27 dc27 pm27 cd27 ct27 oc28 kV28 dc28 pm28 cd28 ct28 oc29 kV29 dc29 pm29 ct29 oc30 kV30 dc30 pm30 cd30 ct30 oc31 kV31 dc31 pm31 cd31 ct31 oc32 kV32 dc32 pm32 ct32 oc33 kV33 dc33 pm33 cd33 ct33 oc34 kV34 dc34 pm34 cd34 ct34 oc35 kV35 dc35 pm35 cd35 ct35 oc36 kV36 dc36 pm36 cd36 ct36 oc38 kV38 dc38 pm38 cd38 ct38 oc39 kV39 dc39 pm39 cd39 ct39 oc40 kV40 dc40 pm40 cd40 ct40 oc41 kV41 dc41 pm41 cd41 ct41 oc42 kV42 dc42 pm42 cd42 ct42 oc43 kV43 dc43 pm43 cd43 ct43 oc44 kV44 dc44 pm44 cd44 ct44 oc45 kV45 dc45 pm45 cd45 ct45 oc46 kV46 dc46 pm46 cd46 ct46 oc47 kV47 dc47 pm47 cd47 ct47 oc48 kV48 dc48 pm48 cd48 ct48 : Value}
    {c11 P11 c12 P12 c29 P29 c32 P32 : Addr} {e11 e12 e29 e32 : Value} {dd11 dd12 dd29 dd32 : Option Addr} {us11 us12 us29 us32 : Array Value} {sc11 sc12 sc29 sc32 : Array (Option Value)} {t1 t2 : Tok}
    (g7 : PySem.W.nsIn K mainGlobals "is_integer" = some (some (.ref f7))) (l7 : K.lookup f7 = some ⟨oc7, od7, .func (PySem.W.fnOf "is_integer" "is_integer" (defArgs (top 7)) (defBody (top 7)) (defScope (top 7)) .none kV7 dc7 pm7 an7 cd7 ct7), sl7⟩) (q7 : PySem.W.codeIn K cd7 "is_integer" = true) (k7 : PySem.W.keepIn K (.ref f7) = true)
    (g8 : PySem.W.nsIn K mainGlobals "is_integer_from" = some (some (.ref f8))) (l8 : K.lookup f8 = some ⟨oc8, od8, .func (PySem.W.fnOf "is_integer_from" "is_integer_from" (defArgs (top 8)) (defBody (top 8)) (defScope (top 8)) .none kV8 dc8 pm8 an8 cd8 ct8), sl8⟩) (q8 : PySem.W.codeIn K cd8 "is_integer_from" = true) (k8 : PySem.W.keepIn K (.ref f8) = true)
    (g9 : PySem.W.nsIn K mainGlobals "is_number_below" = some (some (.ref f9))) (l9 : K.lookup f9 = some ⟨oc9, od9, .func (PySem.W.fnOf "is_number_below" "is_number_below" (defArgs (top 9)) (defBody (top 9)) (defScope (top 9)) .none kV9 dc9 pm9 an9 cd9 ct9), sl9⟩) (q9 : PySem.W.codeIn K cd9 "is_number_below" = true) (k9 : PySem.W.keepIn K (.ref f9) = true)
    (g10 : PySem.W.nsIn K mainGlobals "is_token" = some (some (.ref f10))) (l10 : K.lookup f10 = some ⟨oc10, od10, .func (PySem.W.fnOf "is_token" "is_token" (defArgs (top 10)) (defBody (top 10)) (defScope (top 10)) .none kV10 dc10 pm10 an10 cd10 ct10), sl10⟩) (q10 : PySem.W.codeIn K cd10 "is_token" = true) (k10 : PySem.W.keepIn K (.ref f10) = true)
    (g11 : PySem.W.nsIn K mainGlobals "are_tokens" = some (some (.ref f11))) (l11 : K.lookup f11 = some ⟨oc11, od11, .func (PySem.W.fnOf "are_tokens" "are_tokens" (defArgs (top 11)) (defBody (top 11)) (defScope (top 11)) .none kV11 dc11 pm11 an11 (.ref c11) ct11), sl11⟩) (q11 : PySem.W.codeIn K (.ref c11) "are_tokens" = true) (k11 : PySem.W.keepIn K (.ref f11) = true)
    (g12 : PySem.W.nsIn K mainGlobals "are_small_letters" = some (some (.ref f12))) (l12 : K.lookup f12 = some ⟨oc12, od12, .func (PySem.W.fnOf "are_small_letters" "are_small_letters" (defArgs (top 12)) (defBody (top 12)) (defScope (top 12)) .none kV12 dc12 pm12 an12 (.ref c12) ct12), sl12⟩) (q12 : PySem.W.codeIn K (.ref c12) "are_small_letters" = true) (k12 : PySem.W.keepIn K (.ref f12) = true)
    (g13 : PySem.W.nsIn K mainGlobals "is_tuple_of" = some (some (.ref f13))) (l13 : K.lookup f13 = some ⟨oc13, od13, .func (PySem.W.fnOf "is_tuple_of" "is_tuple_of" (defArgs (top 13)) (defBody (top 13)) (defScope (top 13)) .none kV13 dc13 pm13 an13 cd13 ct13), sl13⟩) (q13 : PySem.W.codeIn K cd13 "is_tuple_of" = true) (k13 : PySem.W.keepIn K (.ref f13) = true)
    (g14 : PySem.W.nsIn K mainGlobals "same" = some (some (.ref f14))) (l14 : K.lookup f14 = some ⟨oc14, od14, .func (PySem.W.fnOf "same" "same" (defArgs (top 14)) (defBody (top 14)) (defScope (top 14)) .none kV14 dc14 pm14 an14 cd14 ct14), sl14⟩) (q14 : PySem.W.codeIn K cd14 "same" = true) (k14 : PySem.W.keepIn K (.ref f14) = true)
    (g15 : PySem.W.nsIn K mainGlobals "first_difference" = some (some (.ref f15))) (l15 : K.lookup f15 = some ⟨oc15, od15, .func (PySem.W.fnOf "first_difference" "first_difference" (defArgs (top 15)) (defBody (top 15)) (defScope (top 15)) .none kV15 dc15 pm15 an15 cd15 ct15), sl15⟩) (q15 : PySem.W.codeIn K cd15 "first_difference" = true) (k15 : PySem.W.keepIn K (.ref f15) = true)
    (g16 : PySem.W.nsIn K mainGlobals "certificate" = some (some (.ref f16))) (l16 : K.lookup f16 = some ⟨oc16, od16, .func (PySem.W.fnOf "certificate" "certificate" (defArgs (top 16)) (defBody (top 16)) (defScope (top 16)) .none kV16 dc16 pm16 an16 cd16 ct16), sl16⟩) (q16 : PySem.W.codeIn K cd16 "certificate" = true) (k16 : PySem.W.keepIn K (.ref f16) = true)
    (g20 : PySem.W.nsIn K mainGlobals "is_vocabulary" = some (some (.ref f20))) (l20 : K.lookup f20 = some ⟨oc20, od20, .func (PySem.W.fnOf "is_vocabulary" "is_vocabulary" (defArgs (top 20)) (defBody (top 20)) (defScope (top 20)) .none kV20 dc20 pm20 an20 cd20 ct20), sl20⟩) (q20 : PySem.W.codeIn K cd20 "is_vocabulary" = true) (k20 : PySem.W.keepIn K (.ref f20) = true)
    (g21 : PySem.W.nsIn K mainGlobals "size" = some (some (.ref f21))) (l21 : K.lookup f21 = some ⟨oc21, od21, .func (PySem.W.fnOf "size" "size" (defArgs (top 21)) (defBody (top 21)) (defScope (top 21)) .none kV21 dc21 pm21 an21 cd21 ct21), sl21⟩) (q21 : PySem.W.codeIn K cd21 "size" = true) (k21 : PySem.W.keepIn K (.ref f21) = true)
    (g22 : PySem.W.nsIn K mainGlobals "piece" = some (some (.ref f22))) (l22 : K.lookup f22 = some ⟨oc22, od22, .func (PySem.W.fnOf "piece" "piece" (defArgs (top 22)) (defBody (top 22)) (defScope (top 22)) .none kV22 dc22 pm22 an22 cd22 ct22), sl22⟩) (q22 : PySem.W.codeIn K cd22 "piece" = true) (k22 : PySem.W.keepIn K (.ref f22) = true)
    (g23 : PySem.W.nsIn K mainGlobals "to_tokens" = some (some (.ref f23))) (l23 : K.lookup f23 = some ⟨oc23, od23, .func (PySem.W.fnOf "to_tokens" "to_tokens" (defArgs (top 23)) (defBody (top 23)) (defScope (top 23)) .none kV23 dc23 pm23 an23 cd23 ct23), sl23⟩) (q23 : PySem.W.codeIn K cd23 "to_tokens" = true) (k23 : PySem.W.keepIn K (.ref f23) = true)
    (g24 : PySem.W.nsIn K mainGlobals "to_text" = some (some (.ref f24))) (l24 : K.lookup f24 = some ⟨oc24, od24, .func (PySem.W.fnOf "to_text" "to_text" (defArgs (top 24)) (defBody (top 24)) (defScope (top 24)) .none kV24 dc24 pm24 an24 cd24 ct24), sl24⟩) (q24 : PySem.W.codeIn K cd24 "to_text" = true) (k24 : PySem.W.keepIn K (.ref f24) = true)
    (g25 : PySem.W.nsIn K mainGlobals "judge_tokens" = some (some (.ref f25))) (l25 : K.lookup f25 = some ⟨oc25, od25, .func (PySem.W.fnOf "judge_tokens" "judge_tokens" (defArgs (top 25)) (defBody (top 25)) (defScope (top 25)) .none kV25 dc25 pm25 an25 cd25 ct25), sl25⟩) (q25 : PySem.W.codeIn K cd25 "judge_tokens" = true) (k25 : PySem.W.keepIn K (.ref f25) = true)
    (g26 : PySem.W.nsIn K mainGlobals "pieces_of" = some (some (.ref f26))) (l26 : K.lookup f26 = some ⟨oc26, od26, .func (PySem.W.fnOf "pieces_of" "pieces_of" (defArgs (top 26)) (defBody (top 26)) (defScope (top 26)) .none kV26 dc26 pm26 an26 cd26 ct26), sl26⟩) (q26 : PySem.W.codeIn K cd26 "pieces_of" = true) (k26 : PySem.W.keepIn K (.ref f26) = true)
    (g27 : PySem.W.nsIn K mainGlobals "tokens_of" = some (some (.ref f27))) (l27 : K.lookup f27 = some ⟨oc27, od27, .func (PySem.W.fnOf "tokens_of" "tokens_of" (defArgs (top 27)) (defBody (top 27)) (defScope (top 27)) .none kV27 dc27 pm27 an27 cd27 ct27), sl27⟩) (q27 : PySem.W.codeIn K cd27 "tokens_of" = true) (k27 : PySem.W.keepIn K (.ref f27) = true)
    (g28 : PySem.W.nsIn K mainGlobals "_need_vocabulary" = some (some (.ref f28))) (l28 : K.lookup f28 = some ⟨oc28, od28, .func (PySem.W.fnOf "_need_vocabulary" "_need_vocabulary" (defArgs (top 28)) (defBody (top 28)) (defScope (top 28)) .none kV28 dc28 pm28 an28 cd28 ct28), sl28⟩) (q28 : PySem.W.codeIn K cd28 "_need_vocabulary" = true) (k28 : PySem.W.keepIn K (.ref f28) = true)
    (g29 : PySem.W.nsIn K mainGlobals "_need_text" = some (some (.ref f29))) (l29 : K.lookup f29 = some ⟨oc29, od29, .func (PySem.W.fnOf "_need_text" "_need_text" (defArgs (top 29)) (defBody (top 29)) (defScope (top 29)) .none kV29 dc29 pm29 an29 (.ref c29) ct29), sl29⟩) (q29 : PySem.W.codeIn K (.ref c29) "_need_text" = true) (k29 : PySem.W.keepIn K (.ref f29) = true)
    (g30 : PySem.W.nsIn K mainGlobals "_are_letters" = some (some (.ref f30))) (l30 : K.lookup f30 = some ⟨oc30, od30, .func (PySem.W.fnOf "_are_letters" "_are_letters" (defArgs (top 30)) (defBody (top 30)) (defScope (top 30)) .none kV30 dc30 pm30 an30 cd30 ct30), sl30⟩) (q30 : PySem.W.codeIn K cd30 "_are_letters" = true) (k30 : PySem.W.keepIn K (.ref f30) = true)
    (g31 : PySem.W.nsIn K mainGlobals "_are_merges" = some (some (.ref f31))) (l31 : K.lookup f31 = some ⟨oc31, od31, .func (PySem.W.fnOf "_are_merges" "_are_merges" (defArgs (top 31)) (defBody (top 31)) (defScope (top 31)) .none kV31 dc31 pm31 an31 cd31 ct31), sl31⟩) (q31 : PySem.W.codeIn K cd31 "_are_merges" = true) (k31 : PySem.W.keepIn K (.ref f31) = true)
    (g32 : PySem.W.nsIn K mainGlobals "_is_merge" = some (some (.ref f32))) (l32 : K.lookup f32 = some ⟨oc32, od32, .func (PySem.W.fnOf "_is_merge" "_is_merge" (defArgs (top 32)) (defBody (top 32)) (defScope (top 32)) .none kV32 dc32 pm32 an32 (.ref c32) ct32), sl32⟩) (q32 : PySem.W.codeIn K (.ref c32) "_is_merge" = true) (k32 : PySem.W.keepIn K (.ref f32) = true)
    (g33 : PySem.W.nsIn K mainGlobals "_size_of" = some (some (.ref f33))) (l33 : K.lookup f33 = some ⟨oc33, od33, .func (PySem.W.fnOf "_size_of" "_size_of" (defArgs (top 33)) (defBody (top 33)) (defScope (top 33)) .none kV33 dc33 pm33 an33 cd33 ct33), sl33⟩) (q33 : PySem.W.codeIn K cd33 "_size_of" = true) (k33 : PySem.W.keepIn K (.ref f33) = true)
    (g34 : PySem.W.nsIn K mainGlobals "_pieces" = some (some (.ref f34))) (l34 : K.lookup f34 = some ⟨oc34, od34, .func (PySem.W.fnOf "_pieces" "_pieces" (defArgs (top 34)) (defBody (top 34)) (defScope (top 34)) .none kV34 dc34 pm34 an34 cd34 ct34), sl34⟩) (q34 : PySem.W.codeIn K cd34 "_pieces" = true) (k34 : PySem.W.keepIn K (.ref f34) = true)
    (g35 : PySem.W.nsIn K mainGlobals "_letter_tokens" = some (some (.ref f35))) (l35 : K.lookup f35 = some ⟨oc35, od35, .func (PySem.W.fnOf "_letter_tokens" "_letter_tokens" (defArgs (top 35)) (defBody (top 35)) (defScope (top 35)) .none kV35 dc35 pm35 an35 cd35 ct35), sl35⟩) (q35 : PySem.W.codeIn K cd35 "_letter_tokens" = true) (k35 : PySem.W.keepIn K (.ref f35) = true)
    (g36 : PySem.W.nsIn K mainGlobals "_merged" = some (some (.ref f36))) (l36 : K.lookup f36 = some ⟨oc36, od36, .func (PySem.W.fnOf "_merged" "_merged" (defArgs (top 36)) (defBody (top 36)) (defScope (top 36)) .none kV36 dc36 pm36 an36 cd36 ct36), sl36⟩) (q36 : PySem.W.codeIn K cd36 "_merged" = true) (k36 : PySem.W.keepIn K (.ref f36) = true)
    (g38 : PySem.W.nsIn K mainGlobals "_law_deck" = some (some (.ref f38))) (l38 : K.lookup f38 = some ⟨oc38, od38, .func (PySem.W.fnOf "_law_deck" "_law_deck" (defArgs (top 38)) (defBody (top 38)) (defScope (top 38)) .none kV38 dc38 pm38 an38 cd38 ct38), sl38⟩) (q38 : PySem.W.codeIn K cd38 "_law_deck" = true) (k38 : PySem.W.keepIn K (.ref f38) = true)
    (g39 : PySem.W.nsIn K mainGlobals "_law_draw" = some (some (.ref f39))) (l39 : K.lookup f39 = some ⟨oc39, od39, .func (PySem.W.fnOf "_law_draw" "_law_draw" (defArgs (top 39)) (defBody (top 39)) (defScope (top 39)) .none kV39 dc39 pm39 an39 cd39 ct39), sl39⟩) (q39 : PySem.W.codeIn K cd39 "_law_draw" = true) (k39 : PySem.W.keepIn K (.ref f39) = true)
    (g40 : PySem.W.nsIn K mainGlobals "_law_pick" = some (some (.ref f40))) (l40 : K.lookup f40 = some ⟨oc40, od40, .func (PySem.W.fnOf "_law_pick" "_law_pick" (defArgs (top 40)) (defBody (top 40)) (defScope (top 40)) .none kV40 dc40 pm40 an40 cd40 ct40), sl40⟩) (q40 : PySem.W.codeIn K cd40 "_law_pick" = true) (k40 : PySem.W.keepIn K (.ref f40) = true)
    (g41 : PySem.W.nsIn K mainGlobals "_law_pieces" = some (some (.ref f41))) (l41 : K.lookup f41 = some ⟨oc41, od41, .func (PySem.W.fnOf "_law_pieces" "_law_pieces" (defArgs (top 41)) (defBody (top 41)) (defScope (top 41)) .none kV41 dc41 pm41 an41 cd41 ct41), sl41⟩) (q41 : PySem.W.codeIn K cd41 "_law_pieces" = true) (k41 : PySem.W.keepIn K (.ref f41) = true)
    (g42 : PySem.W.nsIn K mainGlobals "_law_letters" = some (some (.ref f42))) (l42 : K.lookup f42 = some ⟨oc42, od42, .func (PySem.W.fnOf "_law_letters" "_law_letters" (defArgs (top 42)) (defBody (top 42)) (defScope (top 42)) .none kV42 dc42 pm42 an42 cd42 ct42), sl42⟩) (q42 : PySem.W.codeIn K cd42 "_law_letters" = true) (k42 : PySem.W.keepIn K (.ref f42) = true)
    (g43 : PySem.W.nsIn K mainGlobals "_law_drawn_vocabulary" = some (some (.ref f43))) (l43 : K.lookup f43 = some ⟨oc43, od43, .func (PySem.W.fnOf "_law_drawn_vocabulary" "_law_drawn_vocabulary" (defArgs (top 43)) (defBody (top 43)) (defScope (top 43)) .none kV43 dc43 pm43 an43 cd43 ct43), sl43⟩) (q43 : PySem.W.codeIn K cd43 "_law_drawn_vocabulary" = true) (k43 : PySem.W.keepIn K (.ref f43) = true)
    (g44 : PySem.W.nsIn K mainGlobals "_law_drawn_text" = some (some (.ref f44))) (l44 : K.lookup f44 = some ⟨oc44, od44, .func (PySem.W.fnOf "_law_drawn_text" "_law_drawn_text" (defArgs (top 44)) (defBody (top 44)) (defScope (top 44)) .none kV44 dc44 pm44 an44 cd44 ct44), sl44⟩) (q44 : PySem.W.codeIn K cd44 "_law_drawn_text" = true) (k44 : PySem.W.keepIn K (.ref f44) = true)
    (g45 : PySem.W.nsIn K mainGlobals "_law_merged" = some (some (.ref f45))) (l45 : K.lookup f45 = some ⟨oc45, od45, .func (PySem.W.fnOf "_law_merged" "_law_merged" (defArgs (top 45)) (defBody (top 45)) (defScope (top 45)) .none kV45 dc45 pm45 an45 cd45 ct45), sl45⟩) (q45 : PySem.W.codeIn K cd45 "_law_merged" = true) (k45 : PySem.W.keepIn K (.ref f45) = true)
    (g46 : PySem.W.nsIn K mainGlobals "_law_tokens" = some (some (.ref f46))) (l46 : K.lookup f46 = some ⟨oc46, od46, .func (PySem.W.fnOf "_law_tokens" "_law_tokens" (defArgs (top 46)) (defBody (top 46)) (defScope (top 46)) .none kV46 dc46 pm46 an46 cd46 ct46), sl46⟩) (q46 : PySem.W.codeIn K cd46 "_law_tokens" = true) (k46 : PySem.W.keepIn K (.ref f46) = true)
    (g47 : PySem.W.nsIn K mainGlobals "_law_text" = some (some (.ref f47))) (l47 : K.lookup f47 = some ⟨oc47, od47, .func (PySem.W.fnOf "_law_text" "_law_text" (defArgs (top 47)) (defBody (top 47)) (defScope (top 47)) .none kV47 dc47 pm47 an47 cd47 ct47), sl47⟩) (q47 : PySem.W.codeIn K cd47 "_law_text" = true) (k47 : PySem.W.keepIn K (.ref f47) = true)
    (g48 : PySem.W.nsIn K mainGlobals "law" = some (some (.ref f48))) (l48 : K.lookup f48 = some ⟨oc48, od48, .func (PySem.W.fnOf "law" "law" (defArgs (top 48)) (defBody (top 48)) (defScope (top 48)) .none kV48 dc48 pm48 an48 cd48 ct48), sl48⟩) (q48 : PySem.W.codeIn K cd48 "law" = true) (k48 : PySem.W.keepIn K (.ref f48) = true)
    (lc11 : K.lookup c11 = some ⟨e11, dd11, .fields us11, sc11⟩) (v11 : us11[11]? = some (.ref P11)) (n11 : K.lookup P11 = none) (h11 : PySem.W.codeHdIn K c11 P11 = true)
    (lc12 : K.lookup c12 = some ⟨e12, dd12, .fields us12, sc12⟩) (v12 : us12[11]? = some (.ref P12)) (n12 : K.lookup P12 = none) (h12 : PySem.W.codeHdIn K c12 P12 = true)
    (lc29 : K.lookup c29 = some ⟨e29, dd29, .fields us29, sc29⟩) (v29 : us29[11]? = some (.ref P29)) (n29 : K.lookup P29 = none) (h29 : PySem.W.codeHdIn K c29 P29 = true)
    (lc32 : K.lookup c32 = some ⟨e32, dd32, .fields us32, sc32⟩) (v32 : us32[11]? = some (.ref P32)) (n32 : K.lookup P32 = none) (h32 : PySem.W.codeHdIn K c32 P32 = true)
    (z_isinstance : PySem.W.nsIn K mainGlobals "isinstance" = some none)
    (z_int : PySem.W.nsIn K mainGlobals "int" = some none)
    (z_bool : PySem.W.nsIn K mainGlobals "bool" = some none)
    (z_tuple : PySem.W.nsIn K mainGlobals "tuple" = some none)
    (z_all : PySem.W.nsIn K mainGlobals "all" = some none)
    (z_str : PySem.W.nsIn K mainGlobals "str" = some none)
    (z_len : PySem.W.nsIn K mainGlobals "len" = some none)
    (z_enumerate : PySem.W.nsIn K mainGlobals "enumerate" = some none)
    (z_zip : PySem.W.nsIn K mainGlobals "zip" = some none)
    (z_min : PySem.W.nsIn K mainGlobals "min" = some none)
    (z_set : PySem.W.nsIn K mainGlobals "set" = some none)
    (z_range : PySem.W.nsIn K mainGlobals "range" = some none)
    (z_repr : PySem.W.nsIn K mainGlobals "repr" = some none)
    (z_list : PySem.W.nsIn K mainGlobals "list" = some none)
    (z_max : PySem.W.nsIn K mainGlobals "max" = some none)
    (zML : PySem.W.nsIn K mainGlobals "MOST_LETTERS" = some (some (.int 6 t1))) (zMM : PySem.W.nsIn K mainGlobals "MOST_MERGES" = some (some (.int 10 t2))) :
    ∃ Ts : List Addr, (∀ p ∈ Ts, h.get? p = some { cls := .none, data := .fields #[] } ∧ isCodeTable h p ∧ K.lookup p = none) ∧ RunAt l.prog w K mg Ts fa := by
  have e := hfa.symm.trans (PySem.W.mg_of X G g48)
  cases e
  have F7 := fun_mk (K := K) (st := top 7) l7 q7 k7
  have F8 := fun_mk (K := K) (st := top 8) l8 q8 k8
  have F9 := fun_mk (K := K) (st := top 9) l9 q9 k9
  have F10 := fun_mk (K := K) (st := top 10) l10 q10 k10
  have F11 := fun_mk (K := K) (st := top 11) l11 q11 k11
  have F12 := fun_mk (K := K) (st := top 12) l12 q12 k12
  have F13 := fun_mk (K := K) (st := top 13) l13 q13 k13
  have F14 := fun_mk (K := K) (st := top 14) l14 q14 k14
  have F15 := fun_mk (K := K) (st := top 15) l15 q15 k15
  have F16 := fun_mk (K := K) (st := top 16) l16 q16 k16
  have F20 := fun_mk (K := K) (st := top 20) l20 q20 k20
  have F21 := fun_mk (K := K) (st := top 21) l21 q21 k21
  have F22 := fun_mk (K := K) (st := top 22) l22 q22 k22
  have F23 := fun_mk (K := K) (st := top 23) l23 q23 k23
  have F24 := fun_mk (K := K) (st := top 24) l24 q24 k24
  have F25 := fun_mk (K := K) (st := top 25) l25 q25 k25
  have F26 := fun_mk (K := K) (st := top 26) l26 q26 k26
  have F27 := fun_mk (K := K) (st := top 27) l27 q27 k27
  have F28 := fun_mk (K := K) (st := top 28) l28 q28 k28
  have F29 := fun_mk (K := K) (st := top 29) l29 q29 k29
  have F30 := fun_mk (K := K) (st := top 30) l30 q30 k30
  have F31 := fun_mk (K := K) (st := top 31) l31 q31 k31
  have F32 := fun_mk (K := K) (st := top 32) l32 q32 k32
  have F33 := fun_mk (K := K) (st := top 33) l33 q33 k33
  have F34 := fun_mk (K := K) (st := top 34) l34 q34 k34
  have F35 := fun_mk (K := K) (st := top 35) l35 q35 k35
  have F36 := fun_mk (K := K) (st := top 36) l36 q36 k36
  have F38 := fun_mk (K := K) (st := top 38) l38 q38 k38
  have F39 := fun_mk (K := K) (st := top 39) l39 q39 k39
  have F40 := fun_mk (K := K) (st := top 40) l40 q40 k40
  have F41 := fun_mk (K := K) (st := top 41) l41 q41 k41
  have F42 := fun_mk (K := K) (st := top 42) l42 q42 k42
  have F43 := fun_mk (K := K) (st := top 43) l43 q43 k43
  have F44 := fun_mk (K := K) (st := top 44) l44 q44 k44
  have F45 := fun_mk (K := K) (st := top 45) l45 q45 k45
  have F46 := fun_mk (K := K) (st := top 46) l46 q46 k46
  have F47 := fun_mk (K := K) (st := top 47) l47 q47 k47
  have F48 := fun_mk (K := K) (st := top 48) l48 q48 k48
  have T11 : h.get? P11 = some { cls := .none, data := .fields #[] } := own "are_tokens" (by unfold tabNames; simp) f11 (PySem.W.mg_of X G g11) c11 P11 _ _ _ _ _ _ l11 rfl rfl lc11 v11
  have T12 : h.get? P12 = some { cls := .none, data := .fields #[] } := own "are_small_letters" (by unfold tabNames; simp) f12 (PySem.W.mg_of X G g12) c12 P12 _ _ _ _ _ _ l12 rfl rfl lc12 v12
  have T29 : h.get? P29 = some { cls := .none, data := .fields #[] } := own "_need_text" (by unfold tabNames; simp) f29 (PySem.W.mg_of X G g29) c29 P29 _ _ _ _ _ _ l29 rfl rfl lc29 v29
  have T32 : h.get? P32 = some { cls := .none, data := .fields #[] } := own "_is_merge" (by unfold tabNames; simp) f32 (PySem.W.mg_of X G g32) c32 P32 _ _ _ _ _ _ l32 rfl rfl lc32 v32
  refine ⟨[P11, P12, P29, P32], fun p hp => ?_, ?_⟩
  · simp only [List.mem_cons, List.not_mem_nil, or_false] at hp
    rcases hp with rfl | rfl | rfl | rfl
    · exact ⟨T11, ((PySem.W.codeHd_of_K X h11).tab T11).isCodeTable, n11⟩
    · exact ⟨T12, ((PySem.W.codeHd_of_K X h12).tab T12).isCodeTable, n12⟩
    · exact ⟨T29, ((PySem.W.codeHd_of_K X h29).tab T29).isCodeTable, n29⟩
    · exact ⟨T32, ((PySem.W.codeHd_of_K X h32).tab T32).isCodeTable, n32⟩
  · intro base s H a ns kb nb bA e0 tk sq sh
    obtain ⟨W, eT, eA⟩ : ∃ W : Wd K mg base, W.Ts = [P11, P12, P29, P32] ∧ W.a48 = fa := ⟨{
      a7 := f7, d7 := _, D7 := ⟨F7, PySem.W.mg_of X G g7, F7.binds fun _ _ _ _ _ _ us hl => match us, hl with | [_], _ => rfl⟩,
      a8 := f8, d8 := _, D8 := ⟨F8, PySem.W.mg_of X G g8, F8.binds fun _ _ _ _ _ _ us hl => match us, hl with | [_, _], _ => rfl⟩,
      a9 := f9, d9 := _, D9 := ⟨F9, PySem.W.mg_of X G g9, F9.binds fun _ _ _ _ _ _ us hl => match us, hl with | [_, _], _ => rfl⟩,
      a10 := f10, d10 := _, D10 := ⟨F10, PySem.W.mg_of X G g10, F10.binds fun _ _ _ _ _ _ us hl => match us, hl with | [_, _], _ => rfl⟩,
      a11 := f11, d11 := _, D11 := ⟨F11, PySem.W.mg_of X G g11, F11.binds fun _ _ _ _ _ _ us hl => match us, hl with | [_, _], _ => rfl⟩,
      a12 := f12, d12 := _, D12 := ⟨F12, PySem.W.mg_of X G g12, F12.binds fun _ _ _ _ _ _ us hl => match us, hl with | [_], _ => rfl⟩,
      a13 := f13, d13 := _, D13 := ⟨F13, PySem.W.mg_of X G g13, F13.binds fun _ _ _ _ _ _ us hl => match us, hl with | [_, _], _ => rfl⟩,
      a14 := f14, d14 := _, D14 := ⟨F14, PySem.W.mg_of X G g14, F14.binds fun _ _ _ _ _ _ us hl => match us, hl with | [_, _], _ => rfl⟩,
      a15 := f15, d15 := _, D15 := ⟨F15, PySem.W.mg_of X G g15, F15.binds fun _ _ _ _ _ _ us hl => match us, hl with | [_, _], _ => rfl⟩,
      a16 := f16, d16 := _, D16 := ⟨F16, PySem.W.mg_of X G g16, F16.binds fun _ _ _ _ _ _ us hl => match us, hl with | [_, _], _ => rfl⟩,
      a20 := f20, d20 := _, D20 := ⟨F20, PySem.W.mg_of X G g20, F20.binds fun _ _ _ _ _ _ us hl => match us, hl with | [_], _ => rfl⟩,
      a21 := f21, d21 := _, D21 := ⟨F21, PySem.W.mg_of X G g21, F21.binds fun _ _ _ _ _ _ us hl => match us, hl with | [_], _ => rfl⟩,
      a22 := f22, d22 := _, D22 := ⟨F22, PySem.W.mg_of X G g22, F22.binds fun _ _ _ _ _ _ us hl => match us, hl with | [_, _], _ => rfl⟩,
      a23 := f23, d23 := _, D23 := ⟨F23, PySem.W.mg_of X G g23, F23.binds fun _ _ _ _ _ _ us hl => match us, hl with | [_, _], _ => rfl⟩,
      a24 := f24, d24 := _, D24 := ⟨F24, PySem.W.mg_of X G g24, F24.binds fun _ _ _ _ _ _ us hl => match us, hl with | [_, _], _ => rfl⟩,
      a25 := f25, d25 := _, D25 := ⟨F25, PySem.W.mg_of X G g25, F25.binds fun _ _ _ _ _ _ us hl => match us, hl with | [_, _, _], _ => rfl⟩,
      a26 := f26, d26 := _, D26 := ⟨F26, PySem.W.mg_of X G g26, F26.binds fun _ _ _ _ _ _ us hl => match us, hl with | [_], _ => rfl⟩,
      a27 := f27, d27 := _, D27 := ⟨F27, PySem.W.mg_of X G g27, F27.binds fun _ _ _ _ _ _ us hl => match us, hl with | [_, _], _ => rfl⟩,
      a28 := f28, d28 := _, D28 := ⟨F28, PySem.W.mg_of X G g28, F28.binds fun _ _ _ _ _ _ us hl => match us, hl with | [_], _ => rfl⟩,
      a29 := f29, d29 := _, D29 := ⟨F29, PySem.W.mg_of X G g29, F29.binds fun _ _ _ _ _ _ us hl => match us, hl with | [_, _], _ => rfl⟩,
      a30 := f30, d30 := _, D30 := ⟨F30, PySem.W.mg_of X G g30, F30.binds fun _ _ _ _ _ _ us hl => match us, hl with | [_], _ => rfl⟩,
      a31 := f31, d31 := _, D31 := ⟨F31, PySem.W.mg_of X G g31, F31.binds fun _ _ _ _ _ _ us hl => match us, hl with | [_, _], _ => rfl⟩,
      a32 := f32, d32 := _, D32 := ⟨F32, PySem.W.mg_of X G g32, F32.binds fun _ _ _ _ _ _ us hl => match us, hl with | [_, _], _ => rfl⟩,
      a33 := f33, d33 := _, D33 := ⟨F33, PySem.W.mg_of X G g33, F33.binds fun _ _ _ _ _ _ us hl => match us, hl with | [_], _ => rfl⟩,
      a34 := f34, d34 := _, D34 := ⟨F34, PySem.W.mg_of X G g34, F34.binds fun _ _ _ _ _ _ us hl => match us, hl with | [_, _], _ => rfl⟩,
      a35 := f35, d35 := _, D35 := ⟨F35, PySem.W.mg_of X G g35, F35.binds fun _ _ _ _ _ _ us hl => match us, hl with | [_, _], _ => rfl⟩,
      a36 := f36, d36 := _, D36 := ⟨F36, PySem.W.mg_of X G g36, F36.binds fun _ _ _ _ _ _ us hl => match us, hl with | [_, _, _], _ => rfl⟩,
      a38 := f38, d38 := _, D38 := ⟨F38, PySem.W.mg_of X G g38, F38.binds fun _ _ _ _ _ _ us hl => match us, hl with | [_, _], _ => rfl⟩,
      a39 := f39, d39 := _, D39 := ⟨F39, PySem.W.mg_of X G g39, F39.binds fun _ _ _ _ _ _ us hl => match us, hl with | [_, _], _ => rfl⟩,
      a40 := f40, d40 := _, D40 := ⟨F40, PySem.W.mg_of X G g40, F40.binds fun _ _ _ _ _ _ us hl => match us, hl with | [_, _], _ => rfl⟩,
      a41 := f41, d41 := _, D41 := ⟨F41, PySem.W.mg_of X G g41, F41.binds fun _ _ _ _ _ _ us hl => match us, hl with | [_, _], _ => rfl⟩,
      a42 := f42, d42 := _, D42 := ⟨F42, PySem.W.mg_of X G g42, F42.binds fun _ _ _ _ _ _ us hl => match us, hl with | [_, _], _ => rfl⟩,
      a43 := f43, d43 := _, D43 := ⟨F43, PySem.W.mg_of X G g43, F43.binds fun _ _ _ _ _ _ us hl => match us, hl with | [_, _, _], _ => rfl⟩,
      a44 := f44, d44 := _, D44 := ⟨F44, PySem.W.mg_of X G g44, F44.binds fun _ _ _ _ _ _ us hl => match us, hl with | [_, _, _], _ => rfl⟩,
      a45 := f45, d45 := _, D45 := ⟨F45, PySem.W.mg_of X G g45, F45.binds fun _ _ _ _ _ _ us hl => match us, hl with | [_, _, _], _ => rfl⟩,
      a46 := f46, d46 := _, D46 := ⟨F46, PySem.W.mg_of X G g46, F46.binds fun _ _ _ _ _ _ us hl => match us, hl with | [_, _], _ => rfl⟩,
      a47 := f47, d47 := _, D47 := ⟨F47, PySem.W.mg_of X G g47, F47.binds fun _ _ _ _ _ _ us hl => match us, hl with | [_, _], _ => rfl⟩,
      a48 := fa, d48 := _, D48 := ⟨F48, PySem.W.mg_of X G g48, F48.binds fun _ _ _ _ _ _ us hl => match us, hl with | [_], _ => rfl⟩,
      c11 := c11, P11 := P11, T11 := ⟨rfl, ⟨PySem.W.codeHd_of_K kb h11, (bA P11 (by simp)).1, (bA P11 (by simp)).2⟩⟩,
      c12 := c12, P12 := P12, T12 := ⟨rfl, ⟨PySem.W.codeHd_of_K kb h12, (bA P12 (by simp)).1, (bA P12 (by simp)).2⟩⟩,
      c29 := c29, P29 := P29, T29 := ⟨rfl, ⟨PySem.W.codeHd_of_K kb h29, (bA P29 (by simp)).1, (bA P29 (by simp)).2⟩⟩,
      c32 := c32, P32 := P32, T32 := ⟨rfl, ⟨PySem.W.codeHd_of_K kb h32, (bA P32 (by simp)).1, (bA P32 (by simp)).2⟩⟩,
      m_isinstance := PySem.W.mg_none_of X G z_isinstance,
      m_int := PySem.W.mg_none_of X G z_int,
      m_bool := PySem.W.mg_none_of X G z_bool,
      m_tuple := PySem.W.mg_none_of X G z_tuple,
      m_all := PySem.W.mg_none_of X G z_all,
      m_str := PySem.W.mg_none_of X G z_str,
      m_len := PySem.W.mg_none_of X G z_len,
      m_enumerate := PySem.W.mg_none_of X G z_enumerate,
      m_zip := PySem.W.mg_none_of X G z_zip,
      m_min := PySem.W.mg_none_of X G z_min,
      m_set := PySem.W.mg_none_of X G z_set,
      m_range := PySem.W.mg_none_of X G z_range,
      m_repr := PySem.W.mg_none_of X G z_repr,
      m_list := PySem.W.mg_none_of X G z_list,
      m_max := PySem.W.mg_none_of X G z_max,
      g_ML := ⟨t1, PySem.W.mg_of X G zML⟩, g_MM := ⟨t2, PySem.W.mg_of X G zMM⟩ }, rfl, rfl⟩
    subst eA
    have inS : K.In s.heap := fun b o e => (e0.bs b o (kb b o e)).1
    refine run_at W.D48.F sc48 (k := 7) (us := [.ref a]) (vs := [.ref a]) ⟨rfl, by decide, by decide⟩ e0 (by simpa using W.D48.b s [.ref a] inS rfl) (.cons rfl .nil) rfl fun cdv room => ?_
    obtain ⟨t, ht, hq⟩ := ok48 W (E := E0) rfl room sq sh (by rw [eT]; exact tk)
    exact ⟨t, ht.nox, hq⟩
end Zk
set_option Elab.async false
set_option maxRecDepth 100000
open PySem PySem.W PyProof.Rows
set_option maxRecDepth 100000 in
set_option maxHeartbeats 0 in
theorem PySem.Challenge.cw_draftward_k02_whole_texts_to_tokens_and_holds : PySem.Challenge.rw_draftward_k02_whole_texts_to_tokens_and.Holds := by
  w_on; o_law; k_head; (case hw => w_witness2)
  k_fill
  refine Zk.walk_at (l := PySem.Challenge.rw_draftward_k02_whole_texts_to_tokens_and) Zk.tabNames rfl rfl (by decide +kernel) (fun w h Y => PySem.W.kIn_of Y) ?F
  case F =>
    intro w mg fa h KX G hmg own
    refine' Zk.all_mk KX G hmg own ?g7 ?l7 ?q7 ?k7 ?g8 ?l8 ?q8 ?k8 ?g9 ?l9 ?q9 ?k9 ?g10 ?l10 ?q10 ?k10 ?g11 ?l11 ?q11 ?k11 ?g12 ?l12 ?q12 ?k12 ?g13 ?l13 ?q13 ?k13 ?g14 ?l14 ?q14 ?k14 ?g15 ?l15 ?q15 ?k15 ?g16 ?l16 ?q16 ?k16 ?g20 ?l20 ?q20 ?k20 ?g21 ?l21 ?q21 ?k21 ?g22 ?l22 ?q22 ?k22 ?g23 ?l23 ?q23 ?k23 ?g24 ?l24 ?q24 ?k24 ?g25 ?l25 ?q25 ?k25 ?g26 ?l26 ?q26 ?k26 ?g27 ?l27 ?q27 ?k27 ?g28 ?l28 ?q28 ?k28 ?g29 ?l29 ?q29 ?k29 ?g30 ?l30 ?q30 ?k30 ?g31 ?l31 ?q31 ?k31 ?g32 ?l32 ?q32 ?k32 ?g33 ?l33 ?q33 ?k33 ?g34 ?l34 ?q34 ?k34 ?g35 ?l35 ?q35 ?k35 ?g36 ?l36 ?q36 ?k36 ?g38 ?l38 ?q38 ?k38 ?g39 ?l39 ?q39 ?k39 ?g40 ?l40 ?q40 ?k40 ?g41 ?l41 ?q41 ?k41 ?g42 ?l42 ?q42 ?k42 ?g43 ?l43 ?q43 ?k43 ?g44 ?l44 ?q44 ?k44 ?g45 ?l45 ?q45 ?k45 ?g46 ?l46 ?q46 ?k46 ?g47 ?l47 ?q47 ?k47 ?g48 ?l48 ?q48 ?k48 ?lc11 ?v11 ?n11 ?h11 ?lc12 ?v12 ?n12 ?h12 ?lc29 ?v29 ?n29 ?h29 ?lc32 ?v32 ?n32 ?h32 ?z_isinstance ?z_int ?z_bool ?z_tuple ?z_all ?z_str ?z_len ?z_enumerate ?z_zip ?z_min ?z_set ?z_range ?z_repr ?z_list ?z_max ?zML ?zMM
    (case g7 => k_is)
    (case l7 => k_is)
    (case q7 => k_is)
    (case k7 => k_is)
    (case g8 => k_is)
    (case l8 => k_is)
    (case q8 => k_is)
    (case k8 => k_is)
    (case g9 => k_is)
    (case l9 => k_is)
    (case q9 => k_is)
    (case k9 => k_is)
    (case g10 => k_is)
    (case l10 => k_is)
    (case q10 => k_is)
    (case k10 => k_is)
    (case g11 => k_is)
    (case l11 => k_is)
    (case q11 => k_is)
    (case k11 => k_is)
    (case g12 => k_is)
    (case l12 => k_is)
    (case q12 => k_is)
    (case k12 => k_is)
    (case g13 => k_is)
    (case l13 => k_is)
    (case q13 => k_is)
    (case k13 => k_is)
    (case g14 => k_is)
    (case l14 => k_is)
    (case q14 => k_is)
    (case k14 => k_is)
    (case g15 => k_is)
    (case l15 => k_is)
    (case q15 => k_is)
    (case k15 => k_is)
    (case g16 => k_is)
    (case l16 => k_is)
    (case q16 => k_is)
    (case k16 => k_is)
    (case g20 => k_is)
    (case l20 => k_is)
    (case q20 => k_is)
    (case k20 => k_is)
    (case g21 => k_is)
    (case l21 => k_is)
    (case q21 => k_is)
    (case k21 => k_is)
    (case g22 => k_is)
    (case l22 => k_is)
    (case q22 => k_is)
    (case k22 => k_is)
    (case g23 => k_is)
    (case l23 => k_is)
    (case q23 => k_is)
    (case k23 => k_is)
    (case g24 => k_is)
    (case l24 => k_is)
    (case q24 => k_is)
    (case k24 => k_is)
    (case g25 => k_is)
    (case l25 => k_is)
    (case q25 => k_is)
    (case k25 => k_is)
    (case g26 => k_is)
    (case l26 => k_is)
    (case q26 => k_is)
    (case k26 => k_is)
    (case g27 => k_is)
    (case l27 => k_is)
    (case q27 => k_is)
    (case k27 => k_is)
    (case g28 => k_is)
    (case l28 => k_is)
    (case q28 => k_is)
    (case k28 => k_is)
    (case g29 => k_is)
    (case l29 => k_is)
    (case q29 => k_is)
    (case k29 => k_is)
    (case g30 => k_is)
    (case l30 => k_is)
    (case q30 => k_is)
    (case k30 => k_is)
    (case g31 => k_is)
    (case l31 => k_is)
    (case q31 => k_is)
    (case k31 => k_is)
    (case g32 => k_is)
    (case l32 => k_is)
    (case q32 => k_is)
    (case k32 => k_is)
    (case g33 => k_is)
    (case l33 => k_is)
    (case q33 => k_is)
    (case k33 => k_is)
    (case g34 => k_is)
    (case l34 => k_is)
    (case q34 => k_is)
    (case k34 => k_is)
    (case g35 => k_is)
    (case l35 => k_is)
    (case q35 => k_is)
    (case k35 => k_is)
    (case g36 => k_is)
    (case l36 => k_is)
    (case q36 => k_is)
    (case k36 => k_is)
    (case g38 => k_is)
    (case l38 => k_is)
    (case q38 => k_is)
    (case k38 => k_is)
    (case g39 => k_is)
    (case l39 => k_is)
    (case q39 => k_is)
    (case k39 => k_is)
    (case g40 => k_is)
    (case l40 => k_is)
    (case q40 => k_is)
    (case k40 => k_is)
    (case g41 => k_is)
    (case l41 => k_is)
    (case q41 => k_is)
    (case k41 => k_is)
    (case g42 => k_is)
    (case l42 => k_is)
    (case q42 => k_is)
    (case k42 => k_is)
    (case g43 => k_is)
    (case l43 => k_is)
    (case q43 => k_is)
    (case k43 => k_is)
    (case g44 => k_is)
    (case l44 => k_is)
    (case q44 => k_is)
    (case k44 => k_is)
    (case g45 => k_is)
    (case l45 => k_is)
    (case q45 => k_is)
    (case k45 => k_is)
    (case g46 => k_is)
    (case l46 => k_is)
    (case q46 => k_is)
    (case k46 => k_is)
    (case g47 => k_is)
    (case l47 => k_is)
    (case q47 => k_is)
    (case k47 => k_is)
    (case g48 => k_is)
    (case l48 => k_is)
    (case q48 => k_is)
    (case k48 => k_is)
    (case lc11 => k_is)
    (case v11 => rfl)
    (case n11 => kernel_rfl)
    (case h11 => kernel_rfl)
    (case lc12 => k_is)
    (case v12 => rfl)
    (case n12 => kernel_rfl)
    (case h12 => kernel_rfl)
    (case lc29 => k_is)
    (case v29 => rfl)
    (case n29 => kernel_rfl)
    (case h29 => kernel_rfl)
    (case lc32 => k_is)
    (case v32 => rfl)
    (case n32 => kernel_rfl)
    (case h32 => kernel_rfl)
    (case z_isinstance => k_is)
    (case z_int => k_is)
    (case z_bool => k_is)
    (case z_tuple => k_is)
    (case z_all => k_is)
    (case z_str => k_is)
    (case z_len => k_is)
    (case z_enumerate => k_is)
    (case z_zip => k_is)
    (case z_min => k_is)
    (case z_set => k_is)
    (case z_range => k_is)
    (case z_repr => k_is)
    (case z_list => k_is)
    (case z_max => k_is)
    (case zML => k_is)
    (case zMM => k_is)
