import PyProof.Rows.All
import Wide.All
import OpenK.AllK
import Wide.FinOn
import HandS.ForMost
import HandS.Walk
import HandS.AnyAll
import HandS.EndTab
import HandS.Zip
import HandS.GenOver
import PyProof.GenCompD
import HandS.Deep
import HandS.Style
import HandS.Conv
import HandS.Strs
import HandS.StrMore
import HandS.Wide
import HandS.NoneIn
import HandS.Flow
import HandS.IsInst
import HandS.TupAny
import HandS.Exc
import HandS.ExcInit
import HandS.CallSlots
import HandS.TupMul
import KE.GoesMore
import KE.GoesEnum
import HandS.Star
import PyProof.ListStr
import PyProof.ReprRoads
import KE.GoesZip
import HandS.WordsExc
import PyProof.SumWalkG
import HandS.Replace
import HandS.EndOwn
import HandS.SortInts
import PyProof.StrLawsRepr
import PyProof.FitsInt
import PyProof.MeetsSeq2
import KE.KStar
import HandS.SortKw
import KE.KDictList
import HandS.NamedTupSort
import HandS.DictTup
import PyProof.DictMoreH
import HandS.RaiseMore
import PySem.Challenge.RW_draftward_k08_whole_rows_that_are_kept
set_option Elab.async false
set_option linter.all false
set_option maxRecDepth 100000
set_option maxHeartbeats 4000000
/-! all(element for target in source): the element told at the level of the layer, whatever it does to the heap. -/
namespace Gn
open PySem PySem.Spec PyProof.Rows L2 GxR

/-- the context of a generator expression's frame, that starts at s -/
abbrev gcx (X : Cx) (A' : Around) (s : Shared) (H : Hp) (cenv : Env) (scope : Scope) (fp : List Addr) : Cx :=
  { X with A := A', s_0 := s, H_0 := H, env := cenv, outer := X.stack, stack := cenv :: X.stack, ex := fp, fn := fun x => scope.names.lookup x == some .cell, pn := [], xe := fun _ _ => False }

section
variable {X : Cx} {pins : List (Addr × Obj)} {σ : L2.St} {H : Hp} {s : Shared}
/-- all objects kept, generators as they like -/
theorem inv_same {s' : Shared} (I : Inv X pins σ H s) (k : ∀ b o, s.heap.get? b = some o → s'.heap.get? b = some o) (ho : s'.os = s.os) (hg : AllBare s'.gens) : Inv X pins σ H s' :=
  I.call' (ch := []) ho (Un.kept k) (I.hok.kept k) hg fun b hb => absurd hb (by simp)

theorem gen_start {scope : Scope} {own : List (Str × Nat)} {fp : List Addr} {code : Value} {A' : Around} {h' : Heap} {t' : Nat} {g' : Array GenState} {m : Str → Option Value}
    (I : Inv X pins σ H s) (ok : BlkOk X.N X.env.scope scope own) (hcell : ∀ y ∈ scope.names, y.2 ≠ .cell) (hN : X.N.Nodup) (hfp : ∀ b ∈ fp, FpOk X pins H b ∧ b < s.heap.objs.size)
    (hd : A'.handled = none) (hfr : A'.frames = some (genEnv scope (cloFrom X.env.cells scope.names []) s.heap.objs.size code builtinsNs X.env :: X.stack))
    (kp : ∀ b o, s.heap.get? b = some o → h'.get? b = some o) (hn : h'.Ns s.heap.objs.size m) (hg : AllBare g') :
    Inv (gcx X A' s H (genEnv scope (cloFrom X.env.cells scope.names []) s.heap.objs.size code builtinsNs X.env) scope fp) [] (wipe σ (own.map (·.2))) H { s with heap := h', toks := t', gens := g' } := by
  have hfree : ∀ y ∈ scope.names, y.2 = .free → ∃ c, X.env.cells.lookup y.1 = some c := fun y hy e => by
    rcases ok.free y hy e with k | k
    · exact I.ok.has _ (.inl k)
    · exact I.ok.has _ (.inr k)
  generalize hcenv : genEnv scope (cloFrom X.env.cells scope.names []) s.heap.objs.size code builtinsNs X.env = cenv at hfr ⊢
  have hL : cenv.locals = s.heap.objs.size := by rw [← hcenv]; rfl
  have hcl : cenv.cells = cloFrom X.env.cells scope.names [] := by rw [← hcenv]; rfl
  have hsc : cenv.scope = scope := by rw [← hcenv]; rfl
  have cm : ∀ {y c}, cenv.cells.lookup y = some c → X.env.cells.lookup y = some c ∧ c < s.heap.objs.size := fun {y c} e => by
    rw [hcl] at e
    rcases cloFrom_mem (PySem.mem_of_lookup e) with hm | ⟨h1, rfl⟩
    · cases hm
    · obtain ⟨c, hc⟩ := hfree _ h1 rfl
      rw [hc]
      obtain ⟨w, z⟩ := I.cell _ _ hc
      exact ⟨rfl, z.lt⟩
  have look : ∀ {y}, scope.names.lookup y = some .free → ∃ c, cenv.cells.lookup y = some c ∧ X.env.cells.lookup y = some c := fun {y} hl => by
    have hy : (y, NameKind.free) ∈ scope.names := PySem.mem_of_lookup hl
    obtain ⟨c', e'⟩ := mem_lookup (cloFrom_has (cells := X.env.cells) (acc := []) hy)
    rw [← hcl] at e'
    exact ⟨c', e', (cm e').1⟩
  have ncell : ∀ {y}, ¬ cenv.kindOf y = some .cell := fun {y} hy => by
    unfold Env.kindOf at hy
    rw [hsc] at hy
    exact hcell _ (PySem.mem_of_lookup hy) rfl
  have okB : (gcx X A' s H cenv scope fp).Ok := by
    refine ⟨I.ok.mod, by show cenv.scope.kind = _; rw [hsc]; exact ok.kind, by show cenv.globals = _; rw [← hcenv]; exact I.ok.glob, by show cenv.builtins = _; rw [← hcenv]; rfl, by show s.heap.objs.size ≤ cenv.locals; rw [hL]; exact Nat.le_refl _,
      fun y z c e1 e2 => I.ok.inj y z c (cm e1).1 (cm e2).1, fun y hy => ?_, fun y c z e => ?_, fun _ => hd, hfr, .inr ⟨rfl, by show cenv.frame = some cenv.locals; rw [← hcenv]; rfl⟩, fun b hb => ⟨?_, fun y c e z => ?_⟩, I.bs, Nat.le_trans I.ok.bsz I.sz, fun b o e hb => ?_, fun b hb z => ?_, I.stack, I.stkFree⟩
    · rcases hy with hy | hy
      · exact absurd hy ncell
      · have hy : cenv.scope.names.lookup y = some .free := hy
        rw [hsc] at hy
        obtain ⟨c, h1, _⟩ := look hy
        exact ⟨c, h1⟩
    · have z : (scope.names.lookup y == some NameKind.cell) = true := z
      have z : scope.names.lookup y = some .cell := by simpa using z
      exact absurd rfl (hcell _ (PySem.mem_of_lookup z))
    · show b ≠ cenv.locals
      rw [hL]; exact Nat.ne_of_lt (hfp b hb).2
    · exact (hfp b hb).1.2.2.2.2.1 y c (cm e).1 z
    · rcases (hfp b hb).1.2.2.2.1 with z | z
      · exact I.ok.noex b o e z
      · exact absurd (Nat.lt_of_lt_of_le (Heap.lt_size e) (Nat.le_trans I.ok.bsz z)) (Nat.lt_irrefl _)
    · rcases List.mem_cons.mp (I.stkSub b z) with z | z
      · exact (hfp b hb).1.2.1 z
      · exact (hfp b hb).1.2.2.1 z
  refine ⟨okB, rfl, hg, Un.kept kp, ⟨m, ?_, fun i y av e1 e2 e3 => ?_⟩, fun y c e => ?_, ?_, fun y c e => ?_, fun p hp => ?_, I.hok.kept kp, by rw [wipe_length]; exact I.len⟩
  · show Heap.Ns _ cenv.locals _
    rw [hL]
    exact hn
  · obtain ⟨e2, hne⟩ := wipe_some e2
    have hfr : scope.names.lookup y = some .free := by
      have no : ∀ k, scope.names.lookup y = some k → ¬ (k = .local ∨ k = .cell) := fun k e hh => by
        rcases ok.own _ (PySem.mem_of_lookup e) hh with e' | e'
        · obtain ⟨p, hp, hpy⟩ := List.mem_map.mp e'
          have e3 := ok.ix p hp
          have : p.1 = y := hpy
          rw [this] at e3
          exact hne (List.mem_map.mpr ⟨p, hp, nodup_ix hN e3 e1⟩)
        · exact e' (List.mem_of_getElem? e1)
      have e3 : Vis cenv.scope y := e3
      rw [hsc] at e3
      rcases e3 with e3 | e3 | e3
      · exact absurd (.inl rfl) (no _ e3)
      · exact absurd (.inr rfl) (no _ e3)
      · exact e3
    obtain ⟨m, hn, hl⟩ := I.loc
    have hvis : Vis X.env.scope y := (ok.free _ (PySem.mem_of_lookup hfr) rfl).elim (fun k => .inr (.inl k)) (fun k => .inr (.inr k))
    obtain ⟨w, r, q⟩ := hl i y av e1 e2 hvis
    refine ⟨w, r, .inr ⟨.inr (by show cenv.scope.names.lookup y = _; rw [hsc]; exact hfr), ?_⟩⟩
    obtain ⟨c, h1, h2⟩ := look hfr
    rcases q with ⟨k, _⟩ | ⟨_, c', e', z⟩
    · have k : X.env.scope.names.lookup y = some .local := k
      rcases ok.free _ (PySem.mem_of_lookup hfr) rfl with k' | k' <;> rw [show X.env.scope.names.lookup y = _ from k'] at k <;> cases k
    · rw [h2] at e'; cases e'
      exact ⟨c, h1, z.keeps kp⟩
  · obtain ⟨w, z⟩ := I.cell y c (cm e).1
    exact ⟨w, z.keeps kp⟩
  · show H cenv.locals = none
    rw [hL]; exact I.hok.fresh (Nat.le_refl _)
  · exact I.freeC y c (cm e).1
  · exact absurd (show p ∈ ([] : List (Addr × Obj)) ++ [] from hp) (by simp)
end
end Gn
set_option Elab.async false
set_option linter.all false
set_option maxRecDepth 100000
set_option maxHeartbeats 4000000
/-! the generator's own loop, and all's loop over it -/
namespace Gn
open PySem PySem.Spec PyProof.Rows L2 GxR

section
variable {elt tg iter : Expr} {scope : Scope} {pos : Pos} {it acc : Value} {cenv : Env}
theorem over_gloop (A : Around) : A.over (.compLoop (.GeneratorExp elt [⟨tg, iter, [], 0⟩] scope pos) 0 it acc cenv) [] = A.deeper cenv := by
  first
    | rfl
    | (obtain ⟨hd, d, fr, gs, u⟩ := A; simp [Around.over, Around.deeper, marksOver, frameCount, unitsOf, envsOf, guardsOf, pushEnvs, pushGuards, Code.envs, Code.env?, Code.isFrame, Code.guards, Code.isGuard, Code.weight, Code.frames, Code.isCreation, Code.isCaller, Code.cUnits])
theorem over_gstart (A : Around) : A.over (.compStart (.GeneratorExp elt [⟨tg, iter, [], 0⟩] scope pos) 0 it acc cenv) [] = A.deeper cenv := by
  first
    | rfl
    | (obtain ⟨hd, d, fr, gs, u⟩ := A; simp [Around.over, Around.deeper, marksOver, frameCount, unitsOf, envsOf, guardsOf, pushEnvs, pushGuards, Code.envs, Code.env?, Code.isFrame, Code.guards, Code.isGuard, Code.weight, Code.frames, Code.isCreation, Code.isCaller, Code.cUnits])
end

/-- one turn as it is told: W by the turn and a measure -/
def AllStep (J : It) (g : TG) (te : TE) (σ : L2.St) (vs : List Nat) (W : Nat → Nat → Hp → Prop) (Q : VK) : Prop := ∀ i m H, W i m H →
  (J.stop i H ∧ Q (.bl true) H) ∨ (J.go i H ∧ ∀ x H', J.yld i H x H' → g x (wipe σ vs) H' fun σ2 H2 => wipe σ2 vs = wipe σ vs ∧ te σ2 H2 fun y H3 =>
    ∃ b, y = .bl b ∧ if b = true then ∃ m', m' < m ∧ W (i + 1) m' H3 else Q (.bl false) H3)

/-- what the generator's end is worth -/
def genR (X : Cx) (pins : List (Addr × Obj)) (σ : L2.St) (a : Addr) (o : Obj) (g : Nat) (Q : VK) : Shared → Prop := fun s1 =>
  ∃ H', Inv X pins σ H' s1 ∧ s1.heap.get? a = some o ∧ g < s1.gens.size ∧ Q (.bl true) H'
/-- a value given out -/
def genY (X : Cx) (pins : List (Addr × Obj)) (σ : L2.St) (a : Addr) (o : Obj) (g : Nat) (Q : VK) : Protocol := fun _ _ v s kap =>
  ∃ b H', v = .bool b ∧ Inv X pins σ H' s ∧ s.heap.get? a = some o ∧ g < s.gens.size ∧
    if b = true then ∀ s'' : Shared, (∀ b o, s.heap.get? b = some o → s''.heap.get? b = some o) → s''.os = s.os → AllBare s''.gens → g < s''.gens.size → kap (.send .none) s'' else Q (.bl false) H'

section
variable {elt tg iter : Expr} {scope : Scope} {pos : Pos} {it : Addr} {cenv : Env}
theorem sbw {M : Model} {A : Around} {R : GenEnd} {Y : Protocol} {n : Nat} {s₀ : Shared} {s : Shared} {α β : Type} {m : Sem α} {K : α → Sem β} {K' : β → Sem Fin} {H' : Value → Sem Fin} {gd lv}
    (h : wpAny M (A.deeper cenv) m (fun a s' => Seg M A R Y n s₀ (.compLoop (.GeneratorExp elt [⟨tg, iter, [], 0⟩] scope pos) 0 (.ref it) .none cenv) ((K a).wrap K' H' gd lv) [] s') (fun _ _ => False) s) :
    Seg M A R Y n s₀ (.compLoop (.GeneratorExp elt [⟨tg, iter, [], 0⟩] scope pos) 0 (.ref it) .none cenv) ((m >>= K).wrap K' H' gd lv) [] s :=
  seg_bind_wrap (by rw [over_gloop]; exact wpAny_mono h (fun _ _ z => z) fun _ _ z => False.elim z)
theorem sw {M : Model} {A : Around} {R : GenEnd} {Y : Protocol} {n : Nat} {s₀ : Shared} {s : Shared} {α : Type} {m : Sem α} {K' : α → Sem Fin} {H' : Value → Sem Fin} {gd lv}
    (h : wpAny M (A.deeper cenv) m (fun a s' => Seg M A R Y n s₀ (.compLoop (.GeneratorExp elt [⟨tg, iter, [], 0⟩] scope pos) 0 (.ref it) .none cenv) (K' a) [] s') (fun _ _ => False) s) :
    Seg M A R Y n s₀ (.compLoop (.GeneratorExp elt [⟨tg, iter, [], 0⟩] scope pos) 0 (.ref it) .none cenv) (m.wrap K' H' gd lv) [] s :=
  seg_wrap (by rw [over_gloop]; exact wpAny_mono h (fun _ _ z => z) fun _ _ z => False.elim z)
/-- the number of generators never falls -/
theorem gsz {α : Type} {M : Model} {A : Around} {s : Shared} {t : Sem α} {Q : α → Shared → Prop} {g : Nat} (hn : g < s.gens.size) (h : wpAny M A t (fun a s' => g < s'.gens.size → Q a s') (fun _ _ => False) s) : wpAny M A t Q (fun _ _ => False) s :=
  GenW.wpAny_gsz (n := g + 1) hn (wpAny_mono h (fun _ _ z => z) fun _ _ z => False.elim z)
end
section
variable {X : Cx} {pins : List (Addr × Obj)} {σ : L2.St}
theorem seg_loop {elt tg iter : Expr} {scope : Scope} {pos : Pos} {own : List (Str × Nat)} {it : Addr} {fp : List Addr} {tn : Nat → Heap → Prop} {J : It} {gt : TG} {te : TE} {W : Nat → Nat → Hp → Prop} {Q : VK} {s4 : Shared} {H4 : Hp} {cenv : Env} {a : Addr} {o : Obj} {g : Nat} {A1 : Around}
    (I4 : Inv X pins σ H4 s4) (f4 : ∀ b ∈ fp, FpOk X pins H4 b) (hab : ∀ b ∈ fp, a ≠ b) (hc : X.calm = true) (hco : cenv.scope.isCoroutine = false) (T : Turn X.prog X.w X.K tg J fp it tn)
    (pg : PG (gcx X (A1.deeper cenv) s4 H4 cenv scope fp) tg gt) (pe : PE (gcx X (A1.deeper cenv) s4 H4 cenv scope fp) elt te) (turn : AllStep J gt te σ (own.map (·.2)) W Q) :
    ∀ (n i m : Nat) (s₀ s : Shared) (H : Hp), m ≤ n → Inv (gcx X (A1.deeper cenv) s4 H4 cenv scope fp) [(a, o)] (wipe σ (own.map (·.2))) H s → tn i s.heap → (∀ b ∈ fp, H b = none) → W i m H → g < s.gens.size →
      Seg (model X.prog X.w) A1 (fun _ _ r s1 => r = .ok .next ∧ genR X pins σ a o g Q s1) (genY X pins σ a o g Q) (n + 1) s₀
        (.compLoop (.GeneratorExp elt [⟨tg, iter, [], 0⟩] scope pos) 0 (.ref it) .none cenv)
        ((model X.prog X.w).den (.compLoop (.GeneratorExp elt [⟨tg, iter, [], 0⟩] scope pos) 0 (.ref it) .none cenv)) [] s := by
  have stat : ∀ {σ' : L2.St} {H' : Hp} {s' : Shared}, Inv (gcx X (A1.deeper cenv) s4 H4 cenv scope fp) [(a, o)] σ' H' s' → (∀ b ∈ fp, H' b = none) → (∀ b ∈ fp, a ≠ b) → ∀ b ∈ fp, FpOk (gcx X (A1.deeper cenv) s4 H4 cenv scope fp) [(a, o)] H' b := fun {σ' H' s'} I' hn ha b hb =>
    ⟨hn b hb, (I'.ok.exf b hb).1, I'.ok.exfs b hb, .inl hb, fun x c e => (I'.ok.exf b hb).2 x c e, fun p hp => by
      have : p = (a, o) := by simpa using hp
      rw [this]; exact ha b hb⟩
  have back : ∀ {σ' : L2.St} {H' : Hp} {s' : Shared} {pl : List (Addr × Obj)}, Inv (gcx X (A1.deeper cenv) s4 H4 cenv scope fp) pl σ' H' s' → Inv X pins σ H' s' := fun {σ' H' s' pl} I6 =>
    I4.call' (ch := fp) I6.os I6.base I6.hok I6.bare fun b hb => ⟨(f4 b hb).2.2.2.1, (f4 b hb).2.1, (f4 b hb).2.2.2.2.1, (f4 b hb).2.2.2.2.2⟩
  intro n
  induction n with
  | zero => ?_
  | succ n ih => ?_
  all_goals
    intro i m s₀ s H hm I st nf w hg
    show Seg _ A1 _ _ _ s₀ _ ((compTurn (.GeneratorExp elt [⟨tg, iter, [], 0⟩] scope pos) 0 (.ref it) .none cenv).onRaise (leaving cenv)) [] s
    rw [compTurn_gen, Sem.onRaise_eq_wrap]
    refine sbw (wpAny_standAt ?_)
    rcases turn i m H w with ⟨stop, qq⟩ | ⟨go, step⟩
    · refine sbw (gsz hg (thnF (T.done (gcx X (A1.deeper cenv) s4 H4 cenv scope fp) rfl rfl rfl hc i _ s _ H (fun _ _ => False) I (stat I nf hab) st stop) fun r s6 ⟨hr, I6⟩ hg6 => ?_))
      subst hr
      exact seg_end (.ok .next) ⟨rfl, H, back I6, (I6.pin (a, o) (by simp)).1, hg6, qq⟩
    · refine sbw (gsz hg (thnF (T.item (gcx X (A1.deeper cenv) s4 H4 cenv scope fp) rfl rfl rfl hc i _ s _ H (fun _ _ => False) I (stat I nf hab) st go) fun r s6 ⟨u, hr, h6⟩ hg6 => ?_))
      subst hr
      refine sbw (gsz hg6 (thnF h6 fun _ s7 ⟨x, H7, I7, r7, y7, st7, n7⟩ hg7 => ?_))
      have I7' := I7.pinned (stat I7 n7 hab) (T.obj _ _ st7)
      refine sbw (gsz hg7 (thnF (pg.run _ s7 _ H7 x u _ I7' r7 (step x H7 y7)) fun _ s8 ⟨σ8, H8, I8, hw8, q8⟩ hg8 => ?_))
      refine sbw (gsz hg8 (thnF ((pts_nil (X := gcx X (A1.deeper cenv) s4 H4 cenv scope fp)).run _ s8 σ8 H8 (fun b H => b = true ∧ H = H8) I8 ⟨rfl, rfl⟩) fun b s9 ⟨H9, I9, hb, hH9⟩ hg9 => ?_))
      subst hb hH9
      simp only [if_true]
      have hy : ∀ v, yieldOut cenv v = yieldValue v := fun v => by simp only [yieldOut, hco, Bool.false_eq_true, if_false]
      simp only [hy]
      rw [Sem.bind_eq_wrap', Sem.bind_eq_wrap', Sem.wrap_wrap, Sem.wrap_wrap]
      refine sw (gsz hg9 (thnF (pe.run _ s9 σ8 H9 _ I9 q8) fun z s10 ⟨yv, H10, I10, r10, b, hyv, nx⟩ hg10 => ?_))
      subst hyv
      have r10 : z = .bool b := r10
      subst r10
      have pA : s10.heap.get? a = some o := (I10.pin (a, o) (by simp)).1
      have pin' : ∀ b ∈ fp, ∀ o, s7.heap.get? b = some o → s10.heap.get? b = some o ∧ H10 b = none := fun b hb o e =>
        let z := I10.pin (b, o) (List.mem_append_right _ (List.mem_append_right _ (mem_pinsAt hb e)))
        ⟨z.1, z.2.1⟩
      have hl : (wipe σ (own.map (·.2))).length = σ8.length := by rw [← hw8, wipe_length]
      have I11 : Inv (gcx X (A1.deeper cenv) s4 H4 cenv scope fp) [(a, o)] (wipe σ (own.map (·.2))) H10 s10 := (I10.unpinned (pins := [(a, o)])).weak hl fun j v e => by
        rw [← hw8] at e
        exact (wipe_some e).1
      refine seg_at (seg_yield rfl rfl rfl ⟨b, H10, rfl, back I10, pA, hg10, ?_⟩)
      cases b with
      | false =>
        simp only [Bool.false_eq_true, if_false] at nx ⊢
        exact nx
      | true =>
        simp only [if_true] at nx ⊢
        obtain ⟨m', hm', w'⟩ := nx
        intro s'' hk ho hb hg''
        first
          | exact absurd (Nat.lt_of_lt_of_le hm' hm) (Nat.not_lt_zero _)
          | exact seg_again rfl (ih (i + 1) m' s'' s'' H10 (by omega) (inv_same I11 hk ho hb) (T.keep _ _ _ st7 fun b hb o e => hk b o (pin' b hb o e).1) (fun b hb => by
              obtain ⟨o, e, _⟩ := T.obj _ _ st7 b hb
              exact (pin' b hb o e).2) w' hg'')
end
end Gn
set_option Elab.async false
set_option linter.all false
set_option maxRecDepth 100000
set_option maxHeartbeats 4000000
/-! all(..) of a generator expression, whole -/
namespace Gn
open PySem PySem.Spec PyProof.Rows L2 GxR

theorem setGen_at {s : Shared} {g : Nat} {x : GenState} (h : g < s.gens.size) : (s.setGen g x).gens[g]? = some x := by
  simp [Shared.setGen, h]
theorem setB (s : Shared) (g : Nat) (x : GenState) (hb : AllBare s.gens) (hx : x.bare = true) : AllBare (s.setGen g x).gens := by
  intro y hy
  obtain ⟨i, hi, rfl⟩ := Array.mem_iff_getElem.mp hy
  by_cases e : i = g
  · subst e
    have hi' : i < s.gens.size := by rw [GenW.setGen_size] at hi; exact hi
    have h1 := setGen_at (x := x) hi'
    rw [Array.getElem?_eq_getElem hi] at h1
    rw [Option.some.inj h1]
    exact hx
  · have h1 := (GenOnly.setGen s g x).2 i e
    rw [Array.getElem?_eq_getElem hi] at h1
    obtain ⟨hi', e'⟩ := Array.getElem?_eq_some_iff.mp h1.symm
    exact e' ▸ hb _ (Array.getElem_mem hi')
section
variable {X : Cx} {pins : List (Addr × Obj)} {σ : L2.St}
/-- all's loop over the generator -/
theorem all_loop {a : Addr} {o : Obj} {g : Nat} {Q : VK} {Rr : Result → Shared → Prop} (hc : X.calm = true) (hroom : X.A.depth < recursionLimit) (hgen : ∀ h : Heap, h.get? a = some o → h.IsGen a g)
    (hR : ∀ b s' H', Inv X pins σ H' s' → Q (.bl b) H' → Rr (.ok (.ret (.bool b))) s') :
    ∀ (n : Nat) (s : Shared) (H : Hp) (gs : GenState), Inv X pins σ H s → s.heap.get? a = some o → s.gens[g]? = some gs →
      (∀ s'' : Shared, (∀ b o, s.heap.get? b = some o → s''.heap.get? b = some o) → s''.os = s.os → AllBare s''.gens → g < s''.gens.size →
        gs.Goes (model X.prog X.w) X.A.in1.in1 (fun _ _ r s1 => r = .ok .next ∧ genR X pins σ a o g Q s1) (genY X pins σ a o g Q) n (.send .none) s'') →
      codeAny (model X.prog X.w) X.A (.builtin "all.loop" ⟨[.ref a], []⟩) Rr s := by
  intro n
  induction n with
  | zero => ?_
  | succ n ih => ?_
  all_goals
    intro s H gs I ha hgs hgo
    have hg : g < s.gens.size := by
      rcases Nat.lt_or_ge g s.gens.size with h' | h'
      · exact h'
      · rw [Array.getElem?_eq_none h'] at hgs; cases hgs
    have hh : X.A.in1.handled = none := I.ok.hd hc
    refine codeAny_builtin F.entry_all_loop ?_
    rw [Around.under_plainId F.plain_all_loop _]
    show wpAny _ X.A.in1 (pyNext (.ref a) >>= _) _ _ s
    refine wpAny_bind (wpAny_pyNext_genexpQ (A := X.A.in1) (P := fun _ _ s1 => genR X pins σ a o g Q s1) (Y := genY X pins σ a o g Q) hh I.nolimit hroom (hgen _ ha) hgs
      (hgo _ (fun _ _ e => e) rfl (setB _ _ _ I.bare rfl) (by rw [GenW.setGen_size]; exact hg)) (fun v s1 gs' hb hv => ?_) (fun s1 hp h' hk => ?_))
    · obtain ⟨b, H', rfl, I1, ha1, hg1, hk⟩ := hv
      have I2 : Inv X pins σ H' (s1.setGen g gs') := inv_same I1 (fun _ _ e => e) rfl (setB _ _ _ I1.bare hb)
      refine wpAny_bind (wpAny_holding (wpAny_truthy_bool ?_))
      refine wpAny_bind (wpAny_letGo ?_)
      cases b with
      | false =>
        simp only [Bool.false_eq_true, if_false] at hk ⊢
        refine wpAny_bind (wpAny_rule (wpAny_pure ?_))
        exact hR false _ H' I2 hk
      | true =>
        simp only [if_true] at hk ⊢
        first
          | exact (hk s1 (fun _ _ e => e) rfl I1.bare hg1).elim
          | exact wpAny_pure ⟨plainId_quiet F.plain_all_loop _, ih _ H' gs' I2 ha1 (setGen_at hg1) fun s'' k1 k2 k3 k4 => hk s'' k1 k2 k3 k4⟩
    · obtain ⟨H', I1, ha1, hg1, q⟩ := hp
      refine wpAny_bind (wpAny_rule (wpAny_pure ?_))
      exact hR true _ H' (inv_same I1 hk rfl (setB _ _ _ I1.bare rfl)) q

/-- all(elt for tg in iter): J what is walked, W by the turn and a measure -/
def tAllP (wi : TI) (gt : TG) (te : TE) (vs : List Nat) (P : Addr) : TE := fun σ H Q => wi σ H fun J H1 => TabG H1 P ∧ ∀ H2, Tabbed P H1 H2 → ∃ W : Nat → Nat → Hp → Prop, (∃ m, W 0 m H2) ∧ AllStep J gt te σ vs W Q
theorem boot_allP : bootBuiltins "all" = some (.builtin "all") := by decide +kernel

theorem gen_make {c P : Addr} {elt tg iter : Expr} {gpos : Pos} {scope : Scope} {own : List (Str × Nat)} {wi : TI} {gt : TG} {te : TE} {k : Nat} {H : Hp} {s : Shared} {Q : VK} {Q' : Value → Shared → Prop}
    (hc : X.calm = true) (hr : Room (k + 1) X.A) (TB : TabB X.base X.mg c P) (hcode : X.env.code = .ref c) (hN : X.N.Nodup) (ok : BlkOk X.N X.env.scope scope own) (hco : scope.isCoroutine = false) (hcell : ∀ y ∈ scope.names, y.2 ≠ .cell)
    (h0 : scope.names.lookup (".0" : Str) = some NameKind.local) (hi : PI X tg iter wi) (hs : ∀ v, genFold iter X.env v = pure v)
    (pg : ∀ (A' : Around) (s : Shared) (H : Hp) (C : Addr) (cl : List (Str × Addr)) (cd : Value) (fp : List Addr), PG (gcx X A' s H (genEnv scope cl C cd builtinsNs X.env) scope fp) tg gt)
    (pe : ∀ (A' : Around) (s : Shared) (H : Hp) (C : Addr) (cl : List (Str × Addr)) (cd : Value) (fp : List Addr), Room k A' → A'.guards = X.A.guards → PE (gcx X A' s H (genEnv scope cl C cd builtinsNs X.env) scope fp) elt te)
    (I : Inv X pins σ H s) (h : tAllP wi gt te (own.map (·.2)) P σ H Q)
    (hQ : ∀ a o g n s5 H5 gs, (∀ h : Heap, h.get? a = some o → h.IsGen a g) → Inv X pins σ H5 s5 → s5.heap.get? a = some o → s5.gens[g]? = some gs →
      (∀ s'' : Shared, (∀ b o, s5.heap.get? b = some o → s''.heap.get? b = some o) → s''.os = s5.os → AllBare s''.gens → g < s''.gens.size →
        gs.Goes (model X.prog X.w) X.A.in1.in1 (fun _ _ r s1 => r = .ok .next ∧ genR X pins σ a o g Q s1) (genY X pins σ a o g Q) n (.send .none) s'') → Q' (.ref a) s5) :
    wpAny (model X.prog X.w) X.A (eval (.GeneratorExp elt [⟨tg, iter, [], 0⟩] scope gpos) X.env) Q' X.xe s := by
  have hfree : ∀ y ∈ scope.names, y.2 = .free → ∃ c, X.env.cells.lookup y.1 = some c := fun y hy e => by
    rcases ok.free y hy e with k | k
    · exact I.ok.has _ (.inl k)
    · exact I.ok.has _ (.inr k)
  refine wpAny_GeneratorExp_make hco (closure_ok hfree) hcell h0 ok.kind (by have := hr.dp; omega) ?_ hs
  refine thn (hi.run pins s σ H _ I h) fun xv s1 hx => thn hx fun itv s2 h2 => ?_
  obtain ⟨it, fp, tn, J, H2, e, I2, T, st2, f2, ⟨ps, hP, ht⟩, q⟩ := h2
  subst e
  refine ⟨I2.nolimit, ?_⟩
  have hPs : s2.heap.get? P = some { cls := .none, data := .fields ps } := I2.hok P _ hP
  have hPlt := Heap.lt_size hPs
  have cd : PySem.W.CodeHd s2.heap c P := TB.code.keeps fun b u e => I2.bk b u e
  have nfP : ∀ b ∈ fp, b ≠ P := fun b hb z => by
    have := (f2 b hb).1
    rw [z, hP] at this
    cases this
  have cont : ∀ (code : Value) (h3 : Heap) (tk : Nat) (ps' : Array Value), Heap.ExtBut P s2.heap h3 → s2.heap.objs.size ≤ h3.objs.size →
      h3.get? P = some { cls := .none, data := .fields ps' } → (∃ more, ps' = ps ++ more) → TriplesOk ps'.toList →
      wpAny (model X.prog X.w) X.A (builtinsFor X.env.globals X.env.builtins) (fun bi s₄ =>
        ∀ h', h'.Ns s₄.heap.objs.size (fun y => if y = ".0" then some (.ref it) else none) → Heap.SameBut s₄.heap.objs.size (s₄.heap.push { cls := .type "frame", data := .dict #[] }) h' →
          Q' (.ref h'.objs.size) { s₄ with
            gens := s₄.gens.push (.fresh (.compStart (.GeneratorExp elt [⟨tg, iter, [], 0⟩] scope gpos) 0 (.ref it) .none (genEnv scope (cloFrom X.env.cells scope.names []) s₄.heap.objs.size code bi X.env))),
            toks := s₄.toks + 1 + 1 + 1,
            heap := h'.push { cls := .type "generator", data := .fields #[.int s₄.gens.size 0, .str "<genexpr>" (s₄.toks + 1), .str (X.env.qual ++ "<genexpr>") (s₄.toks + 1 + 1)] } }) X.xe { s2 with heap := h3, toks := tk } := by
    intro code h3 tk ps' hx hsz hP3 hmore ht3
    obtain ⟨more, em⟩ := hmore
    obtain ⟨bm, ob, e1, e2, e3, e4, e5, e6, e7, e8⟩ := TB.bm
    have keep3 : ∀ b u, b ≠ P → s2.heap.get? b = some u → h3.get? b = some u := fun b u hb e => hx b u hb e
    have I3 : Inv X pins σ (upd H2 P (.tbl (ps ++ more))) { s2 with heap := h3, toks := tk } := inv_tab (g' := s2.gens) (d' := s2.drawn) (t' := tk) I2 hP keep3 (by rw [← em]; exact hP3) I2.bare
    have tbd : Tabbed P H2 (upd H2 P (.tbl (ps ++ more))) := ⟨⟨_, upd_same, by rw [← em]; exact ht3⟩, fun b hb => upd_ne hb⟩
    refine wpAny_builtinsFor (m := X.mg) (by rw [I2.ok.glob]; exact (I2.mod.glob.keeps I2.bk).extBut hx TB.gP) e1 e2 (keep3 _ _ e4 (I2.bk _ _ e5)) e6 e7 e8 ?_
    intro h' hn' hs'
    generalize hs4 : ({ s2 with heap := h3, toks := tk } : Shared) = s4 at I3 hn' hs' ⊢
    have h4 : s4.heap = h3 := by rw [← hs4]
    have hsz' : h'.objs.size = s4.heap.objs.size + 1 := by rw [hs'.1, Heap.size_push]
    have keep' : ∀ b o, s4.heap.get? b = some o → h'.get? b = some o := fun b o e => hs'.extBut b o (Nat.ne_of_lt (Heap.lt_size e)) (Heap.get?_push_of_some _ e)
    generalize ho : ({ cls := .type "generator", data := .fields #[.int s4.gens.size 0, .str "<genexpr>" (s4.toks + 1), .str (X.env.qual ++ "<genexpr>") (s4.toks + 1 + 1)] } : Obj) = o
    have keep₅ : ∀ b u, s4.heap.get? b = some u → (h'.push o).get? b = some u := fun b u e => Heap.get?_push_of_some _ (keep' b u e)
    have f4 : ∀ b ∈ fp, FpOk X pins (upd H2 P (.tbl (ps ++ more))) b := fun b hb => ⟨by rw [upd_ne (nfP b hb)]; exact (f2 b hb).1, (f2 b hb).2⟩
    have st4 : tn 0 s4.heap := T.keep _ _ _ st2 fun b hb u e => by rw [h4]; exact keep3 b u (nfP b hb) e
    have lt4 : ∀ b ∈ fp, b < s4.heap.objs.size := fun b hb => by
      obtain ⟨u, e, _⟩ := T.obj _ _ st4 b hb
      exact Heap.lt_size e
    obtain ⟨W, ⟨m0, w0⟩, turn⟩ := q _ tbd
    generalize hH4 : upd H2 P (.tbl (ps ++ more)) = H4 at I3 f4 w0
    generalize hce : genEnv scope (cloFrom X.env.cells scope.names []) s4.heap.objs.size code builtinsNs X.env = ce
    have geta : (h'.push o).get? h'.objs.size = some o := Heap.get?_push_size _ (by rw [← ho]; rfl)
    have hbare : AllBare (s4.gens.push (GenState.fresh (.compStart (.GeneratorExp elt [⟨tg, iter, [], 0⟩] scope gpos) 0 (.ref it) .none ce))) := I3.bare.push rfl
    have Afr : (X.A.in1.in1.deeper ce).frames = some (ce :: X.stack) := by
      show X.A.frames.map (ce :: ·) = _
      rw [I.ok.frames]
      rfl
    refine hQ h'.objs.size o s4.gens.size (m0 + 1) _ H4 _ (fun h e => by rw [← ho] at e; exact ⟨_, _, _, e, rfl, rfl, rfl⟩) (inv_same (s' := { s4 with gens := _, toks := _, heap := h'.push o }) I3 keep₅ rfl hbare) geta (Array.getElem?_push_size ..) fun s'' hk hos hab'' hg'' => ?_
    refine ⟨rfl, ?_⟩
    -- the frame at its first waking
    have Ig : Inv (gcx X (X.A.in1.in1.deeper ce) s4 H4 ce scope fp) [] (wipe σ (own.map (·.2))) H4 s'' := by
      have z := gen_start (A' := X.A.in1.in1.deeper ce) (h' := h'.push o) (t' := s4.toks) (g' := s4.gens) (m := _) (code := code) I3 ok hcell hN (fun b hb => ⟨f4 b hb, lt4 b hb⟩) (I.ok.hd hc) (by rw [hce]; exact Afr) keep₅ (hn'.push _) I3.bare
      rw [hce] at z
      exact inv_same z hk hos hab''
    have Ia : Inv (gcx X (X.A.in1.in1.deeper ce) s4 H4 ce scope fp) [(h'.objs.size, o)] (wipe σ (own.map (·.2))) H4 s'' := by
      refine Ig.pins_of fun p hp => ?_
      have : p = (h'.objs.size, o) := by simpa using hp
      subst this
      refine ⟨hk _ _ geta, I3.hok.fresh (by rw [hsz']; exact Nat.le_succ _), ?_, ?_, ?_⟩
      · show h'.objs.size ≠ ce.locals
        rw [← hce, hsz']
        exact Nat.succ_ne_self _
      · intro z
        exact absurd (Nat.lt_of_lt_of_le (show h'.objs.size < s4.heap.objs.size from by
          rcases List.mem_cons.mp (I3.stkSub _ z) with z | z
          · have z' : h'.objs.size = X.env.locals := z
            rw [z']; exact I3.lt
          · obtain ⟨_, u, hu, _⟩ := I3.ok.funs.mem z
            exact Nat.lt_of_lt_of_le (Heap.lt_size hu) I3.sz) (by rw [hsz']; exact Nat.le_succ _)) (Nat.lt_irrefl _)
      · intro v
        rw [← ho]
        intro z
        cases z
    have loop := seg_loop (elt := elt) (iter := iter) (pos := gpos) (it := it) (a := h'.objs.size) (o := o) (g := s4.gens.size) (A1 := X.A.in1.in1) (cenv := ce) I3 f4 (fun b hb z => by
        have h1 := lt4 b hb
        have h2 : h'.objs.size = b := z
        rw [← h2, hsz'] at h1
        exact absurd h1 (Nat.not_lt.mpr (Nat.le_succ _))) hc (by rw [← hce]; exact hco) T (by rw [← hce]; exact pg ..) (by rw [← hce]; exact pe _ _ _ _ _ _ _ ⟨I.ok.hd hc, by have := hr.dp; show X.A.depth + 1 + 3 * k + 5 < _; omega, by have := hr.un; show X.A.units + 1 + 1 + 3 + 16 * k + 200 < _; omega⟩ rfl) turn m0 0 m0 s'' s'' H4 (Nat.le_refl _) Ia (T.keep _ _ _ st4 fun b _ u e => hk b u (keep₅ b u e)) (fun b hb => (f4 b hb).1) w0 hg''
    show Seg _ X.A.in1.in1 _ _ _ s'' _ ((compStart (.GeneratorExp elt [⟨tg, iter, [], 0⟩] scope gpos) 0 (.ref it) .none ce).onRaise (leaving ce)) [] s''
    unfold compStart
    rw [Sem.onRaise_eq_wrap]
    show Seg _ X.A.in1.in1 _ _ _ s'' _ ((ask >>= _).wrap _ _ _ _) [] s''
    refine seg_bind_wrap (wpAny_askSetting ?_)
    split
    · exact seg_again rfl loop
    · exact seg_bind_wrap (wpAny_rule (seg_bind_wrap (wpAny_standAt (seg_bind_wrap (T.self _ 0 s'' _ _ (T.keep _ _ _ st4 fun b _ u e => hk b u (keep₅ b u e)) (seg_again rfl loop))))))
  cases hf : codeAmong gpos ps.toList with
  | none =>
    refine wpAny_genexprCodeX hcode (cd.code hPs ht) (cd.tab hPs) hf fun c' h' tk hx hge hlt hco' _ htab' _ => ?_
    obtain ⟨o1, vs, f1, tf, fl, tg', inF, tx, tt, op, _, _, _, _, _, _, _, _, _, htr, _⟩ := hco'
    exact cont _ h' tk _ hx (Nat.le_trans hge (Nat.le_of_lt hlt)) htab'.2 ⟨_, rfl⟩ htr
  | some cv =>
    refine wpAny_genexprCode_hit hcode (cd.code hPs ht) hf ?_
    exact cont cv s2.heap s2.toks ps (Heap.ExtBut.refl _ _) (Nat.le_refl _) hPs ⟨#[], by simp⟩ ht
theorem pe_allP {c P : Addr} {elt tg iter : Expr} {p pos gpos : Pos} {scope : Scope} {own : List (Str × Nat)} {wi : TI} {gt : TG} {te : TE} {k : Nat}
    (hc : X.calm = true) (hr : Room (k + 1) X.A) (hg : Gl X "all") (hm : X.mg "all" = none) (TB : TabB X.base X.mg c P) (hcode : X.env.code = .ref c) (hN : X.N.Nodup) (ok : BlkOk X.N X.env.scope scope own) (hco : scope.isCoroutine = false)
    (hcell : ∀ y ∈ scope.names, y.2 ≠ .cell) (h0 : scope.names.lookup (".0" : Str) = some NameKind.local) (hi : PI X tg iter wi)
    (pg : ∀ (A' : Around) (s : Shared) (H : Hp) (C : Addr) (cl : List (Str × Addr)) (cd : Value) (fp : List Addr), PG (gcx X A' s H (genEnv scope cl C cd builtinsNs X.env) scope fp) tg gt)
    (pe : ∀ (A' : Around) (s : Shared) (H : Hp) (C : Addr) (cl : List (Str × Addr)) (cd : Value) (fp : List Addr), Room k A' → A'.guards = X.A.guards → PE (gcx X A' s H (genEnv scope cl C cd builtinsNs X.env) scope fp) elt te)
    (hs : ∀ v, genFold iter X.env v = pure v := by intro _; rfl)
    (he : starEach [.GeneratorExp elt [⟨tg, iter, [], 0⟩] scope gpos] X.env = (false, eval (.GeneratorExp elt [⟨tg, iter, [], 0⟩] scope gpos) X.env) :: starEach [] X.env := by rfl) :
    PE X (.Call (.Name "all" p) [.GeneratorExp elt [⟨tg, iter, [], 0⟩] scope gpos] [] pos) (tAllP wi gt te (own.map (·.2)) P) := by
  refine ⟨fun pins s σ H Q I h => ?_⟩
  refine wpAny_Call_Name_kw (ld_blt I hg hm boot_allP (callWith_builtin1 ?_ he (by rfl)))
  rw [he]
  show wpAny _ _ (spliced ((false, eval (.GeneratorExp elt [⟨tg, iter, [], 0⟩] scope gpos) X.env) :: backTo pos (starEach [] X.env))) _ _ s
  refine Calls.spliced_cons (gen_make (Q := Q) hc hr TB hcode hN ok hco hcell h0 hi hs pg pe I h fun a o g n s5 H5 gs hgen I5 ha hgs hgo => ?_)
  refine Calls.spliced_nil ?_
  refine call_function_tree F.kind_all F.plain_all F.entry_all (F.args_all1 _) ?_
  unfold Builtin.«all»
  refine wpAny_bind (m := oneArg "all" _) (wpAny_pure ?_)
  refine wpAny_bind (wpAny_pyIter_gen (hgen _ ha) ?_)
  exact wpAny_pure ⟨plainId_quiet F.plain_all_loop _, all_loop (X := X) (pins := pins) (σ := σ) (Q := Q) hc (by have := hr.dp; omega) hgen (fun b s' H' J q => ⟨.bl b, H', J, rfl, q⟩) n s5 H5 gs I5 ha hgs hgo⟩
end
end Gn
set_option Elab.async false
set_option linter.all false
set_option maxRecDepth 100000
set_option maxHeartbeats 4000000
/-! Data by value over the layer: what a value shows, what the heap shows, and readings that speak of data alone. -/
namespace Dl
open PySem PySem.Spec PyProof.Rows L2 GxR Gn

inductive D where
  | non | bl (b : Bool) | int (i : Int) | str (x : Str) | tup (ds : List D) | obj (i : Nat) | adr (a : Addr) | ty (n : String) | scr (ns : List Int)

/-- what changes: lists, dicts, objects -/
inductive Cell where
  | lst (ds : List D)
  | dK (kvs : List (Key × D))
  | dT (kvs : List (List Key × D))
  | ins (C : Addr) (fs : List (Str × D))
abbrev Mem := List Cell
abbrev Rho := Nat → Option Addr

/-- a list that stays as it is -/
def FrL (K : PySem.W.Frag) (H : Hp) (a : Addr) (xs : List V) : Prop := (∃ o, H a = some (.frz o (.lst xs))) ∨
  ∃ (o : Obj) (its : Array Value) (n : Nat), K.lookup a = some o ∧ o.cls = .type "list" ∧ o.dict = none ∧ o.data = .seq its n ∧ its.size ≤ sizeLine ∧ Vals xs its.toList
theorem FrL.sq {K : PySem.W.Frag} {H : Hp} {a : Addr} {xs : List V} (h : FrL K H a xs) : SqL K H a xs := h.elim (fun h => .inl (.inr h)) .inr
mutual
inductive Sh (K : PySem.W.Frag) (ρ : Rho) (H : Hp) : D → V → Prop
  | non : Sh K ρ H .non .non
  | bl (b : Bool) : Sh K ρ H (.bl b) (.bl b)
  | int (i : Int) : Sh K ρ H (.int i) (.int i)
  | str (x : Str) : Sh K ρ H (.str x) (.str x)
  | tup {a : Addr} {xs : List V} {ds : List D} : H a = some (.tup xs) → Shs K ρ H ds xs → Sh K ρ H (.tup ds) (.ref a)
  | obj {i : Nat} {a : Addr} : ρ i = some a → Sh K ρ H (.obj i) (.ref a)
  | adr (a : Addr) : Sh K ρ H (.adr a) (.ref a)
  | ty (n : String) : Sh K ρ H (.ty n) (.ty n)
  | scr {a : Addr} {ns : List Int} : FrL K H a (ns.map V.int) → Sh K ρ H (.scr ns) (.ref a)
inductive Shs (K : PySem.W.Frag) (ρ : Rho) (H : Hp) : List D → List V → Prop
  | nil : Shs K ρ H [] []
  | cons {d : D} {ds : List D} {v : V} {vs : List V} : Sh K ρ H d v → Shs K ρ H ds vs → Shs K ρ H (d :: ds) (v :: vs)
end

/-- what stays -/
structure Grw (ρ : Rho) (H : Hp) (ρ' : Rho) (H' : Hp) : Prop where
  r : ∀ i a, ρ i = some a → ρ' i = some a
  t : ∀ b xs, H b = some (.tup xs) → H' b = some (.tup xs)
  z : ∀ b o u, H b = some (.frz o u) → H' b = some (.frz o u)
theorem Grw.refl (ρ : Rho) (H : Hp) : Grw ρ H ρ H := ⟨fun _ _ e => e, fun _ _ e => e, fun _ _ _ e => e⟩
theorem Grw.tr {ρ ρ1 ρ2 : Rho} {H H1 H2 : Hp} (a : Grw ρ H ρ1 H1) (b : Grw ρ1 H1 ρ2 H2) : Grw ρ H ρ2 H2 :=
  ⟨fun i x e => b.r i x (a.r i x e), fun c xs e => b.t c xs (a.t c xs e), fun c o u e => b.z c o u (a.z c o u e)⟩
instance {K : PySem.W.Frag} {H : Hp} {a : Addr} {xs : List V} : Coe (H a = some (.tup xs)) (SqT K H a xs) := ⟨SqT.of⟩
theorem SqT.grw {K : PySem.W.Frag} {ρ ρ' : Rho} {H H' : Hp} {a : Addr} {xs : List V} (g : Grw ρ H ρ' H') (h : SqT K H a xs) : SqT K H' a xs := by
  rcases h with (h | ⟨o, h⟩) | h
  · exact .inl (.inl (g.t a xs h))
  · exact .inl (.inr ⟨o, g.z a o _ h⟩)
  · exact .inr h
mutual
theorem Sh.grw {K : PySem.W.Frag} {ρ ρ' : Rho} {H H' : Hp} (g : Grw ρ H ρ' H') : ∀ (d : D) (v : V), Sh K ρ H d v → Sh K ρ' H' d v
  | .non, _, h => by cases h; exact .non
  | .bl b, _, h => by cases h; exact .bl b
  | .int i, _, h => by cases h; exact .int i
  | .str x, _, h => by cases h; exact .str x
  | .tup ds, _, h => by
    cases h with
    | tup h1 h2 => exact .tup (g.t _ _ h1) (Shs.grw g ds _ h2)
  | .obj i, _, h => by
    cases h with
    | obj e => exact .obj (g.r _ _ e)
  | .adr a, _, h => by cases h; exact .adr a
  | .ty n, _, h => by cases h; exact .ty n
  | .scr ns, _, h => by
    cases h with
    | scr e => exact .scr (e.elim (fun ⟨o, e⟩ => .inl ⟨o, g.z _ _ _ e⟩) .inr)
theorem Shs.grw {K : PySem.W.Frag} {ρ ρ' : Rho} {H H' : Hp} (g : Grw ρ H ρ' H') : ∀ (ds : List D) (vs : List V), Shs K ρ H ds vs → Shs K ρ' H' ds vs
  | [], _, h => by cases h; exact .nil
  | d :: ds, _, h => by
    cases h with
    | cons h1 h2 => exact .cons (Sh.grw g d _ h1) (Shs.grw g ds _ h2)
end
section
variable {K : PySem.W.Frag} {ρ ρ' : Rho} {H H' : Hp}
theorem Shs.length : ∀ {ds : List D} {vs : List V}, Shs K ρ H ds vs → ds.length = vs.length
  | [], _, h => by cases h; rfl
  | d :: ds, _, h => by
    cases h with
    | cons h1 h2 => simp [Shs.length h2]
theorem Shs.get : ∀ {ds : List D} {vs : List V} {i : Nat} {v : V}, Shs K ρ H ds vs → vs[i]? = some v → ∃ d, ds[i]? = some d ∧ Sh K ρ H d v
  | [], _, _, _, h, e => by cases h; simp at e
  | d :: ds, _, 0, v, h, e => by
    cases h with
    | cons h1 h2 => simp at e; subst e; exact ⟨d, rfl, h1⟩
  | d :: ds, _, i + 1, v, h, e => by
    cases h with
    | cons h1 h2 =>
      obtain ⟨d', e1, h3⟩ := Shs.get (i := i) (v := v) h2 (by simpa using e)
      exact ⟨d', by simpa using e1, h3⟩
theorem Shs.getD : ∀ {ds : List D} {vs : List V} {i : Nat} {d : D}, Shs K ρ H ds vs → ds[i]? = some d → ∃ v, vs[i]? = some v ∧ Sh K ρ H d v
  | [], _, _, _, h, e => by simp at e
  | d :: ds, _, 0, d', h, e => by
    cases h with
    | cons h1 h2 => simp at e; subst e; exact ⟨_, rfl, h1⟩
  | d :: ds, _, i + 1, d', h, e => by
    cases h with
    | cons h1 h2 =>
      obtain ⟨v, e1, h3⟩ := Shs.getD (i := i) (d := d') h2 (by simpa using e)
      exact ⟨v, by simpa using e1, h3⟩
theorem Shs.append : ∀ {ds es : List D} {vs ws : List V}, Shs K ρ H ds vs → Shs K ρ H es ws → Shs K ρ H (ds ++ es) (vs ++ ws)
  | [], _, _, _, h, h' => by cases h; exact h'
  | d :: ds, _, _, _, h, h' => by
    cases h with
    | cons h1 h2 => exact .cons h1 (Shs.append h2 h')
theorem Shs.take : ∀ {ds : List D} {vs : List V} (n : Nat), Shs K ρ H ds vs → Shs K ρ H (ds.take n) (vs.take n)
  | _, _, 0, _ => by simp; exact .nil
  | [], _, n + 1, h => by cases h; exact .nil
  | d :: ds, _, n + 1, h => by
    cases h with
    | cons h1 h2 => exact .cons h1 (Shs.take n h2)
theorem Shs.drop : ∀ {ds : List D} {vs : List V} (n : Nat), Shs K ρ H ds vs → Shs K ρ H (ds.drop n) (vs.drop n)
  | _, _, 0, h => by simpa using h
  | [], _, n + 1, h => by cases h; exact .nil
  | d :: ds, _, n + 1, h => by
    cases h with
    | cons h1 h2 => exact Shs.drop n h2
theorem Shs.set : ∀ {ds : List D} {vs : List V} (n : Nat) {d : D} {v : V}, Shs K ρ H ds vs → Sh K ρ H d v → Shs K ρ H (ds.set n d) (vs.set n v)
  | [], _, n, _, _, h, _ => by cases h; exact .nil
  | d :: ds, _, 0, _, _, h, h' => by
    cases h with
    | cons h1 h2 => exact .cons h' h2
  | d :: ds, _, n + 1, _, _, h, h' => by
    cases h with
    | cons h1 h2 => exact .cons h1 (Shs.set n h2 h')
theorem Shs.eraseIdx : ∀ {ds : List D} {vs : List V} (n : Nat), Shs K ρ H ds vs → Shs K ρ H (ds.eraseIdx n) (vs.eraseIdx n)
  | [], _, n, h => by cases h; exact .nil
  | d :: ds, _, 0, h => by
    cases h with
    | cons h1 h2 => exact h2
  | d :: ds, _, n + 1, h => by
    cases h with
    | cons h1 h2 => exact .cons h1 (Shs.eraseIdx n h2)
theorem Shs.reverse {ds : List D} {vs : List V} (h : Shs K ρ H ds vs) : Shs K ρ H ds.reverse vs.reverse := by
  induction ds generalizing vs with
  | nil => cases h; exact .nil
  | cons d ds ih =>
    cases h with
    | cons h1 h2 =>
      rw [List.reverse_cons, List.reverse_cons]
      exact (ih h2).append (.cons h1 .nil)
end

/-- named attributes, keyed items -/
inductive Shp (K : PySem.W.Frag) (ρ : Rho) (H : Hp) {κ : Type} : List (κ × D) → List (κ × V) → Prop
  | nil : Shp K ρ H [] []
  | cons {k : κ} {d : D} {ds : List (κ × D)} {v : V} {vs : List (κ × V)} : Sh K ρ H d v → Shp K ρ H ds vs → Shp K ρ H ((k, d) :: ds) ((k, v) :: vs)
theorem Shp.grw {K : PySem.W.Frag} {ρ ρ' : Rho} {H H' : Hp} (g : Grw ρ H ρ' H') {κ : Type} {ds : List (κ × D)} {vs : List (κ × V)} (h : Shp K ρ H ds vs) : Shp K ρ' H' ds vs := by
  induction h with
  | nil => exact .nil
  | cons h1 _ ih => exact .cons (Sh.grw g _ _ h1) ih
def CSh (K : PySem.W.Frag) (ρ : Rho) (H : Hp) : Cell → HO → Prop
  | .lst ds, o => ∃ vs, o = .lst vs ∧ Shs K ρ H ds vs
  | .dK kvs, o => ∃ vs, o = .dK vs ∧ Shp K ρ H kvs vs
  | .dT kvs, o => ∃ vs, o = .dT vs ∧ Shp K ρ H kvs vs
  | .ins C fs, o => ∃ dx vs, o = .ins C dx vs ∧ Shp K ρ H fs vs
theorem CSh.grw {K : PySem.W.Frag} {ρ ρ' : Rho} {H H' : Hp} (g : Grw ρ H ρ' H') {c : Cell} {o : HO} (h : CSh K ρ H c o) : CSh K ρ' H' c o := by
  cases c with
  | lst ds => obtain ⟨vs, e, h⟩ := h; exact ⟨vs, e, Shs.grw g _ _ h⟩
  | dK kvs => obtain ⟨vs, e, h⟩ := h; exact ⟨vs, e, h.grw g⟩
  | dT kvs => obtain ⟨vs, e, h⟩ := h; exact ⟨vs, e, h.grw g⟩
  | ins C fs => obtain ⟨dx, vs, e, h⟩ := h; exact ⟨dx, vs, e, h.grw g⟩

/-- the heap shows the memory -/
structure Rl (K : PySem.W.Frag) (Ts : List Addr) (ρ : Rho) (M : Mem) (H : Hp) : Prop where
  inj : ∀ i j a, ρ i = some a → ρ j = some a → i = j
  dom : ∀ i a, ρ i = some a → i < M.length
  cell : ∀ (i : Nat) (c : Cell), M[i]? = some c → ∃ a o, ρ i = some a ∧ H a = some o ∧ CSh K ρ H c o
  tab : ∀ P ∈ Ts, TabG H P

def cellHO : HO → Prop
  | .lst _ => True
  | .dK _ => True
  | .dT _ => True
  | .ins _ _ _ => True
  | _ => False
theorem CSh.is {K : PySem.W.Frag} {ρ : Rho} {H : Hp} {c : Cell} {o : HO} (h : CSh K ρ H c o) : cellHO o := by
  cases c with
  | lst ds => obtain ⟨vs, rfl, h⟩ := h; trivial
  | dK kvs => obtain ⟨vs, rfl, h⟩ := h; trivial
  | dT kvs => obtain ⟨vs, rfl, h⟩ := h; trivial
  | ins C fs => obtain ⟨dx, vs, rfl, h⟩ := h; trivial

section
variable {K : PySem.W.Frag} {Ts : List Addr} {ρ ρ' : Rho} {M M' : Mem} {H H' : Hp}
/-- a new object at a free place -/
theorem grw_new {p : Addr} {o : HO} (hp : H p = none) : Grw ρ H ρ (upd H p o) :=
  ⟨fun _ _ e => e, fun b xs e => by rw [upd_ne (ne_of_none e hp)]; exact e, fun b u xs e => by rw [upd_ne (ne_of_none e hp)]; exact e⟩
theorem Rl.new (R : Rl K Ts ρ M H) {p : Addr} {o : HO} (hp : H p = none) : Rl K Ts ρ M (upd H p o) := by
  refine ⟨R.inj, R.dom, fun i c e => ?_, fun P hP => ?_⟩
  · obtain ⟨a, u, e1, e2, e3⟩ := R.cell i c e
    exact ⟨a, u, e1, by rw [upd_ne (ne_of_none e2 hp)]; exact e2, e3.grw (grw_new hp)⟩
  · obtain ⟨ps, e, h⟩ := R.tab P hP
    exact ⟨ps, by rw [upd_ne (ne_of_none e hp)]; exact e, h⟩
def ext (ρ : Rho) (n : Nat) (p : Addr) : Rho := fun i => if i = n then some p else ρ i
theorem Rl.fresh (R : Rl K Ts ρ M H) : ρ M.length = none := by
  cases e : ρ M.length with
  | none => rfl
  | some a => exact absurd (R.dom _ _ e) (Nat.lt_irrefl _)
theorem grw_ext (R : Rl K Ts ρ M H) {p : Addr} {o : HO} (hp : H p = none) : Grw ρ H (ext ρ M.length p) (upd H p o) :=
  ⟨fun i a e => by
    unfold ext
    rw [if_neg (fun z => by rw [z, R.fresh] at e; cases e)]
    exact e, (grw_new (ρ := ρ) hp).t, (grw_new (ρ := ρ) hp).z⟩
theorem Rl.cellNew (R : Rl K Ts ρ M H) {p : Addr} {o : HO} {c : Cell} (hp : H p = none) (hc : CSh K ρ H c o) : Rl K Ts (ext ρ M.length p) (M ++ [c]) (upd H p o) := by
  have ne : ∀ i a, ρ i = some a → a ≠ p := fun i a e z => by
    have hi := R.dom i a e
    obtain ⟨b, u, e1, e2, _⟩ := R.cell i _ (List.getElem?_eq_getElem hi)
    rw [e] at e1
    cases e1
    rw [z, hp] at e2
    cases e2
  have g := grw_ext R (o := o) hp
  refine ⟨fun i j a e1 e2 => ?_, fun i a e => ?_, fun i c' e => ?_, fun P hP => (R.new hp).tab P hP⟩
  · unfold ext at e1 e2
    split at e1 <;> split at e2
    · rename_i h1 h2; rw [h1, h2]
    · cases e1; exact absurd rfl (ne _ _ e2)
    · cases e2; exact absurd rfl (ne _ _ e1)
    · exact R.inj i j a e1 e2
  · unfold ext at e
    rw [List.length_append]
    split at e
    · rename_i h; rw [h]; exact Nat.lt_succ_self _
    · exact Nat.lt_succ_of_lt (R.dom i a e)
  · by_cases hi : i < M.length
    · rw [List.getElem?_append_left hi] at e
      obtain ⟨a, u, e1, e2, e3⟩ := R.cell i c' e
      exact ⟨a, u, g.r i a e1, by rw [upd_ne (ne i a e1)]; exact e2, e3.grw g⟩
    · have : i = M.length := by
        have := (List.getElem?_eq_some_iff.mp e).1
        rw [List.length_append] at this
        simp at this
        omega
      subst this
      rw [List.getElem?_append_right (Nat.le_refl _), Nat.sub_self] at e
      cases e
      exact ⟨p, o, by unfold ext; rw [if_pos rfl], upd_same, hc.grw g⟩
/-- a cell changed -/
theorem grw_set (R : Rl K Ts ρ M H) {i : Nat} {a : Addr} {c : Cell} {o : HO} (e : M[i]? = some c) (ea : ρ i = some a) : Grw ρ H ρ (upd H a o) := by
  obtain ⟨b, u, e1, e2, e3⟩ := R.cell i c e
  rw [ea] at e1
  cases e1
  have q := e3.is
  refine ⟨fun _ _ e => e, fun b xs e => ?_, fun b w xs e => ?_⟩
  · rw [upd_ne (fun z => by rw [z, e2] at e; cases e; exact q)]; exact e
  · rw [upd_ne (fun z => by rw [z, e2] at e; cases e; exact q)]; exact e
theorem Rl.cellSet (R : Rl K Ts ρ M H) {i : Nat} {a : Addr} {c c' : Cell} {o : HO} (e : M[i]? = some c) (ea : ρ i = some a) (hc : CSh K ρ H c' o) : Rl K Ts ρ (M.set i c') (upd H a o) := by
  obtain ⟨b, u, e1, e2, e3⟩ := R.cell i c e
  have eb : b = a := by rw [ea] at e1; exact (Option.some.inj e1).symm
  subst eb
  have q := e3.is
  have g := grw_set R (o := o) e ea
  refine ⟨R.inj, fun j x h => by rw [List.length_set]; exact R.dom j x h, fun j c2 h => ?_, fun P hP => ?_⟩
  · by_cases hj : i = j
    · subst hj
      have hl := (List.getElem?_eq_some_iff.mp e).1
      rw [List.getElem?_set_self hl] at h
      cases h
      exact ⟨b, o, ea, upd_same, hc.grw g⟩
    · rw [List.getElem?_set_ne hj] at h
      obtain ⟨a', u', h1, h2, h3⟩ := R.cell j c2 h
      exact ⟨a', u', h1, by rw [upd_ne (fun z => hj (R.inj _ _ _ ea (by rw [← z]; exact h1)))]; exact h2, h3.grw g⟩
  · obtain ⟨ps, h, ht⟩ := R.tab P hP
    exact ⟨ps, by rw [upd_ne (fun z => by rw [z, e2] at h; cases h; exact q)]; exact h, ht⟩
end

/-- slots -/
abbrev Sl := List (Option D)
structure Sls (K : PySem.W.Frag) (ρ : Rho) (H : Hp) (S : Sl) (σ : L2.St) : Prop where
  len : S.length = σ.length
  at_ : ∀ (j : Nat) (d : D), S[j]? = some (some d) → ∃ v, σ[j]? = some (some v) ∧ Sh K ρ H d v
theorem Sls.grw {K : PySem.W.Frag} {ρ ρ' : Rho} {H H' : Hp} {S : Sl} {σ : L2.St} (g : Grw ρ H ρ' H') (h : Sls K ρ H S σ) : Sls K ρ' H' S σ :=
  ⟨h.len, fun j d e => let ⟨v, e1, e2⟩ := h.at_ j d e; ⟨v, e1, Sh.grw g _ _ e2⟩⟩
theorem Sls.set {K : PySem.W.Frag} {ρ : Rho} {H : Hp} {S : Sl} {σ : L2.St} (h : Sls K ρ H S σ) {d : D} {v : V} (i : Nat) (hv : Sh K ρ H d v) : Sls K ρ H (S.set i (some d)) (σ.set i (some v)) := by
  refine ⟨by rw [List.length_set, List.length_set]; exact h.len, fun j d' e => ?_⟩
  by_cases hj : i = j
  · subst hj
    have hl : i < S.length := by
      have := (List.getElem?_eq_some_iff.mp e).1
      rwa [List.length_set] at this
    rw [List.getElem?_set_self hl] at e
    cases e
    exact ⟨v, by rw [List.getElem?_set_self (by rw [← h.len]; exact hl)], hv⟩
  · rw [List.getElem?_set_ne hj] at e
    rw [List.getElem?_set_ne hj]
    exact h.at_ j d' e

/-! ### readings by data -/
abbrev KD := D → Mem → Prop
/-- what is wanted of what is raised: the class, its thing -/
abbrev KE' := Addr → D → Mem → Prop
abbrev TEd := Sl → Mem → KD → KE' → Prop
structure EndsD where
  nx : Sl → Mem → Prop
  rt : KD
  bk : Sl → Mem → Prop := fun _ _ => False
  ct : Sl → Mem → Prop := fun _ _ => False
abbrev TSd := EndsD → KE' → Sl → Mem → Prop
abbrev TAd := Sl → Mem → (List D → Mem → Prop) → KE' → Prop

/-- what is raised, from data to the layer -/
def XOk (K : PySem.W.Frag) (Ts : List Addr) (ρ : Rho) (H : Hp) (Ed : KE') (E : XK) : Prop :=
  ∀ C d M', Ed C d M' → ∀ ρ' H' dx v, Grw ρ H ρ' H' → Rl K Ts ρ' M' H' → H' dx = some (.xd [("thing", v)]) → Sh K ρ' H' d v → E (.ref C) (some dx) H'
theorem XOk.grw {K : PySem.W.Frag} {Ts : List Addr} {ρ ρ' : Rho} {H H' : Hp} {Ed : KE'} {E : XK} (g : Grw ρ H ρ' H') (h : XOk K Ts ρ H Ed E) : XOk K Ts ρ' H' Ed E :=
  fun C d M' e ρ2 H2 dx v g2 R hx hs => h C d M' e ρ2 H2 dx v (g.tr g2) R hx hs
def KOk (K : PySem.W.Frag) (Ts : List Addr) (ρ : Rho) (H : Hp) (Qd : KD) (Q : VK) : Prop :=
  ∀ d M', Qd d M' → ∀ ρ' H' v, Grw ρ H ρ' H' → Rl K Ts ρ' M' H' → Sh K ρ' H' d v → Q v H'
theorem KOk.grw {K : PySem.W.Frag} {Ts : List Addr} {ρ ρ' : Rho} {H H' : Hp} {Qd : KD} {Q : VK} (g : Grw ρ H ρ' H') (h : KOk K Ts ρ H Qd Q) : KOk K Ts ρ' H' Qd Q :=
  fun d M' e ρ2 H2 v g2 R hs => h d M' e ρ2 H2 v (g.tr g2) R hs
def rdE (K : PySem.W.Frag) (Ts : List Addr) (E : XK) (t : TEd) : TE := fun σ H Q => ∃ ρ S M Qd Ed, Rl K Ts ρ M H ∧ Sls K ρ H S σ ∧ t S M Qd Ed ∧ KOk K Ts ρ H Qd Q ∧ XOk K Ts ρ H Ed E
def rdA (K : PySem.W.Frag) (Ts : List Addr) (E : XK) (t : TAd) : TA := fun σ H Q => ∃ ρ S M Qd Ed, Rl K Ts ρ M H ∧ Sls K ρ H S σ ∧ t S M Qd Ed ∧ (∀ ds M', Qd ds M' → ∀ ρ' H' vs, Grw ρ H ρ' H' → Rl K Ts ρ' M' H' → Shs K ρ' H' ds vs → Q vs H') ∧ XOk K Ts ρ H Ed E
/-- a test -/
abbrev TTd := Sl → Mem → (Bool → Mem → Prop) → KE' → Prop
def rdT (K : PySem.W.Frag) (Ts : List Addr) (E : XK) (t : TTd) : TT := fun σ H Q => ∃ ρ S M Qd Ed, Rl K Ts ρ M H ∧ Sls K ρ H S σ ∧ t S M Qd Ed ∧ (∀ b M', Qd b M' → ∀ ρ' H', Grw ρ H ρ' H' → Rl K Ts ρ' M' H' → Q b H') ∧ XOk K Ts ρ H Ed E
def SOk (K : PySem.W.Frag) (Ts : List Addr) (ρ : Rho) (H : Hp) (Qd : Sl → Mem → Prop) (Q : L2.St → Hp → Prop) : Prop :=
  ∀ S' M', Qd S' M' → ∀ ρ' H' σ', Grw ρ H ρ' H' → Rl K Ts ρ' M' H' → Sls K ρ' H' S' σ' → Q σ' H'
theorem SOk.grw {K : PySem.W.Frag} {Ts : List Addr} {ρ ρ' : Rho} {H H' : Hp} {Qd : Sl → Mem → Prop} {Q : L2.St → Hp → Prop} (g : Grw ρ H ρ' H') (h : SOk K Ts ρ H Qd Q) : SOk K Ts ρ' H' Qd Q :=
  fun d M' e ρ2 H2 v g2 R hs => h d M' e ρ2 H2 v (g.tr g2) R hs
def rdS (K : PySem.W.Frag) (Ts : List Addr) (E : XK) (t : TSd) : TS := fun D' σ H => ∃ ρ S M Dd Ed, Rl K Ts ρ M H ∧ Sls K ρ H S σ ∧ t Dd Ed S M ∧ SOk K Ts ρ H Dd.nx D'.nx ∧ KOk K Ts ρ H Dd.rt D'.rt ∧ SOk K Ts ρ H Dd.bk D'.bk ∧ SOk K Ts ρ H Dd.ct D'.ct ∧ XOk K Ts ρ H Ed E

/-- a reading may be asked more of -/
theorem peLe {X : Cx} {e : Expr} {t t' : TE} (h : PE X e t) (i : ∀ σ H Q, t' σ H Q → t σ H Q) : PE X e t' := ⟨fun pins s σ H Q I q => h.run pins s σ H Q I (i σ H Q q)⟩
theorem ptLe {X : Cx} {e : Expr} {t t' : TT} (h : PT X e t) (i : ∀ σ H Q, t' σ H Q → t σ H Q) : PT X e t' := ⟨fun pins s σ H Q I q => h.run pins s σ H Q I (i σ H Q q)⟩
theorem paLe {X : Cx} {e : List Expr} {t t' : TA} (h : PA X e t) (i : ∀ σ H Q, t' σ H Q → t σ H Q) : PA X e t' := ⟨fun p pins s σ H Q I q => h.run p pins s σ H Q I (i σ H Q q)⟩
theorem psLe {X : Cx} {e : Stmt} {t t' : TS} (h : PS X e t) (i : ∀ D σ H, t' D σ H → t D σ H) : PS X e t' := ⟨fun pins s σ H D I q => h.run pins s σ H D I (i D σ H q)⟩
theorem pssLe {X : Cx} {e : List Stmt} {t t' : TS} (h : PSs X e t) (i : ∀ D σ H, t' D σ H → t D σ H) : PSs X e t' := ⟨fun pins s σ H D I q => h.run pins s σ H D I (i D σ H q)⟩

abbrev QE (X : Cx) (Ts : List Addr) (E : XK) (e : Expr) (t : TEd) : Prop := PE X e (rdE X.K Ts E t)
abbrev QA (X : Cx) (Ts : List Addr) (E : XK) (es : List Expr) (t : TAd) : Prop := PA X es (rdA X.K Ts E t)
abbrev QT (X : Cx) (Ts : List Addr) (E : XK) (e : Expr) (t : TTd) : Prop := PT X e (rdT X.K Ts E t)
abbrev QS (X : Cx) (Ts : List Addr) (E : XK) (s : Stmt) (t : TSd) : Prop := PS X s (rdS X.K Ts E t)
abbrev QSs (X : Cx) (Ts : List Addr) (E : XK) (s : List Stmt) (t : TSd) : Prop := PSs X s (rdS X.K Ts E t)
end Dl
set_option Elab.async false
set_option linter.all false
set_option maxRecDepth 100000
set_option maxHeartbeats 4000000
/-! Expressions by data. -/
namespace Dl
open PySem PySem.Spec PyProof.Rows L2 GxR Gn

section
variable {K : PySem.W.Frag} {Ts : List Addr} {ρ : Rho} {M : Mem} {H : Hp}
theorem Rl.lst (R : Rl K Ts ρ M H) {i : Nat} {ds : List D} (e : M[i]? = some (.lst ds)) : ∃ a vs, ρ i = some a ∧ H a = some (.lst vs) ∧ Shs K ρ H ds vs := by
  obtain ⟨a, o, e1, e2, vs, rfl, h⟩ := R.cell i _ e
  exact ⟨a, vs, e1, e2, h⟩
theorem Rl.dict (R : Rl K Ts ρ M H) {i : Nat} {ds : List (Key × D)} (e : M[i]? = some (.dK ds)) : ∃ a vs, ρ i = some a ∧ H a = some (.dK vs) ∧ Shp K ρ H ds vs := by
  obtain ⟨a, o, e1, e2, vs, rfl, h⟩ := R.cell i _ e
  exact ⟨a, vs, e1, e2, h⟩
theorem Rl.inst (R : Rl K Ts ρ M H) {i : Nat} {C : Addr} {fs : List (Str × D)} (e : M[i]? = some (.ins C fs)) : ∃ a dx vs, ρ i = some a ∧ H a = some (.ins C dx vs) ∧ Shp K ρ H fs vs := by
  obtain ⟨a, o, e1, e2, dx, vs, rfl, h⟩ := R.cell i _ e
  exact ⟨a, dx, vs, e1, e2, h⟩
theorem newTup (R : Rl K Ts ρ M H) {ds : List D} {vs : List V} (h : Shs K ρ H ds vs) {Qd : KD} {Q : VK} (k : KOk K Ts ρ H Qd Q) (q : Qd (.tup ds) M) {p : Addr} (hp : H p = none) : Q (.ref p) (upd H p (.tup vs)) :=
  k _ _ q ρ _ _ (grw_new hp) (R.new hp) (.tup upd_same (Shs.grw (grw_new hp) _ _ h))
theorem newLst (R : Rl K Ts ρ M H) {ds : List D} {vs : List V} (h : Shs K ρ H ds vs) {Qd : KD} {Q : VK} (k : KOk K Ts ρ H Qd Q) (q : Qd (.obj M.length) (M ++ [.lst ds])) {p : Addr} (hp : H p = none) : Q (.ref p) (upd H p (.lst vs)) :=
  k _ _ q _ _ _ (grw_ext R hp) (R.cellNew hp ⟨vs, rfl, h⟩) (.obj (by unfold ext; rw [if_pos rfl]))
/-- a cell changed, a value told -/
theorem setCell (R : Rl K Ts ρ M H) {i : Nat} {a : Addr} {c c' : Cell} {o : HO} (e : M[i]? = some c) (ea : ρ i = some a) (hc : CSh K ρ H c' o) {Qd : KD} {Q : VK} (k : KOk K Ts ρ H Qd Q) {d : D} {v : V} (hd : Sh K ρ H d v) (q : Qd d (M.set i c')) : Q v (upd H a o) :=
  k _ _ q ρ _ _ (grw_set R e ea) (R.cellSet e ea hc) (Sh.grw (grw_set R e ea) _ _ hd)
theorem KOk.same (k : KOk K Ts ρ H Qd Q) (R : Rl K Ts ρ M H) {d : D} {v : V} (q : Qd d M) (h : Sh K ρ H d v) : Q v H := k _ _ q ρ H v (Grw.refl ρ H) R h
end

section
variable {X : Cx} {Ts : List Addr} {E : XK} {pos : Pos}
/-! ### names, constants -/
@[simp] def dVar (i : Nat) : TEd := fun S M Q _ => ∃ d, S[i]? = some (some d) ∧ Q d M
theorem qv (i : Nat) {x : Str} {pos : Pos} (hN : X.N[i]? = some x := by rfl) (hv : Vis X.env.scope x := by first | exact Or.inl rfl | exact Or.inr (Or.inl rfl) | exact Or.inr (Or.inr rfl)) (hd : (x == ("__debug__" : Str)) = false := by decide) (hcd : (x == ("__classdict__" : Str)) = false := by decide) :
    QE X Ts E (.Name x pos) (dVar i) := peLe (pe_var hN hv hd hcd) fun σ H Q h => by
  obtain ⟨ρ, S, M, Qd, Ed, R, sl, ⟨d, e, q⟩, k, x⟩ := h
  obtain ⟨v, e1, hs⟩ := sl.at_ i d e
  exact ⟨v, e1, k.same R q hs⟩
@[simp] def dC (d : D) : TEd := fun _ M Q _ => Q d M
theorem rdC {t : TE} {d : D} {v : V} (ht : t = tC v) (hs : ∀ ρ H, Sh X.K ρ H d v) : ∀ σ H Q, rdE X.K Ts E (dC d) σ H Q → t σ H Q := fun σ H Q h => by
  obtain ⟨ρ, S, M, Qd, Ed, R, sl, q, k, x⟩ := h
  rw [ht]
  exact k.same R q (hs ρ H)
theorem qe_int {i : Int} {j : Nat} : QE X Ts E (.Constant (.int i) j pos) (dC (.int i)) := peLe pe_int (rdC rfl fun _ _ => .int i)
theorem qe_bl {i : Bool} {j : Nat} : QE X Ts E (.Constant (.bool i) j pos) (dC (.bl i)) := peLe pe_bl (rdC rfl fun _ _ => .bl i)
theorem qe_non {j : Nat} : QE X Ts E (.Constant .none j pos) (dC .non) := peLe pe_non (rdC rfl fun _ _ => .non)
theorem qe_str {i : Str} {j : Nat} : QE X Ts E (.Constant (.str i) j pos) (dC (.str i)) := peLe pe_str (rdC rfl fun _ _ => .str i)
theorem qe_glob {x : Str} {u : Value} {d : D} {v : V} (hg : Gl X x) (hm : X.mg x = some u) (r : RelV v u) (hs : ∀ ρ H, Sh X.K ρ H d v) (hd : (x == ("__debug__" : Str)) = false := by decide) : QE X Ts E (.Name x pos) (dC d) := peLe (pe_glob hg hm r hd) (rdC rfl hs)
theorem qe_bltn {x : Str} {n : String} (hg : Gl X x) (hm : X.mg x = none) (hv : bootBuiltins x = some (.type n)) (hn : x ≠ "__name__" := by decide) (hd : (x == ("__debug__" : Str)) = false := by decide) : QE X Ts E (.Name x pos) (dC (.ty n)) :=
  peLe (pe_bltn (v := .ty n) hg hm hv rfl hn hd) (rdC rfl fun _ _ => .ty n)

/-! ### operators by values -/
def OpD (X : Cx) (Ts : List Addr) (r : R2) (rd : D → D → Mem → KD → Prop) : Prop :=
  ∀ ρ M H x y v u Q Qd, Rl X.K Ts ρ M H → Sh X.K ρ H x v → Sh X.K ρ H y u → rd x y M Qd → KOk X.K Ts ρ H Qd Q → r v u H Q
@[simp] def dOp (rd : D → D → Mem → KD → Prop) (ta tb : TEd) : TEd := fun S M Q E => ta S M (fun x M1 => tb S M1 (fun y M2 => rd x y M2 Q) E) E
theorem opRead {r : R2} {rd : D → D → Mem → KD → Prop} (ho : OpD X Ts r rd) {ta tb : TEd} {σ : L2.St} {H : Hp} {Q : VK} (h : rdE X.K Ts E (dOp rd ta tb) σ H Q) : tOp r (rdE X.K Ts E ta) (rdE X.K Ts E tb) σ H Q := by
  obtain ⟨ρ, S, M, Qd, Ed, R, sl, h, k, x⟩ := h
  refine ⟨ρ, S, M, _, Ed, R, sl, h, fun d M1 h1 ρ1 H1 v g1 R1 s1 => ?_, x⟩
  exact ⟨ρ1, S, M1, _, Ed, R1, sl.grw g1, h1, fun e M2 h2 ρ2 H2 u g2 R2 s2 => ho ρ2 M2 H2 d e v u Q Qd R2 (Sh.grw g2 _ _ s1) s2 h2 (k.grw (g1.tr g2)), x.grw g1⟩
variable {a b c : Expr} {ta tb tc : TEd}
theorem qe_op {op : Operator} {r : R2} {rd : D → D → Mem → KD → Prop} (ho : OpR X (binaryOp op) r) (hd : OpD X Ts r rd) (ha : QE X Ts E a ta) (hb : QE X Ts E b tb) : QE X Ts E (.BinOp a op b pos) (dOp rd ta tb) := peLe (pe_op ho ha hb) fun _ _ _ => opRead hd
theorem qe_cmp {op : CmpOp} {r : R2} {rd : D → D → Mem → KD → Prop} (ho : OpR X (compareOp op) r) (hd : OpD X Ts r rd) (ha : QE X Ts E a ta) (hb : QE X Ts E b tb) (hm : behindInMarks op b = false) : QE X Ts E (.Compare a [op] [b] pos) (dOp rd ta tb) := peLe (pe_cmpR ho ha hb hm) fun _ _ _ => opRead hd
theorem qe_ix {r : R2} {rd : D → D → Mem → KD → Prop} (ho : IxR X r) (hd : OpD X Ts r rd) (ha : QE X Ts E a ta) (hb : QE X Ts E b tb) (hs : PlainIx b := by intro _ _; rfl) : QE X Ts E (.Subscript a b pos) (dOp rd ta tb) := peLe (pe_ix ho ha hb hs) fun _ _ _ => opRead hd

/-! ### + - * // % ** -/
def addD : D → D → Mem → KD → Prop
  | .int i, .int j, M, Q => Q (.int (i + j)) M
  | .str i, .str j, M, Q => i.length + j.length ≤ sizeLine ∧ Q (.str (i ++ j)) M
  | .tup xs, .tup ys, M, Q => xs.length + ys.length ≤ sizeLine ∧ Q (.tup (xs ++ ys)) M
  | .obj i, .obj j, M, Q => ∃ xs ys, M[i]? = some (.lst xs) ∧ M[j]? = some (.lst ys) ∧ xs.length + ys.length ≤ sizeLine ∧ Q (.obj M.length) (M ++ [.lst (xs ++ ys)])
  | _, _, _, _ => False
def rAddH (K : PySem.W.Frag) : R2 := fun x y H Q => (∃ i j, x = .int i ∧ y = .int j ∧ Q (.int (i + j)) H) ∨ (∃ i j, x = .str i ∧ y = .str j ∧ i.length + j.length ≤ sizeLine ∧ Q (.str (i ++ j)) H) ∨ rCatA K x y H Q ∨ rCat x y H Q
theorem op_addH : OpR X (binaryOp .Add) (rAddH X.K) := op_add.or (op_add_str.or (op_catA.or op_cat))
theorem shs_nil {K : PySem.W.Frag} {ρ : Rho} {H : Hp} {ds : List D} {vs : List V} (h : Shs K ρ H ds vs) : vs = [] ↔ ds = [] := by
  have := h.length
  constructor <;> intro e <;> subst e <;> simp at this
  · exact this
  · exact List.eq_nil_of_length_eq_zero this.symm
theorem od_add : OpD X Ts (rAddH X.K) addD := fun ρ M H x y v u Q Qd R sx sy h k => by
  cases sx with
  | int i => cases sy with
    | int j => exact .inl ⟨i, j, rfl, rfl, k.same R h (.int _)⟩
    | _ => exact h.elim
  | str i => cases sy with
    | str j => exact .inr (.inl ⟨i, j, rfl, rfl, h.1, k.same R h.2 (.str _)⟩)
    | _ => exact h.elim
  | @tup a xs ds ha hs => cases sy with
    | @tup b ys es hb ht =>
      have q : Qd (.tup (ds ++ es)) M := h.2
      refine .inr (.inr (.inl ⟨a, b, xs, ys, rfl, rfl, ha, hb, by rw [← hs.length, ← ht.length]; exact h.1, fun e => ?_, fun _ e => ?_, fun _ _ p hp => newTup R (hs.append ht) k q hp⟩))
      · obtain rfl := (shs_nil hs).mp e
        exact k.same R q (.tup hb ht)
      · obtain rfl := (shs_nil ht).mp e
        rw [List.append_nil] at q
        exact k.same R q (.tup ha hs)
    | _ => exact h.elim
  | @obj i a ea => cases sy with
    | @obj j b eb =>
      obtain ⟨xs, ys, e1, e2, hz, q⟩ := h
      obtain ⟨a', vs, r1, h1, s1⟩ := R.lst e1
      obtain ⟨b', ws, r2, h2, s2⟩ := R.lst e2
      rw [ea] at r1; cases r1
      rw [eb] at r2; cases r2
      exact .inr (.inr (.inr ⟨a, b, vs, ws, rfl, rfl, h1, h2, by rw [← s1.length, ← s2.length]; exact hz, fun p hp => newLst R (s1.append s2) k q hp⟩))
    | _ => exact h.elim
  | _ => cases sy <;> exact h.elim
/-- two ints -/
def intD (C : Int → Int → Prop) (g : Int → Int → D) : D → D → Mem → KD → Prop
  | .int i, .int j, M, Q => C i j ∧ Q (g i j) M
  | _, _, _, _ => False
theorem od_int {C : Int → Int → Prop} {g : Int → Int → D} {g' : Int → Int → V} (hg : ∀ i j ρ H, Sh X.K ρ H (g i j) (g' i j)) : OpD X Ts (rI C g') (intD C g) := fun ρ M H x y v u Q Qd R sx sy h k => by
  cases sx with
  | int i => cases sy with
    | int j => exact ⟨i, j, rfl, rfl, h.1, k.same R h.2 (hg i j ρ H)⟩
    | _ => exact h.elim
  | _ => cases sy <;> exact h.elim
theorem op_rI0 {f : Value → Value → Sem Value} {g : Int → Int → V} (h : OpR X f (rI0 g)) : OpR X f (rI (fun _ _ => True) g) := fun pins s σ H x y v u Q I rx ry q => h pins s σ H x y v u Q I rx ry (let ⟨i, j, a, b, _, q⟩ := q; ⟨i, j, a, b, q⟩)
@[simp] def subD := intD (fun _ _ => True) fun i j => .int (i - j)
theorem od_sub : OpD X Ts (rI (fun _ _ => True) fun i j => V.int (i - j)) subD := od_int fun _ _ _ _ => .int _
@[simp] def ltD := intD (fun _ _ => True) fun i j => .bl (decide (i < j))
@[simp] def leD := intD (fun _ _ => True) fun i j => .bl (decide (i ≤ j))
@[simp] def gtD := intD (fun _ _ => True) fun i j => .bl (decide (j < i))
@[simp] def geD := intD (fun _ _ => True) fun i j => .bl (decide (j ≤ i))
@[simp] def fdivD := intD CDivN fun i j => .int (i.fdiv j)
@[simp] def modD := intD (fun _ j => j ≠ 0) fun i j => .int (i.fmod j)
@[simp] def powD := intD CPow fun i j => .int (i ^ j.toNat)
theorem qe_sub (ha : QE X Ts E a ta) (hb : QE X Ts E b tb) : QE X Ts E (.BinOp a .Sub b pos) (dOp subD ta tb) := qe_op (op_rI0 op_sub) od_sub ha hb
theorem qe_add (ha : QE X Ts E a ta) (hb : QE X Ts E b tb) : QE X Ts E (.BinOp a .Add b pos) (dOp addD ta tb) := qe_op op_addH od_add ha hb
theorem qe_fdiv (ha : QE X Ts E a ta) (hb : QE X Ts E b tb) : QE X Ts E (.BinOp a .FloorDiv b pos) (dOp fdivD ta tb) := qe_op op_fdivN (od_int fun _ _ _ _ => .int _) ha hb
theorem qe_mod (ha : QE X Ts E a ta) (hb : QE X Ts E b tb) : QE X Ts E (.BinOp a .Mod b pos) (dOp modD ta tb) := qe_op op_modN (od_int fun _ _ _ _ => .int _) ha hb
theorem qe_pow (ha : QE X Ts E a ta) (hb : QE X Ts E b tb) : QE X Ts E (.BinOp a .Pow b pos) (dOp powD ta tb) := qe_op op_pow (od_int fun _ _ _ _ => .int _) ha hb
theorem qe_lt (ha : QE X Ts E a ta) (hb : QE X Ts E b tb) : QE X Ts E (.Compare a [.Lt] [b] pos) (dOp ltD ta tb) := qe_cmp (op_rI0 op_lt) (od_int fun _ _ _ _ => .bl _) ha hb (nomark _)
theorem qe_le (ha : QE X Ts E a ta) (hb : QE X Ts E b tb) : QE X Ts E (.Compare a [.LtE] [b] pos) (dOp leD ta tb) := qe_cmp (op_rI0 op_le) (od_int fun _ _ _ _ => .bl _) ha hb (nomark _)
theorem qe_gt (ha : QE X Ts E a ta) (hb : QE X Ts E b tb) : QE X Ts E (.Compare a [.Gt] [b] pos) (dOp gtD ta tb) := qe_cmp (op_rI0 op_gt) (od_int fun _ _ _ _ => .bl _) ha hb (nomark _)
theorem qe_ge (ha : QE X Ts E a ta) (hb : QE X Ts E b tb) : QE X Ts E (.Compare a [.GtE] [b] pos) (dOp geD ta tb) := qe_cmp (op_rI0 op_ge) (od_int fun _ _ _ _ => .bl _) ha hb (nomark _)
/-- * -/
def mulD : D → D → Mem → KD → Prop
  | .int i, .int j, M, Q => CMulW i j ∧ Q (.int (i * j)) M
  | .obj i, .int k, M, Q => ∃ xs, M[i]? = some (.lst xs) ∧ -(2 ^ 63) ≤ k ∧ k < 2 ^ 63 ∧ xs.length * k.toNat ≤ sizeLine ∧ Q (.obj M.length) (M ++ [.lst (List.replicate k.toNat xs).flatten])
  | .tup xs, .int k, M, Q => xs ≠ [] ∧ 2 ≤ k ∧ k ≤ 1000 ∧ xs.length ≤ 1000 ∧ Q (.tup (List.replicate k.toNat xs).flatten) M
  | _, _, _, _ => False
end
end Dl
set_option Elab.async false
set_option linter.all false
set_option maxRecDepth 100000
set_option maxHeartbeats 4000000
/-! Expressions by data: *, ==, in, items, slices, tests, displays. -/
namespace Dl
open PySem PySem.Spec PyProof.Rows L2 GxR Gn
section
variable {X : Cx} {Ts : List Addr} {E : XK} {pos : Pos} {a b c : Expr} {ta tb tc : TEd}
theorem Shs.flat {K : PySem.W.Frag} {ρ : Rho} {H : Hp} {ds : List D} {vs : List V} (h : Shs K ρ H ds vs) : ∀ k : Nat, Shs K ρ H (List.replicate k ds).flatten (List.replicate k vs).flatten
  | 0 => .nil
  | k + 1 => by
    simp only [List.replicate_succ, List.flatten_cons]
    exact h.append (Shs.flat h k)
def rMulH (K : PySem.W.Frag) : R2 := fun x y H Q => rI CMulW (fun i j => .int (i * j)) x y H Q ∨ rRep x y H Q ∨ rRepT K x y H Q
theorem op_mulH : OpR X (binaryOp .Mult) (rMulH X.K) := op_mulW.or (op_rep.or op_repT)
theorem od_mul : OpD X Ts (rMulH X.K) mulD := fun ρ M H x y v u Q Qd R sx sy h k => by
  cases sx with
  | int i => cases sy with
    | int j => exact .inl ⟨i, j, rfl, rfl, h.1, k.same R h.2 (.int _)⟩
    | _ => exact h.elim
  | @tup a xs ds ha hs => cases sy with
    | int j =>
      obtain ⟨h1, h2, h3, h4, q⟩ := h
      exact .inr (.inr ⟨a, j, xs, rfl, rfl, ha, fun e => h1 ((shs_nil hs).mp e), h2, h3, by rw [← hs.length]; exact h4, fun p hp => newTup R (hs.flat _) k q hp⟩)
    | _ => exact h.elim
  | @obj i a ea => cases sy with
    | int j =>
      obtain ⟨xs, e1, h1, h2, hz, q⟩ := h
      obtain ⟨a', vs, r1, g1, s1⟩ := R.lst e1
      rw [ea] at r1; cases r1
      exact .inr (.inl ⟨a, j, vs, rfl, rfl, g1, h1, h2, by rw [← s1.length]; exact hz, fun p hp => newLst R (s1.flat _) k q hp⟩)
    | _ => exact h.elim
  | _ => cases sy <;> exact h.elim
theorem qe_mul (ha : QE X Ts E a ta) (hb : QE X Ts E b tb) : QE X Ts E (.BinOp a .Mult b pos) (dOp mulD ta tb) := qe_op op_mulH od_mul ha hb

/-! ### data as such -/
mutual
def pyM (M : Mem) : Nat → D → Option PyData
  | _, .non => some .none
  | _, .bl b => some (.bool b)
  | _, .int i => some (.int i)
  | _, .str x => some (.str x)
  | n, .tup ds => (pyMs M n ds).map .tuple
  | 0, .obj _ => none
  | n + 1, .obj i => match M[i]? with
    | some (.lst ds) => (pyMs M n ds).map .list
    | _ => none
  | _, .adr _ => none
  | _, .ty _ => none
  | _, .scr _ => none
termination_by n d => (n, sizeOf d)
def pyMs (M : Mem) : Nat → List D → Option (List PyData)
  | _, [] => some []
  | n, d :: ds => match pyM M n d, pyMs M n ds with
    | some p, some ps => some (p :: ps)
    | _, _ => none
termination_by n ds => (n, sizeOf ds)
end
mutual
theorem pyM_dp {K : PySem.W.Frag} {Ts : List Addr} {ρ : Rho} {M : Mem} {H : Hp} (R : Rl K Ts ρ M H) : ∀ (n : Nat) (d : D) (p : PyData) (v : V), pyM M n d = some p → Sh K ρ H d v → Dp K H v p
  | n, .non, p, v, e, h => by
    rw [pyM] at e; cases e; cases h; exact .non
  | n, .bl b, p, v, e, h => by
    rw [pyM] at e; cases e; cases h; exact .bl b
  | n, .int i, p, v, e, h => by
    rw [pyM] at e; cases e; cases h; exact .int i
  | n, .str x, p, v, e, h => by
    rw [pyM] at e; cases e; cases h; exact .str x
  | n, .tup ds, p, v, e, h => by
    rw [pyM] at e
    cases e1 : pyMs M n ds with
    | none => rw [e1] at e; cases e
    | some ps =>
      rw [e1] at e; cases e
      cases h with
      | tup h1 h2 => exact .tup h1 (pyMs_dp R n ds ps _ e1 h2)
  | 0, .obj i, p, v, e, h => by rw [pyM] at e; cases e
  | n + 1, .obj i, p, v, e, h => by
    rw [pyM] at e
    cases em : M[i]? with
    | none => rw [em] at e; cases e
    | some c =>
      rw [em] at e
      cases c with
      | lst ds =>
        simp only at e
        cases e1 : pyMs M n ds with
        | none => rw [e1] at e; cases e
        | some ps =>
          rw [e1] at e; cases e
          obtain ⟨a, vs, r1, g1, s1⟩ := R.lst em
          cases h with
          | obj ea =>
            rw [ea] at r1; cases r1
            exact .lst (SqL.of g1) (pyMs_dp R n ds ps _ e1 s1)
      | dK kvs => cases e
      | dT kvs => cases e
      | ins C fs => cases e
  | n, .adr a, p, v, e, h => by rw [pyM] at e; cases e
  | n, .ty a, p, v, e, h => by rw [pyM] at e; cases e
  | n, .scr a, p, v, e, h => by rw [pyM] at e; cases e
termination_by n d => (n, sizeOf d)
theorem pyMs_dp {K : PySem.W.Frag} {Ts : List Addr} {ρ : Rho} {M : Mem} {H : Hp} (R : Rl K Ts ρ M H) : ∀ (n : Nat) (ds : List D) (ps : List PyData) (vs : List V), pyMs M n ds = some ps → Shs K ρ H ds vs → DpAll K H vs ps
  | n, [], ps, vs, e, h => by
    rw [pyMs] at e; cases e; cases h; exact .nil
  | n, d :: ds, ps, vs, e, h => by
    rw [pyMs] at e
    cases e1 : pyM M n d with
    | none => rw [e1] at e; cases e
    | some p =>
      cases e2 : pyMs M n ds with
      | none => rw [e1, e2] at e; cases e
      | some qs =>
        rw [e1, e2] at e; cases e
        cases h with
        | cons h1 h2 => exact .cons (pyM_dp R n d p _ e1 h1) (pyMs_dp R n ds qs _ e2 h2)
termination_by n ds => (n, sizeOf ds)
end
/-- == of data -/
def eqD (neg : Bool) (x y : D) (M : Mem) (Q : KD) : Prop := ∃ n p q, pyM M n x = some p ∧ pyM M n y = some q ∧ SeqAt.shaped p = true ∧ SeqAt.shaped q = true ∧ Q (.bl (if neg then !PyData.eqv p q else PyData.eqv p q)) M
theorem od_eq : OpD X Ts (rEqD X.K) (eqD false) := fun ρ M H x y v u Q Qd R sx sy ⟨n, p, q, e1, e2, h1, h2, h⟩ k => ⟨p, q, pyM_dp R n x p v e1 sx, pyM_dp R n y q u e2 sy, h1, h2, k.same R h (.bl _)⟩
theorem od_ne : OpD X Ts (rNeD X.K) (eqD true) := fun ρ M H x y v u Q Qd R sx sy ⟨n, p, q, e1, e2, h1, h2, h⟩ k => ⟨p, q, pyM_dp R n x p v e1 sx, pyM_dp R n y q u e2 sy, h1, h2, k.same R h (.bl _)⟩
theorem qe_eq {k : Nat} (hr : Room k X.A) (ha : QE X Ts E a ta) (hb : QE X Ts E b tb) : QE X Ts E (.Compare a [.Eq] [b] pos) (dOp (eqD false) ta tb) := qe_cmp (op_eqD hr.units) od_eq ha hb (nomark _)
theorem qe_ne {k : Nat} (hr : Room k X.A) (ha : QE X Ts E a ta) (hb : QE X Ts E b tb) : QE X Ts E (.Compare a [.NotEq] [b] pos) (dOp (eqD true) ta tb) := qe_cmp (op_neD hr.units) od_ne ha hb (nomark _)

/-! ### items -/
theorem Shs.atI {K : PySem.W.Frag} {ρ : Rho} {H : Hp} {ds : List D} {vs : List V} (h : Shs K ρ H ds vs) {i : Int} {d : D} (e : atI ds i = some d) : ∃ v, L2.atI vs i = some v ∧ Sh K ρ H d v := by
  unfold L2.atI at e ⊢
  rw [← h.length]
  cases q : ixN ds.length i with
  | none => rw [q] at e; cases e
  | some j =>
    rw [q] at e
    exact h.getD e
def ixD : D → D → Mem → KD → Prop
  | .obj i, .int k, M, Q => ∃ ds v, M[i]? = some (.lst ds) ∧ atI ds k = some v ∧ Q v M
  | .tup ds, .int k, M, Q => ∃ v, atI ds k = some v ∧ Q v M
  | .str z, .int k, M, Q => ∃ c, z.length ≤ sizeLine ∧ atI z.cps.toList k = some c ∧ Q (.str ⟨#[c]⟩) M
  | _, _, _, _ => False
theorem od_ix : OpD X Ts (rIx X.K) ixD := fun ρ M H x y v u Q Qd R sx sy h k => by
  cases sx with
  | str z => cases sy with
    | int j =>
      obtain ⟨c, h1, h2, q⟩ := h
      exact .inr (.inr ⟨z, j, c, rfl, rfl, h1, h2, k.same R q (.str _)⟩)
    | _ => exact h.elim
  | @tup a xs ds ha hs => cases sy with
    | int j =>
      obtain ⟨d, e, q⟩ := h
      obtain ⟨v, e2, s2⟩ := hs.atI e
      exact .inr (.inl ⟨a, xs, j, v, rfl, rfl, ha, e2, k.same R q s2⟩)
    | _ => exact h.elim
  | @obj i a ea => cases sy with
    | int j =>
      obtain ⟨ds, d, e1, e, q⟩ := h
      obtain ⟨a', vs, r1, g1, s1⟩ := R.lst e1
      rw [ea] at r1; cases r1
      obtain ⟨v, e2, s2⟩ := s1.atI e
      exact .inl ⟨a, vs, j, v, rfl, rfl, SqL.of g1, e2, k.same R q s2⟩
    | _ => exact h.elim
  | _ => cases sy <;> exact h.elim
theorem qe_item (ha : QE X Ts E a ta) (hb : QE X Ts E b tb) (hs : PlainIx b := by intro _ _; rfl) : QE X Ts E (.Subscript a b pos) (dOp ixD ta tb) := qe_ix ix_seq od_ix ha hb hs

/-! ### slices -/
abbrev TOd := Sl → Mem → (Option Int → Mem → Prop) → KE' → Prop
def rdO (K : PySem.W.Frag) (Ts : List Addr) (E : XK) (t : TOd) : TO := fun σ H Q => ∃ ρ S M Qd Ed, Rl K Ts ρ M H ∧ Sls K ρ H S σ ∧ t S M Qd Ed ∧ (∀ o M', Qd o M' → ∀ ρ' H', Grw ρ H ρ' H' → Rl K Ts ρ' M' H' → Q o H') ∧ XOk K Ts ρ H Ed E
abbrev QO (X : Cx) (Ts : List Addr) (E : XK) (e : Option Expr) (t : TOd) : Prop := PO X e (rdO X.K Ts E t)
theorem poLe {X : Cx} {e : Option Expr} {t t' : TO} (h : PO X e t) (i : ∀ σ H Q, t' σ H Q → t σ H Q) : PO X e t' := ⟨fun pins s σ H Q I q => h.run pins s σ H Q I (i σ H Q q)⟩
@[simp] def dNo : TOd := fun _ M Q _ => Q none M
@[simp] def dPart (t : TEd) : TOd := fun S M Q E => t S M (fun d M' => ∃ i, d = .int i ∧ Q (some i) M') E
theorem qo_none : QO X Ts E none dNo := poLe po_none fun σ H Q ⟨ρ, S, M, Qd, Ed, R, sl, q, k, x⟩ => k _ _ q ρ H (Grw.refl _ _) R
theorem qo_some (h : QE X Ts E a ta) : QO X Ts E (some a) (dPart ta) := poLe (po_some h) fun σ H Q ⟨ρ, S, M, Qd, Ed, R, sl, q, k, x⟩ =>
  ⟨ρ, S, M, _, Ed, R, sl, q, fun d M1 ⟨i, e, q1⟩ ρ1 H1 v g1 R1 s1 => by
    subst e
    cases s1
    exact ⟨i, rfl, k _ _ q1 ρ1 H1 g1 R1⟩, x⟩
def cutL {α : Type} (xs : List α) (lo hi : Option Int) : List α := (xs.drop (HT.sIx xs.length 0 lo)).take (HT.sIx xs.length xs.length hi - HT.sIx xs.length 0 lo)
theorem Shs.cut {K : PySem.W.Frag} {ρ : Rho} {H : Hp} {ds : List D} {vs : List V} (h : Shs K ρ H ds vs) (lo hi : Option Int) : Shs K ρ H (cutL ds lo hi) (cutV vs lo hi) := by
  unfold cutL cutV
  rw [h.length]
  exact (h.drop _).take _
def slD : D → Option Int → Option Int → Mem → KD → Prop
  | .tup ds, lo, hi, M, Q => Q (.tup (cutL ds lo hi)) M
  | .obj i, lo, hi, M, Q => ∃ ds, M[i]? = some (.lst ds) ∧ Q (.obj M.length) (M ++ [.lst (cutL ds lo hi)])
  | .str z, lo, hi, M, Q => z.length ≤ sizeLine ∧ Q (.str (cutS z lo hi)) M
  | .scr ns, lo, hi, M, Q => Q (.obj M.length) (M ++ [.lst (cutL (ns.map D.int) lo hi)])
  | _, _, _, _, _ => False
theorem shs_ints {K : PySem.W.Frag} {ρ : Rho} {H : Hp} : ∀ ns : List Int, Shs K ρ H (ns.map D.int) (ns.map V.int)
  | [] => .nil
  | n :: ns => .cons (.int n) (shs_ints ns)
def rSlH (K : PySem.W.Frag) : V → Option Int → Option Int → Hp → VK → Prop := fun x lo hi H Q => rSlA K x lo hi H Q ∨ rSlL K x lo hi H Q ∨ rSlS x lo hi H Q
theorem sl_H : SlR X (rSlH X.K) := sl_tupA.or (sl_list.or sl_str)
theorem cut_whole {α : Type} {xs : List α} {lo hi : Option Int} (h : HT.sIx xs.length 0 lo = 0 ∧ HT.sIx xs.length xs.length hi = xs.length) : cutL xs lo hi = xs := by
  unfold cutL
  rw [h.1, h.2]
  simp
theorem sl_read {x : D} {v : V} {lo hi : Option Int} {ρ : Rho} {M : Mem} {H : Hp} {Q : VK} {Qd : KD} (R : Rl X.K Ts ρ M H) (sx : Sh X.K ρ H x v) (h : slD x lo hi M Qd) (k : KOk X.K Ts ρ H Qd Q) : rSlH X.K v lo hi H Q := by
  cases sx with
  | str z => exact .inr (.inr ⟨z, rfl, h.1, k.same R h.2 (.str _)⟩)
  | @tup a xs ds ha hs =>
    have q : Qd (.tup (cutL ds lo hi)) M := h
    refine .inl ⟨a, xs, rfl, ha, fun e => ?_, fun _ p hp => newTup R (hs.cut lo hi) k q hp⟩
    rw [← hs.length] at e
    rw [cut_whole e] at q
    exact k.same R q (.tup ha hs)
  | @obj i a ea =>
    obtain ⟨ds, e1, q⟩ := h
    obtain ⟨a', vs, r1, g1, s1⟩ := R.lst e1
    rw [ea] at r1; cases r1
    exact .inr (.inl ⟨a, vs, rfl, SqL.of g1, fun p hp => newLst R (s1.cut lo hi) k q hp⟩)
  | @scr a ns e => exact .inr (.inl ⟨a, _, rfl, e.sq, fun p hp => newLst R ((shs_ints ns).cut lo hi) k h hp⟩)
  | _ => exact h.elim
@[simp] def dSl (ta : TEd) (tl th : TOd) : TEd := fun S M Q E => ta S M (fun x M1 => tl S M1 (fun lo M2 => th S M2 (fun hi M3 => slD x lo hi M3 Q) E) E) E
theorem qe_slice {lo hi : Option Expr} {tl th : TOd} {p2 : Pos} (ha : QE X Ts E a ta) (hl : QO X Ts E lo tl) (hu : QO X Ts E hi th) : QE X Ts E (.Subscript a (.Slice lo hi none p2) pos) (dSl ta tl th) := peLe (pe_slice sl_H ha hl hu) fun σ H Q ⟨ρ, S, M, Qd, Ed, R, sl, q, k, x⟩ =>
  ⟨ρ, S, M, _, Ed, R, sl, q, fun d M1 q1 ρ1 H1 v g1 R1 s1 => ⟨ρ1, S, M1, _, Ed, R1, sl.grw g1, q1, fun lo M2 q2 ρ2 H2 g2 R2 => ⟨ρ2, S, M2, _, Ed, R2, (sl.grw g1).grw g2, q2, fun hi M3 q3 ρ3 H3 g3 R3 =>
    sl_read R3 (Sh.grw g3 _ _ (Sh.grw g2 _ _ s1)) q3 (k.grw ((g1.tr g2).tr g3)), (x.grw g1).grw g2⟩, x.grw g1⟩, x⟩

/-! ### arguments, displays -/
@[simp] def dNil : TAd := fun _ M Q _ => Q [] M
@[simp] def dCons (t : TEd) (r : TAd) : TAd := fun S M Q E => t S M (fun d M1 => r S M1 (fun ds M2 => Q (d :: ds) M2) E) E
theorem qa_nil : QA X Ts E [] dNil := paLe pa_nil fun σ H Q ⟨ρ, S, M, Qd, Ed, R, sl, q, k, x⟩ => k _ _ q ρ H [] (Grw.refl _ _) R .nil
theorem qa_cons {es : List Expr} {tr : TAd} (ha : QE X Ts E a ta) (hr : QA X Ts E es tr) (hs : starEach (a :: es) X.env = (false, eval a X.env) :: starEach es X.env := by rfl) : QA X Ts E (a :: es) (dCons ta tr) := paLe (pa_cons ha hr hs) fun σ H Q ⟨ρ, S, M, Qd, Ed, R, sl, q, k, x⟩ =>
  ⟨ρ, S, M, _, Ed, R, sl, q, fun d M1 q1 ρ1 H1 v g1 R1 s1 => ⟨ρ1, S, M1, _, Ed, R1, sl.grw g1, q1, fun ds M2 q2 ρ2 H2 vs g2 R2 s2 => k _ _ q2 ρ2 H2 _ (g1.tr g2) R2 (.cons (Sh.grw g2 _ _ s1) s2), x.grw g1⟩, x⟩
@[simp] def dTup (t : TAd) : TEd := fun S M Q E => t S M (fun ds M1 => ds.length ≤ sizeLine ∧ Q (.tup ds) M1) E
@[simp] def dLst (t : TAd) : TEd := fun S M Q E => t S M (fun ds M1 => ds.length ≤ sizeLine ∧ Q (.obj M1.length) (M1 ++ [.lst ds])) E
theorem qe_tup {es : List Expr} {t : TAd} {x1} (h : QA X Ts E es t) : QE X Ts E (.Tuple es x1 pos) (dTup t) := peLe (pe_tup h) fun σ H Q ⟨ρ, S, M, Qd, Ed, R, sl, q, k, x⟩ =>
  ⟨ρ, S, M, _, Ed, R, sl, q, fun ds M1 ⟨hz, q1⟩ ρ1 H1 vs g1 R1 s1 => ⟨by rw [← s1.length]; exact hz, fun p hp => newTup R1 s1 (k.grw g1) q1 hp⟩, x⟩
theorem qe_lst {es : List Expr} {t : TAd} (h : QA X Ts E es t) : QE X Ts E (.List es pos) (dLst t) := peLe (pe_lst h) fun σ H Q ⟨ρ, S, M, Qd, Ed, R, sl, q, k, x⟩ =>
  ⟨ρ, S, M, _, Ed, R, sl, q, fun ds M1 ⟨hz, q1⟩ ρ1 H1 vs g1 R1 s1 => ⟨by rw [← s1.length]; exact hz, fun p hp => newLst R1 s1 (k.grw g1) q1 hp⟩, x⟩

/-! ### tests -/
/-- what a thing is worth as a test -/
def truD : D → Mem → Option Bool
  | .non, _ => some false
  | .bl b, _ => some b
  | .int i, _ => some (decide (i ≠ 0))
  | .tup ds, _ => some (!ds.isEmpty)
  | .obj i, M => match M[i]? with
    | some (.lst ds) => some (!ds.isEmpty)
    | _ => none
  | _, _ => none
/-- a test that gives a bool -/
@[simp] def dTest (t : TEd) : TTd := fun S M Q E => t S M (fun d M' => ∃ b, d = .bl b ∧ Q b M') E
theorem testRead {t : TEd} {σ : L2.St} {H : Hp} {Q : Bool → Hp → Prop} (h : rdT X.K Ts E (dTest t) σ H Q) : rdE X.K Ts E t σ H (fun x H' => ∃ k, x = .bl k ∧ Q k H') := by
  obtain ⟨ρ, S, M, Qd, Ed, R, sl, q, k, x⟩ := h
  exact ⟨ρ, S, M, _, Ed, R, sl, q, fun d M1 ⟨b, e, q1⟩ ρ1 H1 v g1 R1 s1 => by
    subst e
    cases s1
    exact ⟨b, rfl, k _ _ q1 ρ1 H1 g1 R1⟩, x⟩
theorem qt_val {t : TEd} (h : QE X Ts E a t) (he : ∀ whole, isTrue a X.env whole = (do let v ← whole; standAt a.pos; holding [v] (truthy v)) := by intro _; rfl) : QT X Ts E a (dTest t) := ptLe (pt_val h he) fun σ H Q h => testRead h
theorem qt_cmp {op : CmpOp} {r : R2} {rd : D → D → Mem → KD → Prop} (ho : OpR X (compareOp op) r) (hd : OpD X Ts r rd) (ha : QE X Ts E a ta) (hb : QE X Ts E b tb) (hm : behindInMarks op b = false) : QT X Ts E (.Compare a [op] [b] pos) (dTest (dOp rd ta tb)) := ptLe (pt_cmpR ho ha hb hm) fun σ H Q h => opRead hd (testRead h)
@[simp] def dNotT (t : TTd) : TTd := fun S M Q E => t S M (fun b M' => Q (!b) M') E
theorem qt_not {t : TTd} (ha : QT X Ts E a t) : QT X Ts E (.UnaryOp .Not a pos) (dNotT t) := ptLe (pt_not ha) fun σ H Q ⟨ρ, S, M, Qd, Ed, R, sl, q, k, x⟩ => ⟨ρ, S, M, _, Ed, R, sl, q, fun b M1 q1 ρ1 H1 g1 R1 => k _ _ q1 ρ1 H1 g1 R1, x⟩
end
end Dl
set_option Elab.async false
set_option linter.all false
set_option maxRecDepth 100000
set_option maxHeartbeats 4000000
/-! Tests, fields, statements by data. -/
namespace Dl
open PySem PySem.Spec PyProof.Rows L2 GxR Gn
section
variable {X : Cx} {Ts : List Addr} {E : XK} {pos : Pos} {a b c : Expr} {ta tb tc : TEd}
/-! ### and, or, not, if .. else -/
@[simp] def dAnd (ta tb : TEd) : TEd := fun S M Q E => ta S M (fun d M1 => ∃ k, d = .bl k ∧ if k = true then tb S M1 Q E else Q (.bl false) M1) E
@[simp] def dOr (ta tb : TEd) : TEd := fun S M Q E => ta S M (fun d M1 => ∃ k, d = .bl k ∧ if k = true then Q (.bl true) M1 else tb S M1 Q E) E
theorem qe_one {op} (h : QE X Ts E a ta) : QE X Ts E (.BoolOp op [a] pos) ta := pe_one h
theorem qe_and {rest : List Expr} (ha : QE X Ts E a ta) (hb : QE X Ts E (.BoolOp .And (b :: rest) pos) tb) : QE X Ts E (.BoolOp .And (a :: b :: rest) pos) (dAnd ta tb) := peLe (pe_and ha hb) fun σ H Q ⟨ρ, S, M, Qd, Ed, R, sl, q, k, x⟩ =>
  ⟨ρ, S, M, _, Ed, R, sl, q, fun d M1 ⟨t, e, q1⟩ ρ1 H1 v g1 R1 s1 => by
    subst e
    cases s1
    refine ⟨t, rfl, ?_⟩
    cases t with
    | true => exact ⟨ρ1, S, M1, Qd, Ed, R1, sl.grw g1, q1, k.grw g1, x.grw g1⟩
    | false => exact k _ _ q1 ρ1 H1 _ g1 R1 (.bl false), x⟩
theorem qe_or {rest : List Expr} (ha : QE X Ts E a ta) (hb : QE X Ts E (.BoolOp .Or (b :: rest) pos) tb) : QE X Ts E (.BoolOp .Or (a :: b :: rest) pos) (dOr ta tb) := peLe (pe_or ha hb) fun σ H Q ⟨ρ, S, M, Qd, Ed, R, sl, q, k, x⟩ =>
  ⟨ρ, S, M, _, Ed, R, sl, q, fun d M1 ⟨t, e, q1⟩ ρ1 H1 v g1 R1 s1 => by
    subst e
    cases s1
    refine ⟨t, rfl, ?_⟩
    cases t with
    | false => exact ⟨ρ1, S, M1, Qd, Ed, R1, sl.grw g1, q1, k.grw g1, x.grw g1⟩
    | true => exact k _ _ q1 ρ1 H1 _ g1 R1 (.bl true), x⟩
@[simp] def dNot (ta : TEd) : TEd := fun S M Q E => ta S M (fun d M1 => ∃ k, d = .bl k ∧ Q (.bl (!k)) M1) E
theorem qe_not (ha : QE X Ts E a ta) : QE X Ts E (.UnaryOp .Not a pos) (dNot ta) := peLe (pe_not ha) fun σ H Q ⟨ρ, S, M, Qd, Ed, R, sl, q, k, x⟩ =>
  ⟨ρ, S, M, _, Ed, R, sl, q, fun d M1 ⟨t, e, q1⟩ ρ1 H1 v g1 R1 s1 => by
    subst e
    cases s1
    exact ⟨t, rfl, k _ _ q1 ρ1 H1 _ g1 R1 (.bl _)⟩, x⟩
@[simp] def dIf (tt : TTd) (ta tb : TEd) : TEd := fun S M Q E => tt S M (fun k M1 => if k = true then ta S M1 Q E else tb S M1 Q E) E
theorem qe_if {tt : TTd} (hc : QT X Ts E c tt) (ha : QE X Ts E a ta) (hb : QE X Ts E b tb) : QE X Ts E (.IfExp c a b pos) (dIf tt ta tb) := peLe (pe_ifExp hc ha hb) fun σ H Q ⟨ρ, S, M, Qd, Ed, R, sl, q, k, x⟩ =>
  ⟨ρ, S, M, _, Ed, R, sl, q, fun t M1 q1 ρ1 H1 g1 R1 => by
    cases t with
    | true => exact ⟨ρ1, S, M1, Qd, Ed, R1, sl.grw g1, q1, k.grw g1, x.grw g1⟩
    | false => exact ⟨ρ1, S, M1, Qd, Ed, R1, sl.grw g1, q1, k.grw g1, x.grw g1⟩, x⟩
/-- tests of and, or -/
structure QW (X : Cx) (Ts : List Addr) (E : XK) (e : Expr) (t : TTd) : Prop where
  pw : PW X e (rdT X.K Ts E t)
theorem QW.t {e : Expr} {t : TTd} (h : QW X Ts E e t) : QT X Ts E e t := h.pw.pt
theorem pwLe {e : Expr} {t t' : TT} (h : PW X e t) (i : ∀ σ H Q, t' σ H Q → t σ H Q) : PW X e t' := ⟨fun w pins s σ H Q I q => h.run w pins s σ H Q I (i σ H Q q)⟩
@[simp] def dAndT (ta tb : TTd) : TTd := fun S M Q E => ta S M (fun k M1 => if k = true then tb S M1 Q E else Q false M1) E
@[simp] def dOrT (ta tb : TTd) : TTd := fun S M Q E => ta S M (fun k M1 => if k = true then Q true M1 else tb S M1 Q E) E
theorem qw_and1 {t : TTd} (h : QT X Ts E a t) : QW X Ts E (.BoolOp .And [a] pos) t := ⟨pw_and1 h⟩
theorem qw_or1 {t : TTd} (h : QT X Ts E a t) : QW X Ts E (.BoolOp .Or [a] pos) t := ⟨pw_or1 h⟩
theorem qw_and {rest : List Expr} {t u : TTd} (ha : QT X Ts E a t) (hb : QW X Ts E (.BoolOp .And (b :: rest) pos) u) : QW X Ts E (.BoolOp .And (a :: b :: rest) pos) (dAndT t u) := ⟨pwLe (pw_and ha hb.pw) fun σ H Q ⟨ρ, S, M, Qd, Ed, R, sl, q, k, x⟩ =>
  ⟨ρ, S, M, _, Ed, R, sl, q, fun t M1 q1 ρ1 H1 g1 R1 => by
    cases t with
    | true => exact ⟨ρ1, S, M1, Qd, Ed, R1, sl.grw g1, q1, fun b M2 q2 ρ2 H2 g2 R2 => k b M2 q2 ρ2 H2 (g1.tr g2) R2, x.grw g1⟩
    | false => exact k _ _ q1 ρ1 H1 g1 R1, x⟩⟩
theorem qw_or {rest : List Expr} {t u : TTd} (ha : QT X Ts E a t) (hb : QW X Ts E (.BoolOp .Or (b :: rest) pos) u) : QW X Ts E (.BoolOp .Or (a :: b :: rest) pos) (dOrT t u) := ⟨pwLe (pw_or ha hb.pw) fun σ H Q ⟨ρ, S, M, Qd, Ed, R, sl, q, k, x⟩ =>
  ⟨ρ, S, M, _, Ed, R, sl, q, fun t M1 q1 ρ1 H1 g1 R1 => by
    cases t with
    | false => exact ⟨ρ1, S, M1, Qd, Ed, R1, sl.grw g1, q1, fun b M2 q2 ρ2 H2 g2 R2 => k b M2 q2 ρ2 H2 (g1.tr g2) R2, x.grw g1⟩
    | true => exact k _ _ q1 ρ1 H1 g1 R1, x⟩⟩
/-- truth of any thing -/
theorem truD_ok {K : PySem.W.Frag} {ρ : Rho} {M : Mem} {H : Hp} {d : D} {v : V} {k : Bool} (R : Rl K Ts ρ M H) (s : Sh K ρ H d v) (e : truD d M = some k) : TruV K v H k := by
  cases s with
  | non => cases e; rfl
  | bl b => cases e; rfl
  | int i =>
    cases e
    show decide (i ≠ 0) = (i != 0)
    by_cases h : i = 0 <;> simp [h]
  | str x => cases e
  | @tup a xs ds ha hs =>
    cases e
    exact .inr (.inl ⟨xs, ha, by cases hs <;> rfl⟩)
  | @obj i a ea =>
    have e : (match M[i]? with | some (.lst ds) => some (!ds.isEmpty) | _ => none) = some k := e
    cases em : M[i]? with
    | none => rw [em] at e; cases e
    | some cc =>
      rw [em] at e
      cases cc with
      | lst ds =>
        cases e
        obtain ⟨a', vs, r1, g1, s1⟩ := R.lst em
        rw [ea] at r1; cases r1
        exact .inl ⟨vs, SqL.of g1, by cases s1 <;> rfl⟩
      | dK kvs => cases e
      | dT kvs => cases e
      | ins C fs => cases e
  | adr a => cases e
  | ty n => cases e
  | scr e2 => cases e
@[simp] def dTru (t : TEd) : TTd := fun S M Q E => t S M (fun d M' => ∃ b, truD d M' = some b ∧ Q b M') E
theorem qt_tru {t : TEd} (h : QE X Ts E a t) (he : ∀ whole, isTrue a X.env whole = (do let v ← whole; standAt a.pos; holding [v] (truthy v)) := by intro _; rfl) : QT X Ts E a (dTru t) := ptLe (pt_truth h he) fun σ H Q ⟨ρ, S, M, Qd, Ed, R, sl, q, k, x⟩ =>
  ⟨ρ, S, M, _, Ed, R, sl, q, fun d M1 ⟨b, e, q1⟩ ρ1 H1 v g1 R1 s1 => ⟨b, truD_ok R1 s1 e, k _ _ q1 ρ1 H1 g1 R1⟩, x⟩
/-! ### chains -/
@[simp] def dChain (rd rd' : D → D → Mem → KD → Prop) (ta tb tc : TEd) : TEd := fun S M Q E => ta S M (fun x M1 => tb S M1 (fun y M2 => rd x y M2 fun z M3 => ∃ k, z = .bl k ∧ if k = true then tc S M3 (fun w M4 => rd' y w M4 Q) E else Q (.bl false) M3) E) E
theorem chainRead {r r' : R2} {rd rd' : D → D → Mem → KD → Prop} (ho : OpD X Ts r rd) (ho' : OpD X Ts r' rd') {σ : L2.St} {H : Hp} {Q : VK} (h : rdE X.K Ts E (dChain rd rd' ta tb tc) σ H Q) : tChain r r' (rdE X.K Ts E ta) (rdE X.K Ts E tb) (rdE X.K Ts E tc) σ H Q := by
  obtain ⟨ρ, S, M, Qd, Ed, R, sl, h, k, x⟩ := h
  refine ⟨ρ, S, M, _, Ed, R, sl, h, fun d M1 h1 ρ1 H1 v g1 R1 s1 => ?_, x⟩
  refine ⟨ρ1, S, M1, _, Ed, R1, sl.grw g1, h1, fun e M2 h2 ρ2 H2 u g2 R2 s2 => ?_, x.grw g1⟩
  refine ho ρ2 M2 H2 d e v u _ _ R2 (Sh.grw g2 _ _ s1) s2 h2 fun z M3 ⟨t, ez, q3⟩ ρ3 H3 zv g3 R3 s3 => ?_
  subst ez
  cases s3
  refine ⟨t, rfl, ?_⟩
  cases t with
  | false => exact k _ _ q3 ρ3 H3 _ ((g1.tr g2).tr g3) R3 (.bl false)
  | true => exact ⟨ρ3, S, M3, _, Ed, R3, ((sl.grw g1).grw g2).grw g3, q3, fun w M4 q4 ρ4 H4 wv g4 R4 s4 => ho' ρ4 M4 H4 e w u wv Q Qd R4 (Sh.grw g4 _ _ (Sh.grw g3 _ _ s2)) s4 q4 (k.grw (((g1.tr g2).tr g3).tr g4)), ((x.grw g1).grw g2).grw g3⟩
theorem qe_chain {op op' : CmpOp} {r r' : R2} {rd rd' : D → D → Mem → KD → Prop} (ho : OpR X (compareOp op) r) (ho' : OpR X (compareOp op') r') (hd : OpD X Ts r rd) (hd' : OpD X Ts r' rd') (ha : QE X Ts E a ta) (hb : QE X Ts E b tb) (hc : QE X Ts E c tc)
    (hm : lastMarks [op, op'] [b, c] = false := by with_unfolding_all rfl) : QE X Ts E (.Compare a [op, op'] [b, c] pos) (dChain rd rd' ta tb tc) := peLe (pe_chain ho ho' ha hb hc hm) fun _ _ _ => chainRead hd hd'
theorem qt_chain {op op' : CmpOp} {r r' : R2} {rd rd' : D → D → Mem → KD → Prop} (ho : OpR X (compareOp op) r) (ho' : OpR X (compareOp op') r') (hd : OpD X Ts r rd) (hd' : OpD X Ts r' rd') (ha : QE X Ts E a ta) (hb : QE X Ts E b tb) (hc : QE X Ts E c tc)
    (hm : lastMarks [op, op'] [b, c] = false := by with_unfolding_all rfl) : QT X Ts E (.Compare a [op, op'] [b, c] pos) (dTest (dChain rd rd' ta tb tc)) := ptLe (pt_chain ho ho' ha hb hc hm) fun σ H Q h => chainRead hd hd' (testRead h)
/-! ### fields -/
theorem Shp.lookup {K : PySem.W.Frag} {ρ : Rho} {H : Hp} {fs : List (Str × D)} {vs : List (Str × V)} (h : Shp K ρ H fs vs) {f : Str} {d : D} (e : fs.lookup f = some d) : ∃ v, vs.lookup f = some v ∧ Sh K ρ H d v := by
  induction h with
  | nil => cases e
  | @cons k d' ds v vs h1 _ ih =>
    rw [List.lookup_cons] at e ⊢
    split at e
    · cases e
      exact ⟨v, rfl, h1⟩
    · exact ih e
theorem Shp.lookupN {K : PySem.W.Frag} {ρ : Rho} {H : Hp} {fs : List (Str × D)} {vs : List (Str × V)} (h : Shp K ρ H fs vs) {f : Str} (e : fs.lookup f = none) : vs.lookup f = none := by
  induction h with
  | nil => rfl
  | @cons k d' ds v vs h1 _ ih =>
    rw [List.lookup_cons] at e ⊢
    split at e
    · cases e
    · exact ih e
def putD (f : Str) (d : D) : List (Str × D) → List (Str × D)
  | [] => [(f, d)]
  | (g, e) :: fs => if g = f then (g, d) :: fs else (g, e) :: putD f d fs
end
end Dl
set_option Elab.async false
set_option linter.all false
set_option maxRecDepth 100000
set_option maxHeartbeats 4000000
/-! Fields, statements, loops by data. -/
namespace Dl
open PySem PySem.Spec PyProof.Rows L2 GxR Gn
theorem Shp.put {K : PySem.W.Frag} {ρ : Rho} {H : Hp} {fs : List (Str × D)} {vs : List (Str × V)} (h : Shp K ρ H fs vs) {f : Str} {d : D} {v : V} (s : Sh K ρ H d v) : Shp K ρ H (putD f d fs) (putF f v vs) := by
  induction h with
  | nil => exact .cons s .nil
  | @cons k d' ds v' vs h1 h2 ih =>
    unfold putD putF
    split
    · exact .cons s h2
    · exact .cons h1 ih
theorem Shp.length {K : PySem.W.Frag} {ρ : Rho} {H : Hp} {κ : Type} {fs : List (κ × D)} {vs : List (κ × V)} (h : Shp K ρ H fs vs) : fs.length = vs.length := by
  induction h with
  | nil => rfl
  | cons _ _ ih => simp [ih]
section
variable {X : Cx} {Ts : List Addr} {E : XK} {pos : Pos} {a b c : Expr} {ta tb tc : TEd}
/-- o.f, an object's own -/
def dFld (K : PySem.W.Frag) (f : Str) (t : TEd) : TEd := fun S M Q E => t S M (fun d M1 => ∃ i C fs v, d = .obj i ∧ M1[i]? = some (.ins C fs) ∧ Cls K C ∧ NoAttr K C f ∧ fs.lookup f = some v ∧ Q v M1) E
theorem qe_fld {f : Str} (ha : QE X Ts E a ta) (hb : attributeBase a f X.env (eval a X.env) = eval a X.env := by rfl) : QE X Ts E (.Attribute a f pos) (dFld X.K f ta) := peLe (pe_fld ha hb) fun σ H Q ⟨ρ, S, M, Qd, Ed, R, sl, q, k, x⟩ =>
  ⟨ρ, S, M, _, Ed, R, sl, q, fun d M1 ⟨i, C, fs, v, e, em, h1, h2, h3, q1⟩ ρ1 H1 w g1 R1 s1 => by
    subst e
    obtain ⟨a', dx, vs, r1, g2, s2⟩ := R1.inst em
    cases s1 with
    | obj ea =>
      rw [ea] at r1; cases r1
      obtain ⟨u, e1, e2⟩ := s2.lookup h3
      exact ⟨_, C, dx, vs, u, rfl, g2, h1, h2, e1, k _ _ q1 ρ1 H1 u g1 R1 e2⟩, x⟩
/-! ### statements -/
@[simp] def dNext : TSd := fun D _ S M => D.nx S M
@[simp] def dSeq (t u : TSd) : TSd := fun D E S M => t { D with nx := u D E } E S M
theorem qss_nil : QSs X Ts E [] dNext := pssLe pss_nil fun D σ H ⟨ρ, S, M, Dd, Ed, R, sl, q, k, kr, kb, kc, x⟩ => k _ _ q ρ H σ (Grw.refl _ _) R sl
variable {st : Stmt} {rest : List Stmt} {t u : TSd}
theorem qss_cons (h1 : QS X Ts E st t) (h2 : QSs X Ts E rest u) : QSs X Ts E (st :: rest) (dSeq t u) := pssLe (pss_cons h1 h2) fun D σ H ⟨ρ, S, M, Dd, Ed, R, sl, q, k, kr, kb, kc, x⟩ =>
  ⟨ρ, S, M, { Dd with nx := u Dd Ed }, Ed, R, sl, q, fun S1 M1 q1 ρ1 H1 σ1 g1 R1 sl1 => ⟨ρ1, S1, M1, Dd, Ed, R1, sl1, q1, k.grw g1, kr.grw g1, kb.grw g1, kc.grw g1, x.grw g1⟩, kr, kb, kc, x⟩
theorem qss_one (h1 : QS X Ts E st t) : QSs X Ts E [st] t := pss_one h1
theorem qs_pass : QS X Ts E (.Pass pos) dNext := psLe ps_pass fun D σ H ⟨ρ, S, M, Dd, Ed, R, sl, q, k, kr, kb, kc, x⟩ => k _ _ q ρ H σ (Grw.refl _ _) R sl
@[simp] def dBreak : TSd := fun D _ S M => D.bk S M
@[simp] def dCont : TSd := fun D _ S M => D.ct S M
theorem qs_break : QS X Ts E (.Break pos) dBreak := psLe ps_break fun D σ H ⟨ρ, S, M, Dd, Ed, R, sl, q, k, kr, kb, kc, x⟩ => kb _ _ q ρ H σ (Grw.refl _ _) R sl
theorem qs_cont : QS X Ts E (.Continue pos) dCont := psLe ps_continue fun D σ H ⟨ρ, S, M, Dd, Ed, R, sl, q, k, kr, kb, kc, x⟩ => kc _ _ q ρ H σ (Grw.refl _ _) R sl
@[simp] def dRet (t : TEd) : TSd := fun D E S M => t S M D.rt E
theorem qs_ret (h : QE X Ts E a ta) : QS X Ts E (.Return (some a) pos) (dRet ta) := psLe (ps_ret h) fun D σ H ⟨ρ, S, M, Dd, Ed, R, sl, q, k, kr, kb, kc, x⟩ => ⟨ρ, S, M, _, Ed, R, sl, q, kr, x⟩
@[simp] def dRetN : TSd := fun D _ _ M => D.rt .non M
theorem qs_retN : QS X Ts E (.Return none pos) dRetN := psLe ps_retN fun D σ H ⟨ρ, S, M, Dd, Ed, R, sl, q, k, kr, kb, kc, x⟩ => kr _ _ q ρ H .non (Grw.refl _ _) R .non
@[simp] def dDrop (t : TEd) : TSd := fun D E S M => t S M (fun _ M1 => D.nx S M1) E
theorem qs_expr (h : QE X Ts E a ta) (hs : swapsWith a none pos.line X.env = pure false := by rfl) : QS X Ts E (.Expr a pos) (dDrop ta) := psLe (ps_expr h hs) fun D σ H ⟨ρ, S, M, Dd, Ed, R, sl, q, k, kr, kb, kc, x⟩ =>
  ⟨ρ, S, M, _, Ed, R, sl, q, fun d M1 q1 ρ1 H1 v g1 R1 s1 => k _ _ q1 ρ1 H1 σ g1 R1 (sl.grw g1), x⟩
def dNever : TSd := fun _ _ _ _ => False
theorem qs_never : QS X Ts E st dNever := psLe ps_never fun D σ H ⟨ρ, S, M, Dd, Ed, R, sl, q, k, kr, kb, kc, x⟩ => q
@[simp] def dIfS (c : TTd) (t u : TSd) : TSd := fun D E S M => c S M (fun b M1 => if b = true then t D E S M1 else u D E S M1) E
theorem qs_if {A B : List Stmt} {tt : TTd} (hc : QT X Ts E c tt) (ha : QSs X Ts E A t) (hb : QSs X Ts E B u) : QS X Ts E (.If c A B pos) (dIfS tt t u) := psLe (ps_if hc ha hb) fun D σ H ⟨ρ, S, M, Dd, Ed, R, sl, q, k, kr, kb, kc, x⟩ =>
  ⟨ρ, S, M, _, Ed, R, sl, q, fun b M1 q1 ρ1 H1 g1 R1 => by
    cases b with
    | true => exact ⟨ρ1, S, M1, Dd, Ed, R1, sl.grw g1, q1, k.grw g1, kr.grw g1, kb.grw g1, kc.grw g1, x.grw g1⟩
    | false => exact ⟨ρ1, S, M1, Dd, Ed, R1, sl.grw g1, q1, k.grw g1, kr.grw g1, kb.grw g1, kc.grw g1, x.grw g1⟩, x⟩
/-! ### targets -/
abbrev TGd := D → Sl → Mem → (Sl → Mem → Prop) → Prop
abbrev TGsd := List D → Sl → Mem → (Sl → Mem → Prop) → Prop
def rdG (K : PySem.W.Frag) (Ts : List Addr) (t : TGd) : TG := fun v σ H Q => ∃ ρ S M Qd d, Rl K Ts ρ M H ∧ Sls K ρ H S σ ∧ Sh K ρ H d v ∧ t d S M Qd ∧ SOk K Ts ρ H Qd Q
def rdGs (K : PySem.W.Frag) (Ts : List Addr) (t : TGsd) : TGs := fun vs σ H Q => ∃ ρ S M Qd ds, Rl K Ts ρ M H ∧ Sls K ρ H S σ ∧ Shs K ρ H ds vs ∧ t ds S M Qd ∧ SOk K Ts ρ H Qd Q
abbrev QG (X : Cx) (Ts : List Addr) (e : Expr) (t : TGd) : Prop := PG X e (rdG X.K Ts t)
abbrev QGs (X : Cx) (Ts : List Addr) (es : List Expr) (t : TGsd) : Prop := PGs X es (rdGs X.K Ts t)
theorem pgLe {e : Expr} {t t' : TG} (h : PG X e t) (i : ∀ v σ H Q, t' v σ H Q → t v σ H Q) : PG X e t' := ⟨fun pins s σ H v u Q I r q => h.run pins s σ H v u Q I r (i v σ H Q q)⟩
theorem pgsLe {e : List Expr} {t t' : TGs} (h : PGs X e t) (i : ∀ v σ H Q, t' v σ H Q → t v σ H Q) : PGs X e t' := ⟨fun pins s σ H v u Q I r q => h.run pins s σ H v u Q I r (i v σ H Q q)⟩
@[simp] def dGN (i : Nat) : TGd := fun d S M Q => Q (S.set i (some d)) M
theorem qg_name {i : Nat} {x : Str} (hN : X.N.Nodup) (hi : X.N[i]? = some x) (hx : Loc X.env.scope x) (hf : X.fn x = true ∨ X.env.scope.names.lookup x = some .local := by first | exact .inl rfl | exact .inr rfl | assumption) : QG X Ts (.Name x pos) (dGN i) := pgLe (pg_name hN hi hx hf) fun v σ H Q ⟨ρ, S, M, Qd, d, R, sl, s, q, k⟩ =>
  k _ _ q ρ H _ (Grw.refl _ _) R (sl.set i s)
def dGNil : TGsd := fun ds S M Q => ds = [] ∧ Q S M
def dGCons (t : TGd) (u : TGsd) : TGsd := fun ds S M Q => ∃ d r, ds = d :: r ∧ t d S M fun S' M' => u r S' M' Q
theorem qgs_nil : QGs X Ts [] dGNil := pgsLe pgs_nil fun vs σ H Q ⟨ρ, S, M, Qd, ds, R, sl, s, ⟨e, q⟩, k⟩ => by
  subst e
  cases s
  exact ⟨rfl, k _ _ q ρ H _ (Grw.refl _ _) R sl⟩
theorem qgs_cons {es : List Expr} {t : TGd} {u : TGsd} (h1 : QG X Ts a t) (h2 : QGs X Ts es u) (hs : (assignEach (a :: es) X.env).map (·.2) = assign a X.env :: (assignEach es X.env).map (·.2) := by rfl) : QGs X Ts (a :: es) (dGCons t u) := pgsLe (pgs_cons h1 h2 hs) fun vs σ H Q ⟨ρ, S, M, Qd, ds, R, sl, s, ⟨d, r, e, q⟩, k⟩ => by
  subst e
  cases s with
  | @cons _ _ v vs' s1 s2 =>
    exact ⟨v, vs', rfl, ρ, S, M, _, d, R, sl, s1, q, fun S1 M1 q1 ρ1 H1 σ1 g1 R1 sl1 => ⟨ρ1, S1, M1, Qd, r, R1, sl1, Shs.grw g1 _ _ s2, q1, k.grw g1⟩⟩
@[simp] theorem dGNil_nil {S : Sl} {M : Mem} {Q : Sl → Mem → Prop} : dGNil [] S M Q ↔ Q S M := ⟨fun h => h.2, fun h => ⟨rfl, h⟩⟩
@[simp] theorem dGCons_cons {t : TGd} {u : TGsd} {d : D} {r : List D} {S : Sl} {M : Mem} {Q : Sl → Mem → Prop} : dGCons t u (d :: r) S M Q ↔ t d S M fun S' M' => u r S' M' Q :=
  ⟨fun ⟨_, _, e, h⟩ => by cases e; exact h, fun h => ⟨_, _, rfl, h⟩⟩
def dGTup (n : Nat) (t : TGsd) : TGd := fun d S M Q => ∃ ds, d = .tup ds ∧ ds.length = n ∧ t ds S M Q
@[simp] theorem dGTup_tup {n : Nat} {t : TGsd} {ds : List D} {S : Sl} {M : Mem} {Q : Sl → Mem → Prop} : dGTup n t (.tup ds) S M Q ↔ ds.length = n ∧ t ds S M Q :=
  ⟨fun ⟨_, e, h⟩ => by cases e; exact h, fun h => ⟨_, rfl, h⟩⟩
theorem qg_tup {es : List Expr} {k : Nat} {t : TGsd} {n : Nat} (hc : X.calm = true) (h : QGs X Ts es t) (hl : es.length = n := by rfl) (pg : PG X (.Tuple es k pos) (gTup X.K n (rdGs X.K Ts t))) : QG X Ts (.Tuple es k pos) (dGTup n t) := pgLe pg fun v σ H Q ⟨ρ, S, M, Qd, d, R, sl, s, ⟨ds, e, hn, q⟩, kk⟩ => by
  subst e
  cases s with
  | @tup a xs _ ha hs => exact ⟨a, xs, rfl, ha, by rw [← hs.length]; exact hn, ρ, S, M, Qd, ds, R, sl, hs, q, kk⟩
/-- x = e -/
@[simp] def dAsg (te : TEd) (g : TGd) : TSd := fun D E S M => te S M (fun d M1 => g d S M1 D.nx) E
theorem qs_asg {tg : Expr} {g : TGd} (he : QE X Ts E a ta) (hg : QG X Ts tg g) (hs : swapsWithSole [tg] a pos.line X.env = pure false := by rfl) (hw : swappedStores [tg] a X.env = pure none := by rfl) (h1 : (assignEach [tg] X.env).map (·.2) = [assign tg X.env] := by rfl) : QS X Ts E (.Assign [tg] a pos) (dAsg ta g) := psLe (ps_asg he hg hs hw h1) fun D σ H ⟨ρ, S, M, Dd, Ed, R, sl, q, k, kr, kb, kc, x⟩ =>
  ⟨ρ, S, M, _, Ed, R, sl, q, fun d M1 q1 ρ1 H1 v g1 R1 s1 => ⟨ρ1, S, M1, Dd.nx, d, R1, sl.grw g1, s1, q1, k.grw g1⟩, x⟩
@[simp] def dSet (i : Nat) (te : TEd) : TSd := fun D E S M => te S M (fun d M1 => D.nx (S.set i (some d)) M1) E
theorem qs_set {i : Nat} {x : Str} {pos' : Pos} (hN : X.N.Nodup) (hi : X.N[i]? = some x) (hx : Loc X.env.scope x) (he : QE X Ts E a ta) (hs : swapsWith a (some (.Name x pos')) pos.line X.env = pure false := by rfl) (hf : X.fn x = true ∨ X.env.scope.names.lookup x = some .local := by first | exact .inl rfl | exact .inr rfl | assumption) :
    QS X Ts E (.Assign [.Name x pos'] a pos) (dSet i ta) := psLe (ps_set hN hi hx he hs hf) fun D σ H ⟨ρ, S, M, Dd, Ed, R, sl, q, k, kr, kb, kc, x⟩ =>
  ⟨ρ, S, M, _, Ed, R, sl, q, fun d M1 q1 ρ1 H1 v g1 R1 s1 => k _ _ q1 ρ1 H1 _ g1 R1 ((sl.grw g1).set i s1), x⟩
/-- o.f = e -/
def dPutF (K : PySem.W.Frag) (f : Str) (to te : TEd) : TSd := fun D E S M => te S M (fun d M1 => to S M1 (fun o M2 => ∃ i C fs, o = .obj i ∧ M2[i]? = some (.ins C fs) ∧ Cls K C ∧ NoAttr K C f ∧ fs.length < 1000 ∧ D.nx S (M2.set i (.ins C (putD f d fs)))) E) E
theorem qs_fld {o : Expr} {f : Str} {to : TEd} {pos' : Pos} (ho : QE X Ts E o to) (he : QE X Ts E a ta) (hs : swapsWith a (some (.Attribute o f pos')) pos.line X.env = pure false := by rfl) : QS X Ts E (.Assign [.Attribute o f pos'] a pos) (dPutF X.K f to ta) := psLe (ps_fld ho he hs) fun D σ H ⟨ρ, S, M, Dd, Ed, R, sl, q, k, kr, kb, kc, x⟩ =>
  ⟨ρ, S, M, _, Ed, R, sl, q, fun d M1 q1 ρ1 H1 v g1 R1 s1 => ⟨ρ1, S, M1, _, Ed, R1, sl.grw g1, q1, fun o M2 ⟨i, C, fs, e, em, h1, h2, h3, q2⟩ ρ2 H2 w g2 R2 s2 => by
    subst e
    obtain ⟨a', dx, vs, r1, e2, s3⟩ := R2.inst em
    cases s2 with
    | obj ea =>
      rw [ea] at r1; cases r1
      refine ⟨_, C, dx, vs, rfl, e2, h1, h2, by rw [← s3.length]; exact h3, ?_⟩
      have hc : CSh X.K ρ2 H2 (.ins C (putD f d fs)) (.ins C dx (putF f v vs)) := ⟨dx, _, rfl, s3.put (Sh.grw g2 _ _ s1)⟩
      exact k _ _ q2 ρ2 _ σ ((g1.tr g2).tr (grw_set R2 em ea)) (R2.cellSet em ea hc) (((sl.grw g1).grw g2).grw (grw_set R2 em ea)), x.grw g1⟩, x⟩
/-! ### while -/
def dWhile (c : TTd) (tb : TSd) : TSd := fun D E S M => ∃ W : Nat → Sl → Mem → Prop, (∃ m, W m S M) ∧ ∀ m S M, W m S M →
  c S M (fun b M1 => if b = true then tb { D with nx := fun S' M' => ∃ m', m' < m ∧ W m' S' M', ct := fun S' M' => ∃ m', m' < m ∧ W m' S' M', bk := D.nx } E S M1 else D.nx S M1) E
theorem qs_while {body : List Stmt} {tt : TTd} (hp : PassesOwn (model X.prog X.w) X.A X.env X.xe) (hc : QT X Ts E c tt) (hb : QSs X Ts E body t) : QS X Ts E (.While c body [] pos) (dWhile tt t) := psLe (ps_while hp hc hb) fun D σ H ⟨ρ, S, M, Dd, Ed, R, sl, ⟨W, ⟨m0, w0⟩, step⟩, k, kr, kb, kc, x⟩ => by
  refine ⟨fun m σ' H' => ∃ ρ' S' M', Grw ρ H ρ' H' ∧ Rl X.K Ts ρ' M' H' ∧ Sls X.K ρ' H' S' σ' ∧ W m S' M', ⟨m0, ρ, S, M, Grw.refl _ _, R, sl, w0⟩, ?_⟩
  rintro m σ1 H1 ⟨ρ1, S1, M1, g1, R1, sl1, w1⟩
  refine ⟨ρ1, S1, M1, _, Ed, R1, sl1, step m S1 M1 w1, fun b M2 q2 ρ2 H2 g2 R2 => ?_, x.grw g1⟩
  cases b with
  | false => exact k _ _ q2 ρ2 H2 σ1 (g1.tr g2) R2 (sl1.grw g2)
  | true =>
    refine ⟨fun σ' H' => ∃ m', m' < m ∧ ∃ ρ' S' M', Grw ρ H ρ' H' ∧ Rl X.K Ts ρ' M' H' ∧ Sls X.K ρ' H' S' σ' ∧ W m' S' M', fun σ' H' h => h, ?_⟩
    have kk : SOk X.K Ts ρ2 H2 (fun S' M' => ∃ m', m' < m ∧ W m' S' M') (fun σ' H' => ∃ m', m' < m ∧ ∃ ρ' S' M', Grw ρ H ρ' H' ∧ Rl X.K Ts ρ' M' H' ∧ Sls X.K ρ' H' S' σ' ∧ W m' S' M') :=
      fun S3 M3 ⟨m', hm, w3⟩ ρ3 H3 σ3 g3 R3 sl3 => ⟨m', hm, ρ3, S3, M3, (g1.tr g2).tr g3, R3, sl3, w3⟩
    exact ⟨ρ2, S1, M2, _, Ed, R2, sl1.grw g2, q2, kk, kr.grw (g1.tr g2), k.grw (g1.tr g2), kk, x.grw (g1.tr g2)⟩
/-! ### for -/
/-- what is walked shows the things ds, as long as the memory is as alive says -/
def Feeds (K : PySem.W.Frag) (Ts : List Addr) (ρ : Rho) (H : Hp) (J : It) (ds : List D) (alive : Mem → Prop) : Prop :=
  ∀ ρ1 M1 H1, Grw ρ H ρ1 H1 → Rl K Ts ρ1 M1 H1 → alive M1 → ∀ i, (ds[i]? = none → J.stop i H1) ∧ ∀ d, ds[i]? = some d → J.go i H1 ∧ ∀ x H2, J.yld i H1 x H2 → ∃ ρ2, Grw ρ1 H1 ρ2 H2 ∧ Rl K Ts ρ2 M1 H2 ∧ Sh K ρ2 H2 d x
theorem Feeds.grw {K : PySem.W.Frag} {ρ ρ' : Rho} {H H' : Hp} {J : It} {ds : List D} {alive : Mem → Prop} (g : Grw ρ H ρ' H') (h : Feeds K Ts ρ H J ds alive) : Feeds K Ts ρ' H' J ds alive := fun ρ1 M1 H1 g1 => h ρ1 M1 H1 (g.tr g1)
abbrev TId := Sl → Mem → (List D → (Mem → Prop) → Mem → Prop) → KE' → Prop
def rdI (K : PySem.W.Frag) (Ts : List Addr) (E : XK) (t : TId) : TI := fun σ H Rr => ∃ ρ S M Qd Ed, Rl K Ts ρ M H ∧ Sls K ρ H S σ ∧ t S M Qd Ed ∧ (∀ ds alive M', Qd ds alive M' → ∀ ρ' H' J, Grw ρ H ρ' H' → Rl K Ts ρ' M' H' → Feeds K Ts ρ' H' J ds alive → Rr J H') ∧ XOk K Ts ρ H Ed E
abbrev QI (X : Cx) (Ts : List Addr) (E : XK) (tg iter : Expr) (t : TId) : Prop := PI X tg iter (rdI X.K Ts E t)
theorem piLe {tg iter : Expr} {t t' : TI} (h : PI X tg iter t) (i : ∀ σ H R, t' σ H R → t σ H R) : PI X tg iter t' := ⟨fun pins s σ H R I q => h.run pins s σ H R I (i σ H R q)⟩
def forD (g : TGd) (tb : TSd) (alive : Mem → Prop) (D : EndsD) (E : KE') : List Dl.D → Sl → Mem → Prop
  | [], S, M => alive M ∧ D.nx S M
  | d :: ds, S, M => alive M ∧ g d S M fun S1 M1 => tb { D with nx := forD g tb alive D E ds, ct := forD g tb alive D E ds, bk := D.nx } E S1 M1
@[simp] def dFor (ti : TId) (g : TGd) (tb : TSd) : TSd := fun D E S M => ti S M (fun ds alive M1 => forD g tb alive D E ds S M1) E
theorem forD_alive {g : TGd} {tb : TSd} {alive : Mem → Prop} {D : EndsD} {E : KE'} : ∀ {ds : List Dl.D} {S : Sl} {M : Mem}, forD g tb alive D E ds S M → alive M
  | [], _, _, h => h.1
  | _ :: _, _, _, h => h.1
theorem drop_none {α : Type} {ds : List α} {i : Nat} (h : ds[i]? = none) : ds.drop i = [] := List.drop_of_length_le (List.getElem?_eq_none_iff.mp h)
theorem drop_some {α : Type} {ds : List α} {i : Nat} {d : α} (h : ds[i]? = some d) : ds.drop i = d :: ds.drop (i + 1) := by
  obtain ⟨hl, e⟩ := List.getElem?_eq_some_iff.mp h
  rw [List.drop_eq_getElem_cons hl, e]
theorem qs_for {tg iter : Expr} {body : List Stmt} {ti : TId} {g : TGd} (hp : PassesOwn (model X.prog X.w) X.A X.env X.xe) (hc : X.calm = true) (hi : QI X Ts E tg iter ti) (hg : QG X Ts tg g) (hb : QSs X Ts E body t)
    (hs : ∀ x, foldedSetIterable iter X.env x = pure x := by intro _; rfl) : QS X Ts E (.For tg iter body [] pos) (dFor ti g t) := psLe (ps_for hp hc hi hg hb hs) fun D σ H ⟨ρ, S, M, Dd, Ed, R, sl, q, k, kr, kb, kc, x⟩ => by
  refine ⟨ρ, S, M, _, Ed, R, sl, q, fun ds alive M1 q1 ρ1 H1 J g1 R1 fd => ?_, x⟩
  refine ⟨fun i m σ' H' => ∃ ρ' S' M', Grw ρ1 H1 ρ' H' ∧ Rl X.K Ts ρ' M' H' ∧ Sls X.K ρ' H' S' σ' ∧ m = ds.length - i ∧ forD g t alive Dd Ed (ds.drop i) S' M', ⟨ds.length, ρ1, S, M1, Grw.refl _ _, R1, sl.grw g1, rfl, q1⟩, ?_⟩
  rintro i m σ2 H2 ⟨ρ2, S2, M2, g2, R2, sl2, hm, f2⟩
  obtain ⟨fn, fs⟩ := fd ρ2 M2 H2 g2 R2 (forD_alive f2) i
  cases hd : ds[i]? with
  | none =>
    rw [drop_none hd] at f2
    exact .inl ⟨fn hd, k _ _ f2.2 ρ2 H2 σ2 (g1.tr g2) R2 sl2⟩
  | some d =>
    obtain ⟨go, yl⟩ := fs d hd
    rw [drop_some hd] at f2
    have hl : i < ds.length := (List.getElem?_eq_some_iff.mp hd).1
    refine .inr ⟨go, fun σ' H' => ∃ ρ' S' M', Grw ρ1 H1 ρ' H' ∧ Rl X.K Ts ρ' M' H' ∧ Sls X.K ρ' H' S' σ' ∧ forD g t alive Dd Ed (ds.drop (i + 1)) S' M', fun σ' H' ⟨ρ', S', M', h1, h2, h3, h4⟩ => ⟨ds.length - (i + 1), by omega, ρ', S', M', h1, h2, h3, rfl, h4⟩, fun y H3 hy => ?_⟩
    obtain ⟨ρ3, g3, R3, s3⟩ := yl y H3 hy
    refine ⟨ρ3, S2, M2, _, d, R3, sl2.grw g3, s3, f2.2, fun S4 M4 q4 ρ4 H4 σ4 g4 R4 sl4 => ?_⟩
    have kk : SOk X.K Ts ρ4 H4 (forD g t alive Dd Ed (ds.drop (i + 1))) (fun σ' H' => ∃ ρ' S' M', Grw ρ1 H1 ρ' H' ∧ Rl X.K Ts ρ' M' H' ∧ Sls X.K ρ' H' S' σ' ∧ forD g t alive Dd Ed (ds.drop (i + 1)) S' M') :=
      fun S5 M5 q5 ρ5 H5 σ5 g5 R5 sl5 => ⟨ρ5, S5, M5, ((g2.tr g3).tr g4).tr g5, R5, sl5, q5⟩
    exact ⟨ρ4, S4, M4, _, Ed, R4, sl4, q4, kk, kr.grw (((g1.tr g2).tr g3).tr g4), k.grw (((g1.tr g2).tr g3).tr g4), kk, x.grw (((g1.tr g2).tr g3).tr g4)⟩
end
end Dl
set_option Elab.async false
set_option linter.all false
set_option maxRecDepth 100000
set_option maxHeartbeats 4000000
/-! all(element for x in source) over any source, its element told at the level of the machine. -/
namespace Zn
open PySem PySem.Spec PyProof.Rows L2 GxR

/-- what the generator's own body finds around it -/
structure InGen (X : Cx) (scope : Scope) (cenv : Env) : Prop where
  sc : cenv.scope = scope
  cl : cenv.cells = cloFrom X.env.cells scope.names []
  gl : cenv.globals = X.env.globals
  bu : cenv.builtins = builtinsNs

/-- the thing v may be walked in n turns, and at turn i the element gives tr i -/
structure Feed (X : Cx) (σ : L2.St) (scope : Scope) (x : Str) (elt : Expr) (P : Addr) (v : V) (H : Hp) (n : Nat) (tr : Nat → Bool) : Prop where
  run : ∀ (pins : List (Addr × Obj)) (s1 : Shared) (u : Value), Inv X pins σ H s1 → RelV v u →
    ∃ (fp : List Addr) (Pf : Nat → Value → Prop), P ∉ fp ∧ (∀ b ∈ fp, b < s1.heap.objs.size) ∧
      (∀ (A : Around) (E : Value → Shared → Prop) (Q : Value → Shared → Prop),
        (∀ (o : Obj) (St : Nat → Heap → Prop), (∀ A' : Around, A'.handled = none → Walks X.prog X.w A' s1.heap.objs.size (s1.heap.objs.size :: fp) [s1.heap.objs.size] n Pf St) →
          St 0 (s1.heap.push o) → Q (.ref s1.heap.objs.size) { s1 with heap := s1.heap.push o }) → wpAny (model X.prog X.w) A (pyIter u) Q E s1) ∧
      ∀ (cenv : Env) (A' : Around) (E' : Value → Shared → Prop) (i : Nat) (y : Value) (s2 : Shared) (m2 : Str → Option Value), InGen X scope cenv → A'.handled = none → A'.depth ≤ X.A.depth + 1 → A'.units ≤ X.A.units + 8 →
        Pf i y → s2.heap.Ns cenv.locals m2 → m2 x = some y → (∀ b o, b ≠ P → s1.heap.get? b = some o → s2.heap.get? b = some o) →
        wpAny (model X.prog X.w) A' (eval elt cenv) (fun z s3 => z = .bool (tr i) ∧ Keeps s2 s3) E' s2

/-- the generator g is ready to be walked -/
def Rdy (X : Cx) (pins : List (Addr × Obj)) (σ : L2.St) (H : Hp) (P : Addr) (n : Nat) (tr : Nat → Bool) (g : Addr) (s : Shared) : Prop :=
  ∃ (fp wr : List Addr) (G : Array GenState → Array GenState → Prop) (F : Nat → Value → Prop) (St : Nat → Shared → Prop),
    WalksS X.prog X.w X.A.in1 g fp wr G n F St ∧ St 0 s ∧ TruthOf X.prog X.w X.A.in1 F tr ∧ ∀ s', Moved wr G s s' → ∃ H2, Tabbed P H H2 ∧ Inv X pins σ H2 s'

section
variable {X : Cx} {pins : List (Addr × Obj)} {σ : L2.St} {H : Hp} {s : Shared}
theorem gen_feed {c P : Addr} {elt iter : Expr} {x : Str} {px gpos : Pos} {scope : Scope} {te : TE} {k : Nat} {Q' : Value → Shared → Prop} {R : Nat → (Nat → Bool) → Hp → Prop}
    (hr : Room k X.A) (TB : TabB X.base X.mg c P) (hcode : X.env.code = .ref c) (S : GenS X.env scope x) (hi : PE X iter te)
    (hs : ∀ v, genFold iter X.env v = pure v) (I : Inv X pins σ H s) (h : te σ H fun v H1 => TabG H1 P ∧ ∃ n tr, Feed X σ scope x elt P v H1 n tr ∧ R n tr H1)
    (hQ : ∀ n tr H1 g s5, R n tr H1 → Rdy X pins σ H1 P n tr g s5 → Q' (.ref g) s5) :
    wpAny (model X.prog X.w) X.A (eval (.GeneratorExp elt [⟨.Name x px, iter, [], 0⟩] scope gpos) X.env) Q' X.xe s := by
  refine wpAny_GeneratorExp_walksQD hr.hd S.co (closure_ok S.free) S.cell S.dot S.loc S.kind (by have := hr.dp; omega) ?_ hs
  refine thn (hi.run pins s σ H _ I h) fun xv s1 hx => ?_
  obtain ⟨v, H1, I1, r1, ⟨ps, hP, ht⟩, n, tr, fd, q1⟩ := hx
  obtain ⟨fp0, Pf, nP, ltf, itf, el⟩ := fd.run pins s1 xv I1 r1
  refine itf _ _ _ fun o St W hst => ?_
  have hPs : s1.heap.get? P = some { cls := .none, data := .fields ps } := I1.hok P _ hP
  have hPlt := Heap.lt_size hPs
  have hP2 : (s1.heap.push o).get? P = some { cls := .none, data := .fields ps } := Heap.get?_push_of_some _ hPs
  have cd : PySem.W.CodeHd (s1.heap.push o) c P := TB.code.keeps fun b u e => Heap.get?_push_of_some _ (I1.bk b u e)
  have lim2 : (s1.heap.push o).NoLimit := I1.nolimit.push o
  have cont : ∀ (code : Value) (h3 : Heap) (tk : Nat) (ps' : Array Value), Heap.ExtBut P (s1.heap.push o) h3 → (s1.heap.push o).objs.size ≤ h3.objs.size →
      h3.get? P = some { cls := .none, data := .fields ps' } → (∃ more, ps' = ps ++ more) → TriplesOk ps'.toList →
      wpAny (model X.prog X.w) X.A (builtinsFor X.env.globals X.env.builtins) (fun bi s₄ =>
        ∃ Ia fp wr n₀ Pi St₀ pz F, Value.ref s1.heap.objs.size = .ref Ia ∧ (∀ A' : Around, A'.handled = none → Walks X.prog X.w A' Ia fp wr n₀ Pi St₀) ∧ St₀ 0 s₄.heap ∧
          (∀ b ∈ fp, b < s₄.heap.objs.size) ∧ s₄.heap.NoLimit ∧ cStatics ∉ wr ∧
          (∀ href : Heap, (∀ b o, s₄.heap.get? b = some o → href.get? b = some o) →
            QuietGenD X.prog X.w (genEnv scope (cloFrom X.env.cells scope.names []) s₄.heap.objs.size code bi X.env) x [] elt (List.range s₄.heap.objs.size) wr Pi pz F href (X.A.depth + 1) (X.A.units + 8)) ∧
          (∀ a h₅ tk gs, gs.bare = true → s₄.heap.objs.size < a → h₅.objs.size = a + 1 → (∀ b o, s₄.heap.get? b = some o → h₅.get? b = some o) →
            WalksS X.prog X.w X.A.in4 a (a :: s₄.heap.objs.size :: List.range s₄.heap.objs.size) (s₄.heap.objs.size :: wr) (GenOnlyQ s₄.gens.size) (passing pz n₀ 0).length
              (fun j y => ∃ i, (passing pz n₀ 0)[j]? = some i ∧ F i y) (GenAt X.prog X.w X.A.in4 a s₄.gens.size s₄.heap.objs.size (List.range s₄.heap.objs.size) wr pz n₀ F) →
            GenAt X.prog X.w X.A.in4 a s₄.gens.size s₄.heap.objs.size (List.range s₄.heap.objs.size) wr pz n₀ F 0 { s₄ with gens := s₄.gens.push gs, toks := tk, heap := h₅ } →
            Q' (.ref a) { s₄ with gens := s₄.gens.push gs, toks := tk, heap := h₅ })) X.xe { s1 with heap := h3, toks := tk } := by
    intro code h3 tk ps' hx hsz hP3 hmore ht3
    obtain ⟨bm, ob, e1, e2, e3, e4, e5, e6, e7, e8⟩ := TB.bm
    have hcP : cStatics ≠ P := by
      intro e
      obtain ⟨_, ⟨o', es, ep, ho, hd, _⟩, _⟩ := I1.nolimit
      rw [e, hPs] at ho
      cases ho
      cases hd
    have hcl : cStatics < s1.heap.objs.size := let ⟨_, hns, _⟩ := I1.nolimit; hns.lt
    have keep3 : ∀ b u, b ≠ P → s1.heap.get? b = some u → h3.get? b = some u := fun b u hb e => hx b u hb (Heap.get?_push_of_some _ e)
    have szp : (s1.heap.push o).objs.size = s1.heap.objs.size + 1 := Heap.size_push ..
    refine wpAny_builtinsFor (m := X.mg) (by rw [I1.ok.glob]; exact ((I1.mod.glob.keeps I1.bk).push o).extBut hx TB.gP) e1 e2 (keep3 _ _ e4 (I1.bk _ _ e5)) e6 e7 e8 ?_
    refine ⟨s1.heap.objs.size, s1.heap.objs.size :: fp0, [s1.heap.objs.size], n, Pf, St, (fun _ => true), (fun i y => y = .bool (tr i)), rfl, W, ?_, ?_, lim2.extBut hx hcP, ?_, ?_, ?_⟩
    · refine (W X.A hr.hd).frame _ _ _ hst fun b hb u e => hx b u (fun z => ?_) e
      subst z
      rcases List.mem_cons.mp hb with z2 | z2
      · exact Nat.ne_of_lt hPlt z2
      · exact nP z2
    · intro b hb
      have hb' : b < s1.heap.objs.size + 1 := by
        rcases List.mem_cons.mp hb with z | z
        · rw [z]
          exact Nat.lt_succ_self _
        · exact Nat.lt_succ_of_lt (ltf b z)
      exact Nat.lt_of_lt_of_le hb' (by rw [← szp]; exact hsz)
    · intro z
      rcases List.mem_cons.mp z with z | z
      · exact Nat.ne_of_lt hcl z
      · cases z
    · intro href hhref
      refine ⟨fun A' E' i y s₂ m₂ hA hD hU hPv hn hm hk => ?_, fun A' E' i y s₂ m₂ hA hD hU hPv hp hn hm hk => ?_⟩
      · simp only [List.forIn_nil]
        exact wpAny_pure ⟨rfl, keeps_refl _⟩
      · refine el _ A' E' i y s₂ m₂ ⟨rfl, rfl, rfl, rfl⟩ hA hD hU hPv hn hm fun b u hb e => ?_
        have h4 := keep3 b u hb e
        have l1 := Heap.lt_size e
        refine hk b (List.mem_range.mpr (Heap.lt_size h4)) (fun z => ?_) u (hhref b u h4)
        rcases List.mem_cons.mp z with z | z
        · exact Nat.ne_of_lt l1 z
        · cases z
    · intro g h5 tk5 gs hgb hag hsz5 hk5 W5 hat
      simp only [GxR.passing_true, List.length_range] at W5
      refine hQ n tr H1 g _ q1 ⟨_, _, _, _, _, W5.in4_1, hat, ?_, fun s' hm => ?_⟩
      · intro j y sj Qj Ej hy hQj
        obtain ⟨i, hij, rfl⟩ := hy
        obtain ⟨hj, ej⟩ := List.getElem?_eq_some_iff.mp hij
        rw [List.getElem_range] at ej
        subst ej
        exact wpAny_truthy_bool hQj
      · obtain ⟨more, em⟩ := hmore
        have nwr : ∀ b u, s1.heap.get? b = some u → b ∉ h3.objs.size :: [s1.heap.objs.size] := by
          intro b u e hb
          have hl := Heap.lt_size e
          rcases List.mem_cons.mp hb with z | z
          · refine Nat.ne_of_lt (Nat.lt_of_lt_of_le hl ?_) z
            show s1.heap.objs.size ≤ h3.objs.size
            exact Nat.le_trans (by rw [szp]; exact Nat.le_succ _) hsz
          · rcases List.mem_cons.mp z with z | z
            · exact Nat.ne_of_lt hl z
            · cases z
        have J := inv_tab (more := more) (h' := s'.heap) (g' := s'.gens) (d' := s'.drawn) (t' := s'.toks) I1 hP (fun b u hb e => hm.heap b u (nwr b u e) (hk5 b u (keep3 b u hb e)))
          (by rw [← em]; exact hm.heap P _ (nwr P _ hPs) (hk5 P _ hP3)) (AllBare.movedS (I1.bare.push hgb) hm)
        rw [sh_eta s1 s' hm.os] at J
        exact ⟨upd H1 P (.tbl (ps ++ more)), ⟨⟨ps ++ more, upd_same, by rw [← em]; exact ht3⟩, fun b hb => upd_ne hb⟩, J⟩
  refine ⟨lim2, ?_⟩
  cases hf : codeAmong gpos ps.toList with
  | none =>
    refine wpAny_genexprCodeX hcode (cd.code hP2 ht) (cd.tab hP2) hf fun c' h' tk hx hge hlt hco' _ htab' _ => ?_
    obtain ⟨o1, vs, f1, tf, fl, tg, inF, tx, tt, op, _, _, _, _, _, _, _, _, _, htr, _⟩ := hco'
    exact cont _ h' tk _ hx (Nat.le_trans hge (Nat.le_of_lt hlt)) htab'.2 ⟨_, rfl⟩ htr
  | some cv =>
    refine wpAny_genexprCode_hit hcode (cd.code hP2 ht) hf ?_
    exact cont cv (s1.heap.push o) s1.toks ps (Heap.ExtBut.refl _ _) (Nat.le_refl _) hP2 ⟨#[], by simp⟩ ht

/-- all(e for x in it): the reading -/
def tAllF (X : Cx) (scope : Scope) (x : Str) (elt : Expr) (P : Addr) (te : TE) : TE := fun σ H Q => te σ H fun v H1 => TabG H1 P ∧ ∃ n tr, Feed X σ scope x elt P v H1 n tr ∧ ∀ H2, Tabbed P H1 H2 → Q (.bl ((List.range n).all tr)) H2
theorem boot_all' : bootBuiltins "all" = some (.builtin "all") := by decide +kernel
theorem pe_allF {c P : Addr} {elt iter : Expr} {x : Str} {px p pos gpos : Pos} {scope : Scope} {te : TE} {k : Nat}
    (hr : Room k X.A) (hg : Gl X "all") (hm : X.mg "all" = none) (TB : TabB X.base X.mg c P) (hcode : X.env.code = .ref c) (S : GenS X.env scope x) (hi : PE X iter te)
    (hs : ∀ v, genFold iter X.env v = pure v)
    (he : starEach [.GeneratorExp elt [⟨.Name x px, iter, [], 0⟩] scope gpos] X.env = (false, eval (.GeneratorExp elt [⟨.Name x px, iter, [], 0⟩] scope gpos) X.env) :: starEach [] X.env := by rfl) :
    PE X (.Call (.Name "all" p) [.GeneratorExp elt [⟨.Name x px, iter, [], 0⟩] scope gpos] [] pos) (tAllF X scope x elt P te) := by
  refine ⟨fun pins s σ H Q I h => ?_⟩
  refine wpAny_Call_Name_kw (ld_blt I hg hm boot_all' (callWith_builtin1 ?_ he (by rfl)))
  rw [he]
  show wpAny _ _ (spliced ((false, eval (.GeneratorExp elt [⟨.Name x px, iter, [], 0⟩] scope gpos) X.env) :: backTo pos (starEach [] X.env))) _ _ s
  refine Calls.spliced_cons (gen_feed (R := fun n tr H1 => ∀ H2, Tabbed P H1 H2 → Q (.bl ((List.range n).all tr)) H2) hr TB hcode S hi hs I h fun n tr H1 g s5 hR hG => ?_)
  obtain ⟨fp, wr, G, F, St, W, hst, htr, hI⟩ := hG
  refine Calls.spliced_nil (call_all_walkS (W.self 0 _ _ _ hst ⟨g, fp, wr, G, _, F, St, _, rfl, W, hst, htr, fun s' hmv => ?_⟩))
  obtain ⟨H2, hT, J⟩ := hI s' hmv
  exact ⟨.bl _, H2, J, rfl, hR H2 hT⟩
end
end Zn
set_option Elab.async false
set_option linter.all false
set_option maxRecDepth 100000
set_option maxHeartbeats 4000000
/-! Quiet evaluation: expressions whose value leaves all that stood, at the level of the machine (for the elements of generator expressions). -/
namespace Zn
open PySem PySem.Spec PyProof.Rows L2 GxR

/-- what of the module every state of a body holds -/
structure Gnd (X : Cx) (h : Heap) : Prop where
  kin : X.K.In h
  glob : h.Ns mainGlobals X.mg
  blt : ∃ mb, h.Ns builtinsNs mb ∧ ∀ x : Str, x ≠ "__name__" → mb x = bootBuiltins x
  nl : h.NoLimit
theorem Gnd.keeps {X : Cx} {h h' : Heap} (g : Gnd X h) (k : ∀ b o, h.get? b = some o → h'.get? b = some o) : Gnd X h' :=
  ⟨g.kin.keeps k, g.glob.keeps k, let ⟨mb, a, b⟩ := g.blt; ⟨mb, a.keeps k, b⟩, g.nl.keeps k⟩
theorem gnd_of {X : Cx} {pins : List (Addr × Obj)} {σ : L2.St} {H : Hp} {s1 : Shared} {P : Addr} {ps : Array Value} {h2 : Heap} (I : Inv X pins σ H s1) (hP : H P = some (.tbl ps))
    (k : ∀ b o, b ≠ P → s1.heap.get? b = some o → h2.get? b = some o) : Gnd X h2 := by
  have kk : ∀ b o, X.base.get? b = some o → h2.get? b = some o := fun b o e => by
    obtain ⟨e1, e2⟩ := I.bs b o e
    refine k b o (fun z => ?_) e1
    rw [z, hP] at e2
    cases e2
  exact ⟨I.mod.kin.keeps kk, I.mod.glob.keeps kk, let ⟨mb, a, b⟩ := I.mod.blt; ⟨mb, a.keeps kk, b⟩, I.mod.nolimit.keeps kk⟩

theorem ktr {s s' s'' : Shared} (a : Keeps s s') (b : Keeps s' s'') : Keeps s s'' := by
  obtain ⟨h1, t1, rfl, k1⟩ := a
  obtain ⟨h2, t2, rfl, k2⟩ := b
  exact ⟨h2, t2, rfl, fun b o e => k2 b o (k1 b o e)⟩
theorem kup {s s' : Shared} (a : Keeps s s') : ∀ b o, s.heap.get? b = some o → s'.heap.get? b = some o := by
  obtain ⟨h1, t1, rfl, k1⟩ := a
  exact k1

def QE (X : Cx) (A : Around) (env : Env) (h0 : Heap) (e : Expr) (R : Value → Prop) : Prop :=
  ∀ (s : Shared) (E : Value → Shared → Prop), (∀ b o, h0.get? b = some o → s.heap.get? b = some o) → wpAny (model X.prog X.w) A (eval e env) (fun z s3 => R z ∧ Keeps s s3) E s
def QA (X : Cx) (A : Around) (env : Env) (h0 : Heap) (es : List Expr) (R : List Value → Prop) : Prop :=
  ∀ (pos : Pos) (s : Shared) (E : Value → Shared → Prop), (∀ b o, h0.get? b = some o → s.heap.get? b = some o) →
    wpAny (model X.prog X.w) A (spliced (backTo pos (starEach es env))) (fun us s3 => R us ∧ Keeps s s3) E s

section
variable {X : Cx} {A : Around} {env : Env} {h0 : Heap} {e a b : Expr} {R : Value → Prop} {pos p : Pos} {x : Str}
theorem QE.mono {R' : Value → Prop} (h : QE X A env h0 e R) (i : ∀ z, R z → R' z) : QE X A env h0 e R' := fun s E k => thn (h s E k) fun z s3 q => ⟨i z q.1, q.2⟩
theorem qe_loc {m : Str → Option Value} {v : Value} (hk : env.scope.kind = .function) (hx : env.kindOf x = some .local) (hn : h0.Ns env.locals m) (hm : m x = some v) (hd : (x == ("__debug__" : Str)) = false := by decide) :
    QE X A env h0 (.Name x p) (fun z => z = v) := fun s E k => wpAny_Name (wpAny_loadName_local hk hx (hn.keeps k) hm ⟨rfl, keeps_refl _⟩) hd
theorem qe_free {c : Addr} {v : Value} (hk : env.scope.kind = .function) (hx : env.kindOf x = some .free) (hc : env.cells.lookup x = some c) (hv : h0.IsCell c (some v)) (hd : (x == ("__debug__" : Str)) = false := by decide)
    (hd2 : (x == ("__classdict__" : Str)) = false := by decide) : QE X A env h0 (.Name x p) (fun z => z = v) := fun s E k => wpAny_Name (wpAny_loadName_free hk hx hc (hv.keeps k) ⟨rfl, keeps_refl _⟩ hd2) hd
theorem qe_int {i : Int} {j : Nat} : QE X A env h0 (.Constant (.int i) j p) (fun z => ∃ t, z = .int i t) := fun s E k => wpAny_Constant_int ⟨⟨_, rfl⟩, keeps_tok _ _⟩
theorem qe_str {i : Str} {j : Nat} : QE X A env h0 (.Constant (.str i) j p) (fun z => ∃ t, z = .str i t) := fun s E k => Calls.Constant_str ⟨⟨_, rfl⟩, keeps_tok _ _⟩
theorem qe_and {u v : Bool} (ha : QE X A env h0 a (fun z => z = .bool u)) (hb : u = true → QE X A env h0 b (fun z => z = .bool v)) : QE X A env h0 (.BoolOp .And [a, b] p) (fun z => z = .bool (u && v)) := fun s E k => by
  refine BoolOp_and (thn (ha s E k) fun z s1 q => ?_)
  obtain ⟨rfl, k1⟩ := q
  refine wpAny_truthy_bool ?_
  cases u with
  | false => exact ⟨rfl, k1⟩
  | true => exact thn (BoolOp_one (hb rfl s1 E fun b o z => kup k1 b o (k b o z))) fun z s2 q => ⟨by rw [q.1, Bool.true_and], ktr k1 q.2⟩
theorem qe_cmp {op : CmpOp} {Ra Rb : Value → Prop} (ha : QE X A env h0 a Ra) (hb : QE X A env h0 b Rb)
    (h : ∀ y z s E, Ra y → Rb z → wpAny (model X.prog X.w) A (compareOp op y z) (fun r s3 => R r ∧ Keeps s s3) E s) (hm : behindInMarks op b = false := by with_unfolding_all rfl) :
    QE X A env h0 (.Compare a [op] [b] p) R := fun s E k => by
  refine wpAny_Compare1 (thn (ha s E k) fun y s1 q1 => ?_) hm
  refine thn (hb s1 E fun b o z => kup q1.2 b o (k b o z)) fun z s2 q2 => ?_
  exact thn (h y z s2 E q1.1 q2.1) fun r s3 q3 => ⟨q3.1, ktr (ktr q1.2 q2.2) q3.2⟩
theorem qe_lt {i j : Int} (ha : QE X A env h0 a (fun z => ∃ t, z = .int i t)) (hb : QE X A env h0 b (fun z => ∃ t, z = .int j t)) : QE X A env h0 (.Compare a [.Lt] [b] p) (fun z => z = .bool (decide (i < j))) :=
  qe_cmp ha hb (fun y z s E ⟨t, e1⟩ ⟨u, e2⟩ => by rw [e1, e2]; exact PySem.P.lt_int ⟨rfl, keeps_refl _⟩) (nomark _)
theorem qe_ge {i j : Int} (ha : QE X A env h0 a (fun z => ∃ t, z = .int i t)) (hb : QE X A env h0 b (fun z => ∃ t, z = .int j t)) : QE X A env h0 (.Compare a [.GtE] [b] p) (fun z => z = .bool (decide (i ≥ j))) :=
  qe_cmp ha hb (fun y z s E ⟨t, e1⟩ ⟨u, e2⟩ => by rw [e1, e2]; exact PySem.P.ge_int ⟨rfl, keeps_refl _⟩) (nomark _)
theorem qe_not {v : Bool} (ha : QE X A env h0 a (fun z => z = .bool v)) : QE X A env h0 (.UnaryOp .Not a p) (fun z => z = .bool (!v)) := fun s E k => by
  refine UnaryOp_ (thn (ha s E k) fun z s1 q => ?_)
  obtain ⟨rfl, k1⟩ := q
  exact not_of (wpAny_truthy_bool ⟨rfl, k1⟩)
theorem qe_chain {op op' : CmpOp} {c : Expr} {Ra Rb Rc : Value → Prop} {u v : Bool} (ha : QE X A env h0 a Ra) (hb : QE X A env h0 b Rb) (hc : QE X A env h0 c Rc)
    (h1 : ∀ y z s E, Ra y → Rb z → wpAny (model X.prog X.w) A (compareOp op y z) (fun r s3 => r = .bool u ∧ Keeps s s3) E s) (h2 : ∀ y z s E, Rb y → Rc z → wpAny (model X.prog X.w) A (compareOp op' y z) (fun r s3 => r = .bool v ∧ Keeps s s3) E s)
    (hm : lastMarks [op, op'] [b, c] = false := by with_unfolding_all rfl) :
    QE X A env h0 (.Compare a [op, op'] [b, c] p) (fun z => z = .bool (u && v)) := fun s E k => by
  refine Compare_chain (thn (ha s E k) fun y s1 q1 => chain_link (thn (hb s1 E fun b o z => kup q1.2 b o (k b o z)) fun z s2 q2 => thn (h1 y z s2 E q1.1 q2.1) fun r s3 q3 => ?_)) hm
  obtain ⟨rfl, k3⟩ := q3
  have k13 := ktr (ktr q1.2 q2.2) k3
  refine wpAny_truthy_bool ?_
  cases u with
  | false => exact ite_ff ⟨rfl, k13⟩
  | true =>
    refine ite_tt (chain_last (thn (hc s3 E fun b o z => kup k13 b o (k b o z)) fun y' s4 q4 => thn (h2 z y' s4 E q2.1 q4.1) fun r s5 q5 => ⟨by rw [q5.1, Bool.true_and], ktr (ktr k13 q4.2) q5.2⟩))
theorem qe_lelt {i j l : Int} {c : Expr} (ha : QE X A env h0 a (fun z => ∃ t, z = .int i t)) (hb : QE X A env h0 b (fun z => ∃ t, z = .int j t)) (hc : QE X A env h0 c (fun z => ∃ t, z = .int l t)) 
    (hm : lastMarks [.LtE, .Lt] [b, c] = false := by with_unfolding_all rfl) :
    QE X A env h0 (.Compare a [.LtE, .Lt] [b, c] p) (fun z => z = .bool (decide (i ≤ j) && decide (j < l))) :=
  qe_chain ha hb hc (fun y z s E ⟨t, e1⟩ ⟨u, e2⟩ => by rw [e1, e2]; exact PySem.P.le_int ⟨rfl, keeps_refl _⟩) (fun y z s E ⟨t, e1⟩ ⟨u, e2⟩ => by rw [e1, e2]; exact PySem.P.lt_int ⟨rfl, keeps_refl _⟩) hm
theorem qe_lele {i j l : Str} {c : Expr} (ha : QE X A env h0 a (fun z => ∃ t, z = .str i t)) (hb : QE X A env h0 b (fun z => ∃ t, z = .str j t)) (hc : QE X A env h0 c (fun z => ∃ t, z = .str l t)) 
    (hm : lastMarks [.LtE, .LtE] [b, c] = false := by with_unfolding_all rfl) :
    QE X A env h0 (.Compare a [.LtE, .LtE] [b, c] p) (fun z => z = .bool (!decide (j.cps.toList < i.cps.toList) && !decide (l.cps.toList < j.cps.toList))) :=
  qe_chain ha hb hc (fun y z s E ⟨t, e1⟩ ⟨u, e2⟩ => by rw [e1, e2]; exact PySem.P.le_str ⟨rfl, keeps_refl _⟩) (fun y z s E ⟨t, e1⟩ ⟨u, e2⟩ => by rw [e1, e2]; exact PySem.P.le_str ⟨rfl, keeps_refl _⟩) hm
theorem qa_nil : QA X A env h0 [] (fun us => us = []) := fun pos s E k => Calls.spliced_nil ⟨rfl, keeps_refl _⟩
theorem qa_cons {es : List Expr} {Ra : Value → Prop} {Rs : List Value → Prop} (ha : QE X A env h0 a Ra) (hs : QA X A env h0 es Rs) (he : starEach (a :: es) env = (false, eval a env) :: starEach es env := by rfl) :
    QA X A env h0 (a :: es) (fun us => ∃ u r, us = u :: r ∧ Ra u ∧ Rs r) := fun pos s E k => by
  rw [he]
  show wpAny _ _ (spliced ((false, eval a env) :: backTo pos (starEach es env))) _ _ s
  refine Calls.spliced_cons (thn (ha s E k) fun u s1 q1 => ?_)
  exact thn (hs pos s1 E fun b o z => kup q1.2 b o (k b o z)) fun r s2 q2 => ⟨⟨u, r, rfl, q1.1, q2.1⟩, ktr q1.2 q2.2⟩
theorem qe_callB {id : String} {es : List Expr} {Rs : List Value → Prop} (hk : env.scope.kind = .function) (hg : env.kindOf x = some .globalImplicit) (gl : env.globals = mainGlobals) (bu : env.builtins = builtinsNs) (G : Gnd X h0) (hm : X.mg x = none) (hv : bootBuiltins x = some (.builtin id))
    (ha : QA X A env h0 (a :: es) Rs) (h : ∀ us s E, Rs us → Gnd X s.heap → wpAny (model X.prog X.w) A (call (.builtin id) us) (fun r s3 => R r ∧ Keeps s s3) E s) (hn : x ≠ "__name__" := by decide) (hdb : (x == ("__debug__" : Str)) = false := by decide)
    (he : starEach (a :: es) env = (false, eval a env) :: starEach es env := by rfl) (hpl : (backTo pos (starEach es env)).any (·.1) = false := by rfl) : QE X A env h0 (.Call (.Name x p) (a :: es) [] pos) R := fun s E k => by
  have g := G.keeps k
  obtain ⟨mb, b1, b2⟩ := g.blt
  refine wpAny_Call_Name_kw (Calls.Name_function_global hk hg (Calls.loadGlobal_builtin (by rw [gl]; exact g.glob) hm (by rw [bu]; exact b1) ((b2 x hn).trans hv) ?_) hdb)
  refine callWith_builtin1 (thn (ha pos s E k) fun us s1 q1 => ?_) he hpl
  exact thn (h us s1 E q1.1 (g.keeps (kup q1.2))) fun r s2 q2 => ⟨q2.1, ktr q1.2 q2.2⟩
theorem qe_callF {f : Addr} {es : List Expr} {Rs : List Value → Prop} (hk : env.scope.kind = .function) (hg : env.kindOf x = some .globalImplicit) (gl : env.globals = mainGlobals) (G : Gnd X h0) (hm : X.mg x = some (.ref f)) (hkp : PySem.W.keepIn X.K (.ref f) = true)
    (ha : QA X A env h0 (a :: es) Rs) (h : ∀ us s E, Rs us → Gnd X s.heap → wpAny (model X.prog X.w) A (call (.ref f) us) (fun r s3 => R r ∧ Keeps s s3) E s) (hdb : (x == ("__debug__" : Str)) = false := by decide)
    (he : starEach (a :: es) env = (false, eval a env) :: starEach es env := by rfl) (hpl : (backTo pos (starEach es env)).any (·.1) = false := by rfl) : QE X A env h0 (.Call (.Name x p) (a :: es) [] pos) R := fun s E k => by
  have g := G.keeps k
  refine wpAny_Call_Name_kw (Calls.Name_function_global hk hg (Calls.loadGlobal_global (by rw [gl]; exact g.glob) hm ?_) hdb)
  refine PySem.W.callWith_K (h₀ := h0) G.kin hkp (thn (ha pos s E k) fun us s1 q1 => ⟨(g.keeps (kup q1.2)).kin, ?_⟩) he hpl
  exact thn (h us s1 E q1.1 (g.keeps (kup q1.2))) fun r s2 q2 => ⟨q2.1, ktr q1.2 q2.2⟩
theorem boot_isi : bootBuiltins "isinstance" = some (.builtin "isinstance") := by decide +kernel
/-- isinstance(x, T), by the kind of x's value -/
theorem qe_isi {T : String} {Rx : Value → Prop} {v : Bool} {pT : Pos} {nT : Str} (hk : env.scope.kind = .function) (hg : env.kindOf "isinstance" = some .globalImplicit) (gl : env.globals = mainGlobals) (bu : env.builtins = builtinsNs) (G : Gnd X h0) (hm : X.mg "isinstance" = none)
    (hgT : env.kindOf nT = some .globalImplicit) (hmT : X.mg nT = none) (hvT : bootBuiltins nT = some (.type T)) (hx : QE X A env h0 a Rx)
    (h : ∀ u s E, Rx u → wpAny (model X.prog X.w) A (call (.builtin "isinstance") [u, .type T]) (fun r s3 => r = .bool v ∧ Keeps s s3) E s) (hnT : nT ≠ "__name__" := by decide) (hdT : (nT == ("__debug__" : Str)) = false := by decide)
    (he : starEach [a, .Name nT pT] env = (false, eval a env) :: starEach [.Name nT pT] env := by rfl) :
    QE X A env h0 (.Call (.Name "isinstance" p) [a, .Name nT pT] [] pos) (fun z => z = .bool v) := by
  have hT : QE X A env h0 (.Name nT pT) (fun z => z = .type T) := fun s E k => by
    have g := G.keeps k
    obtain ⟨mb, b1, b2⟩ := g.blt
    exact Calls.Name_function_global hk hgT (Calls.loadGlobal_builtin (by rw [gl]; exact g.glob) hmT (by rw [bu]; exact b1) ((b2 nT hnT).trans hvT) ⟨rfl, keeps_refl _⟩) hdT
  refine qe_callB (id := "isinstance") hk hg gl bu G hm boot_isi (qa_cons hx (qa_cons hT qa_nil) he) (fun us s E hu G' => ?_) (by decide) (by decide) he (by rfl)
  obtain ⟨u, r, rfl, hu1, u2, r2, rfl, rfl, rfl⟩ := hu
  exact h u s E hu1
/-- the call of a def of one returned expression -/
theorem call_pure {f : Addr} {fd : FuncData} {xn qual : Str} {st : Stmt} {N ps : List Str} {us : List Value} {s : Shared} {E : Value → Shared → Prop} (F : Fun X.K xn qual st f fd) (S : FnScope N ps (defScope st)) (hb : defBody st = [.Return (some e) pos])
    (hbi : BindsTo s fd ⟨us, []⟩ (ps.zip us)) (hd : A.depth < recursionLimit) (G : Gnd X s.heap) (hl : us.length = ps.length)
    (h : ∀ (env : Env) (h1 : Heap) (m : Str → Option Value), env.scope = defScope st → env.globals = mainGlobals → env.builtins = builtinsNs → Gnd X h1 → h1.Ns env.locals m → (∀ (i : Nat) (y : Str) (u : Value), ps[i]? = some y → us[i]? = some u → env.kindOf y = some .local → m y = some u) →
      QE X (A.deeper env) env h1 e R) : wpAny (model X.prog X.w) A (call (.ref f) us) (fun z s3 => R z ∧ Keeps s s3) E s := by
  obtain ⟨oc, od, kV, doc, pm, an, cdv, ct, osl, rfl, lk, hcd⟩ := F.ex
  have hkind : ∀ y ∈ ps.zip us, (defScope st).names.lookup y.1 = some .local ∨ ((defScope st).names.lookup y.1 = some .cell ∧ ((cellsFrom (s.heap.objs.size + 1) (defScope st).names []).lookup y.1).isSome = true) := fun ⟨n, v⟩ hy => by
    rcases S.par n (List.of_mem_zip hy).1 with q | q
    · exact .inl q
    · exact .inr ⟨q, PySem.W.cellsFrom_some _ _ _ (.inl q)⟩
  refine wpAny_call (codeAny_call_function hd (G.kin _ _ lk) rfl S.co S.gen rfl (PySem.W.codeRec_of G.kin hcd) (hbi _ _ _ _ ?_))
  refine wpAny_newFunctionEnv_cells S.kind hkind fun env he s1 x => ?_
  subst he
  obtain ⟨h1, tk, es1, hk1⟩ := x.done
  have ndP : ps.Nodup := by rw [← S.pre]; exact S.nd.sublist (List.take_sublist _ _)
  have g1 : Gnd X s1.heap := G.keeps x.toInCall.keep
  refine ⟨g1.nl, codeAny_func ?_⟩
  show wpAny _ _ (execs (defBody st) _) _ _ _
  rw [hb]
  refine wpAny_execs_cons (wpAny_Return_some (thn (h _ s1.heap _ rfl rfl rfl g1 x.toInCall.ns (fun i y u h1 h2 h3 => bindL_get ndP h1 h2 h3) s1 _ fun _ _ z => z) fun z s2 q => ?_))
  refine ⟨q.1, ktr ⟨h1, tk, es1, ?_⟩ q.2⟩
  exact hk1
end
end Zn
set_option Elab.async false
set_option linter.all false
set_option maxRecDepth 100000
set_option maxHeartbeats 4000000
/-! Rules that the layer lacks: repr of data, list(text), a starred text in a display, x in a tuple of data, enumerate(tuple). -/
namespace Zn
open PySem PySem.Spec PyProof.Rows L2 GxR
section
variable {X : Cx}
theorem vals_one {x : V} {us : List Value} (r : Vals [x] us) : ∃ u, us = [u] ∧ RelV x u := by
  cases r with
  | cons a b =>
    cases b
    exact ⟨_, rfl, a⟩
/-- repr(x), where nothing else is being told (the guards around are none) -/
def rRepr (K : PySem.W.Frag) : List V → Hp → VK → Prop := fun xs H Q => ∃ x d, xs = [x] ∧ Dp K H x d ∧ PyData.showable d = true ∧ d.hasDict = false ∧ d.depth ≤ 60 ∧ d.shown.length ≤ sizeLine ∧ ((∃ a, x = .ref a) ∨ ∃ z, x = .str z) ∧ Q (.str d.shown) H
theorem cr_repr (hg : X.A.guards = some []) (hu : X.A.units + 64 < cLine) : CallR X (.builtin "repr") (rRepr X.K) := by
  intro pins s σ H xs us Q I r h
  obtain ⟨x, d, rfl, hd, hs, hn, hdp, hz, hx, q⟩ := h
  obtain ⟨u, rfl, ru⟩ := vals_one r
  rcases hx with ⟨a, rfl⟩ | ⟨z, rfl⟩
  · obtain ⟨as, rd⟩ := Dp.reads I d _ u hd ru
    cases ru
    exact repr_of_reads' rd hs (fun e => by rw [hn] at e; cases e) hg (by omega) (fun _ _ e => e) (fun h' u tk hk => ⟨.str d.shown, H, I.kept (t' := tk) hk, ⟨_, rfl⟩, q⟩) hz
  · obtain ⟨t, rfl⟩ := ru
    cases hd
    simp only [PyData.shown] at hz q
    exact PySem.P.repr_of_str ⟨.str _, H, I.tok _, ⟨_, rfl⟩, q⟩ hz

/-- the signs of a text, each a text -/
def signs (z : Str) : List V := z.cps.toList.map fun c => V.str ⟨#[c]⟩
theorem signs_length (z : Str) : (signs z).length = z.cps.size := by
  unfold signs
  rw [List.length_map, Array.length_toList]
theorem vals_signs {z : Str} {acc : Array Value} (h : ItemsOf (SignAt z) acc z.cps.size) : Vals (signs z) acc.toList := by
  obtain ⟨hs, hi⟩ := h
  have key : ∀ (l : List Nat) (us : List Value), l.length = us.length → (∀ (j : Nat) (c : Nat), l[j]? = some c → ∃ u, us[j]? = some (.str ⟨#[c]⟩ u)) → Vals (l.map fun c => V.str ⟨#[c]⟩) us := by
    intro l
    induction l with
    | nil =>
      intro us e _
      cases us with
      | nil => exact .nil
      | cons _ _ => cases e
    | cons c r ih =>
      intro us e g
      cases us with
      | nil => cases e
      | cons u us =>
        obtain ⟨t, ht⟩ := g 0 c rfl
        have ht' : u = .str ⟨#[c]⟩ t := by simpa using ht
        refine .cons ⟨t, ht'⟩ (ih us (by simpa using e) fun j c' hj => ?_)
        obtain ⟨t2, e2⟩ := g (j + 1) c' (by simpa using hj)
        exact ⟨t2, by simpa using e2⟩
  refine key z.cps.toList acc.toList (by simp [hs]) fun j c hj => ?_
  have hj' : z.cps[j]? = some c := by rw [← hj]; simp
  have hlt : j < acc.size := by
    rw [hs]
    exact (Array.getElem?_eq_some_iff.mp hj').1
  obtain ⟨c2, u, e1, e2⟩ := hi j acc[j] (by simp [hlt])
  rw [hj'] at e1
  cases e1
  exact ⟨u, by simp [hlt, e2]⟩
/-- list(text) -/
def rListS : List V → Hp → VK → Prop := fun xs H Q => ∃ z : Str, xs = [.str z] ∧ z.cps.size ≤ sizeLine ∧ ∀ l, H l = none → Q (.ref l) (upd H l (.lst (signs z)))
theorem cr_listS (hc : X.A.handled = none) : CallR X (.type "list") rListS := by
  intro pins s σ H xs us Q I r h
  obtain ⟨z, rfl, hz, q⟩ := h
  obtain ⟨u, rfl, t, rfl⟩ := vals_one r
  refine call_list_str hc z t (fun h' tk acc' c' hk hS hacc => ?_) hz
  have hf : H s.heap.objs.size = none := I.hok.fresh (Nat.le_refl _)
  have new : ObjOk X.prog X.w (upd H s.heap.objs.size (.lst (signs z))) h' s.heap.objs.size (.lst (signs z)) := ⟨by rw [signs_length]; exact hz, acc'.toList, c', vals_signs hacc, by simpa using hS⟩
  exact ⟨.ref _, _, I.laid (t' := tk) hk (Nat.le_refl _) new, rfl, q _ hf⟩
/-- *text in a display -/
def tStarS (te : TE) (t : TA) : TA := fun σ H Q => te σ H fun x H1 => ∃ z : Str, x = .str z ∧ z.cps.size ≤ sizeLine ∧ t σ H1 fun ys H2 => Q (signs z ++ ys) H2
theorem sh_all (s s' : Shared) (h1 : s'.gens = s.gens) (h2 : s'.drawn = s.drawn) (h3 : s'.os = s.os) : ({ s with heap := s'.heap, toks := s'.toks } : Shared) = s' := by
  cases s'
  cases h1
  cases h2
  cases h3
  rfl
theorem pa_starS {e : Expr} {es : List Expr} {te : TE} {t : TA} {p : Pos} (hc : X.A.handled = none) (he : PE X e te) (hr : PA X es t) (hs : starEach (.Starred e p :: es) X.env = (true, eval e X.env) :: starEach es X.env := by rfl) : PA X (.Starred e p :: es) (tStarS te t) := by
  refine ⟨fun pos pins s σ H Q I h => ?_⟩
  refine PySem.W.items_star (thn (he.run pins s σ H _ I h) fun v s1 hv => ?_) hs
  obtain ⟨y, H1, I1, ry, z, rfl, hz, q⟩ := hv
  obtain ⟨tk, rfl⟩ := ry
  have main : wpAny (model X.prog X.w) X.A (collect (.str z tk)) (fun us s2 => wpAny (model X.prog X.w) X.A (spliced (backTo pos (starEach es X.env))) (fun ws s3 => AP X pins σ Q (us ++ ws) s3) X.xe s2) X.xe s1 := by
    refine wpAny_collect_str hc z tk (fun s' acc hk hg hd ho hacc => ?_) hz
    have J : Inv X pins σ H1 s' := by
      have := I1.kept (h' := s'.heap) (t' := s'.toks) hk
      rw [sh_all s1 s' hg hd ho] at this
      exact this
    exact thn (hr.run pos pins s' σ H1 _ J q) fun ws s3 hw => by
      obtain ⟨vs, H3, I3, r3, q3⟩ := hw
      exact ⟨signs z ++ vs, H3, I3, (vals_signs hacc).append r3, q3⟩
  unfold PySem.W.StarOf notIterableAtAll
  exact wpAny_bind (wpAny_specialOf (typeIs_str s1 z tk) PySem.F.slot_str_iter.lookup (wpAny_pure ⟨rfl, main⟩))

/-- x in t, t a tuple of data -/
def rInT (K : PySem.W.Frag) : R2 := fun x y H Q => ∃ d ds, Dp K H x d ∧ Dp K H y (.tuple ds) ∧ SeqAt.shaped d = true ∧ SeqAt.shaped (.tuple ds) = true ∧ Q (.bl (ds.any fun z => PyData.eqv z d)) H
theorem op_inT (hu : X.A.units + 65 < cLine) : OpR X (compareOp .In) (rInT X.K) := by
  intro pins s σ H x y v u Q I rx ry h
  obtain ⟨d, ds, hd, he, sd, se, q⟩ := h
  obtain ⟨as, r1⟩ := Dp.reads I d x v hd rx
  obtain ⟨bs, r2⟩ := Dp.reads I (.tuple ds) y u he ry
  exact SeqAt.in_tuple_reads r2 r1 (SeqAt.canLay_of_shaped se) (SeqAt.canLay_of_shaped sd) (room_in_shaped sd hu) ⟨.bl _, H, I, rfl, q⟩
end

/-! ### enumerate(tuple) -/
set_option maxHeartbeats 1000000 in
theorem meets_enumT {v : Value} {o : Obj} {G : Heap → Prop} (B : Begins v o G) :
    Meets (Builtin.«enumerate.__new__» ⟨[.type "enumerate", v], []⟩) (fun _ R s => G s.heap ∧
      R (.ok (.ret (.ref (s.heap.push o).objs.size))) { s with heap := (s.heap.push o).push { cls := .type "enumerate", data := .fields #[.none, .bool false, .ref s.heap.objs.size, rawInt 0, .none, .none] } }) :=
  .of_wp fun prog w A R s h => by
    obtain ⟨hp, g, d, tk, os⟩ := s
    obtain ⟨h1, h⟩ := h
    have hsub := sub_enumerate
    have q1 : ∀ {A' : Around} {E : Value → Shared → Prop} {Q : Value → Shared → Prop}, Q (.ref hp.objs.size) ⟨hp.push o, g, d, tk, os⟩ → wpAny (model prog w) A' (pyIter v) Q E ⟨hp, g, d, tk, os⟩ :=
      fun q => B.iter prog w _ _ ⟨hp, g, d, tk, os⟩ _ h1 q
    wp_walk using q1
    refine wpAny_stack_any fun st => wpAny_pure ?_
    split
    · rename_i c _ _ _ _ _
      cases (c == Value.type "enumerate")
      · wp_walk using q1
        exact ⟨_, rfl, h⟩
      · wp_walk using q1
        exact ⟨_, rfl, h⟩
    · wp_walk using q1
      exact ⟨_, rfl, h⟩
section
variable {prog : Program} {w : World} {A : Around} {E : Value → Shared → Prop} {s : Shared}
theorem call_enumB {v : Value} {o : Obj} {G : Heap → Prop} {Q : Value → Shared → Prop} (B : Begins v o G) (h1 : G s.heap)
    (h : ∀ h', IsEnum h' (s.heap.objs.size + 1) s.heap.objs.size 0 .none → h'.get? s.heap.objs.size = some o → h'.objs.size = s.heap.objs.size + 2 →
      (∀ b o, s.heap.get? b = some o → h'.get? b = some o) → Q (.ref (s.heap.objs.size + 1)) { s with heap := h' }) : wpAny (model prog w) A (call (.type "enumerate") [v]) Q E s := by
  refine callType_new F.called_enumerate (by decide) (F.typeCall_enumerate_1 _) (F.newCall_enumerate_1 _) (fun obj => F.args_object_init_2 obj _) F.entry_enumerate_new (meets_enumT B) ⟨h1, ?_⟩
  have hz : (s.heap.push o).objs.size = s.heap.objs.size + 1 := Heap.size_push ..
  show _ ∧ _
  rw [hz]
  have he : IsEnum ((s.heap.push o).push { cls := .type "enumerate", data := .fields #[.none, .bool false, .ref s.heap.objs.size, rawInt 0, .none, .none] }) (s.heap.objs.size + 1) s.heap.objs.size 0 .none := by
    have q := Heap.get?_push_size (s.heap.push o) (o := { cls := .type "enumerate", data := .fields #[.none, .bool false, .ref s.heap.objs.size, rawInt 0, .none, .none] }) rfl
    rw [hz] at q
    exact q
  exact ⟨⟨_, he, rfl⟩, h _ he (Heap.get?_push_of_some _ (Heap.get?_push_size _ B.free)) (by rw [Heap.size_push, hz]) fun b o x => Heap.get?_push_of_some _ (Heap.get?_push_of_some _ x)⟩
end
theorem next_enum_endT {prog : Program} {w : World} {A : Around} {E : Value → Shared → Prop} {s : Shared} {e it t : Addr} {i : Nat} {c : Int} {items : Array Value} {old : Value} {Q : Option Value → Shared → Prop} (hh : A.handled = none)
    (he : IsEnum s.heap e it c old) (hit : s.heap.IsTupleIter it t i) (ht : s.heap.IsTuple t items) (hx : items[i]? = none) (hQ : ∀ h', Heap.ExtBut it s.heap h' → Q none { s with heap := h' }) : wpAny (model prog w) A (pyNext (.ref e)) Q E s := by
  have hT : s.TypeIs (.ref e) "enumerate" := ⟨_, he, rfl⟩
  unfold pyNext
  refine wpAny_bind (wpAny_attempt (wpAny_callSpecial?_slot (name := Str.ofString "__next__") hT F.slot_enumerate_next (wpAny_call_entry F.slot_enumerate_next hT F.entry_enumerate_next ?_ (F.args_enumerate_next_1 _))))
  show wpAny _ _ (field (.ref e) 2 >>= _) _ _ _
  refine wpAny_bind (wpAny_field he rfl (x := .ref it) rfl (wpAny_bind (wpAny_nextOf_tuple_end hh hit ht hx fun h' x he' hx' => ?_)))
  obtain ⟨o, ho, hc⟩ := hx'
  exact wpAny_bind (wpAny_isInstance (T := "StopIteration") (b := true) ⟨o, ho, hc⟩ isSubtype_stop (wpAny_pure (hQ _ he')))
/-- the tuple at a, each item in a new pair with its place -/
def ItT (K : PySem.W.Frag) (a : Addr) : It :=
  ⟨fun i H => ∃ (xs : List V) (x : V), SqT K H a xs ∧ xs[i]? = some x, fun i H v H' => ∃ T x, v = .ref T ∧ H T = none ∧ H' = upd H T (.tup [.int (i : Nat), x]) ∧ ∀ xs, SqT K H a xs → xs[i]? = some x, fun i H => ∃ xs : List V, SqT K H a xs ∧ xs.length ≤ i⟩
theorem turn_enumT {P : Program} {w : World} {K : PySem.W.Frag} {elts : List Expr} {kk : Nat} {tpos : Pos} (a e it : Addr) (hae : a ≠ e) (hai : a ≠ it) :
    Turn P w K (.Tuple elts kk tpos) (ItT K a) [e, it] e (fun i h => (∃ old, IsEnum h e it ((i : Nat) : Int) old) ∧ h.IsTupleIter it a i ∧ e ≠ it) where
  mem := by simp
  obj := fun i h st b hb => by
    obtain ⟨⟨old, he⟩, ⟨o, ho, hc, hd⟩, _⟩ := st
    have e' : b = e ∨ b = it := by simpa using hb
    rcases e' with z | z
    · rw [z]; exact ⟨_, he, fun v q => nomatch q⟩
    · rw [z]; exact ⟨o, ho, fun v q => by rw [hd] at q; cases q⟩
  keep := fun i h h' st k => by
    obtain ⟨⟨old, he⟩, hi, hne⟩ := st
    exact ⟨⟨old, k e (by simp) _ he⟩, hi.at fun o q => k it (by simp) o q, hne⟩
  item := by
    intro X hP hw hK hc i pins s σ H E I hf st hg
    subst hP hw hK
    obtain ⟨⟨old, he⟩, hit, hne⟩ := st
    obtain ⟨xs, x, hq, hx⟩ := hg
    obtain ⟨its, rv, p, hz⟩ := I.tuple hq
    obtain ⟨u, hu, ru⟩ := rv.get hx
    have hel := Heap.lt_size he
    have hil : it < s.heap.objs.size := by obtain ⟨_, q, _⟩ := hit; exact Heap.lt_size q
    have hu' : its.toArray[i]? = some u := by simpa using hu
    have hlt : i < its.toArray.size := (Array.getElem?_eq_some_iff.mp hu').1
    have hpt : s.heap.IsTuple a its.toArray := p
    have D := Draws.tuple (prog := X.prog) (w := X.w) (A := X.A.in1) (I.ok.hd hc) it a hai its.toArray
    refine wpAny_pyNext_enum_itemD D he ⟨hit, hpt⟩ hlt hne (by simp [hne, hae.symm]) fun x' h' tk hx' ho hst hT hsz hk => ?_
    rw [hu'] at hx'
    cases hx'
    refine ⟨_, rfl, wpAny_letOwnedTupleGo_enum (s := { s with heap := h', toks := tk + 1 }) ho fun h'' he' sb => ?_⟩
    have hT2 : h''.get? s.heap.objs.size = some { cls := .type "tuple", data := .seq #[.int i tk, u] } := (sb.2 _ (Nat.ne_of_gt hel)).trans hT
    have I1 : Inv X pins σ (upd H s.heap.objs.size (.tup [.int (i : Nat), x])) { s with heap := h'', toks := tk + 1 } :=
      I.turnedNew (ch := [e, it]) (fun b ob hb q => (sb.2 b (fun z => hb (by simp [z]))).trans (hk b ob (fun z => hb (by simp [z])) (fun z => hb (by simp [z])) q)) hf (Nat.le_refl _)
        ⟨by show 2 ≤ sizeLine; decide, [.int i tk, u], .cons ⟨_, rfl⟩ (.cons ru .nil), ⟨_, hT2, rfl, _, rfl⟩⟩
    refine ⟨.ref s.heap.objs.size, _, I1, rfl, ⟨_, x, rfl, I.hok.fresh (Nat.le_refl _), rfl, fun ys hy => by rw [I.tuple_inj hy hq]; exact hx⟩, ⟨⟨u, ?_⟩, hst.1.at fun o q => (sb.2 it (Ne.symm hne)).trans q, hne⟩, fun b hb => ?_⟩
    · have e1 : ((i + 1 : Nat) : Int) = (i : Int) + 1 := by omega
      rw [e1]
      exact he'
    · have hb' : b < s.heap.objs.size := by
        have e' : b = e ∨ b = it := by simpa using hb
        rcases e' with z | z
        · rw [z]; exact hel
        · rw [z]; exact hil
      rw [upd_ne (Nat.ne_of_lt hb')]
      exact (hf b hb).1
  done := by
    intro X hP hw hK hc i pins s σ H E I hf st hg
    subst hP hw hK
    obtain ⟨⟨old, he⟩, hit, hne⟩ := st
    obtain ⟨xs, hq, hx⟩ := hg
    obtain ⟨its, rv, p, hz⟩ := I.tuple hq
    obtain ⟨f0, f1, f2, f3, f4, f5⟩ := hf it (by simp)
    have hl := rv.length
    have hpt : s.heap.IsTuple a its.toArray := p
    have hx0 : its.toArray[i]? = none := Array.getElem?_eq_none_iff.mpr (by simp only [List.size_toArray]; omega)
    exact next_enum_endT (I.ok.hd hc) he hit hpt hx0 fun h' sb => ⟨rfl, I.turned (t' := s.toks) (fun b o hb q => sb b o hb q) f0 f1 f3 f4 f5⟩
  self := fun A i s Q E st h => let ⟨⟨_, he⟩, _⟩ := st; wpAny_pyIter_enum he h
def iEnumT (K : PySem.W.Frag) (ta : TA) : TI := fun σ H R => ta σ H fun vs H1 => ∃ a xs, vs = [.ref a] ∧ SqT K H1 a xs ∧ R (ItT K a) H1
theorem pi_enumT {X : Cx} {e : Expr} {ta : TA} {p pos tpos : Pos} {elts : List Expr} {kk : Nat} (hg : Gl X "enumerate") (hm : X.mg "enumerate" = none) (ha : PA X [e] ta) (hs : starEach [e] X.env = [(false, eval e X.env)] := by rfl) :
    PI X (.Tuple elts kk tpos) (.Call (.Name "enumerate" p) [e] [] pos) (iEnumT X.K ta) := by
  refine ⟨fun pins s σ H R I h => ?_⟩
  refine Call_ (ld_blt I hg hm boot_enumerate (callWith_type1 (thn (ha.run pos pins s σ H _ I h) fun us s1 hv => ?_) hs rfl))
  obtain ⟨vs, H1, I1, r1, a, xs, rfl, hq, q⟩ := hv
  obtain ⟨u, rfl, ru⟩ := vals_one r1
  cases ru
  obtain ⟨its, rv, p', hz⟩ := I1.tuple hq
  have hpt : s1.heap.IsTuple a its.toArray := p'
  have hlt : a < s1.heap.objs.size := p'.lt
  refine call_enumB (begins_tuple a its.toArray) hpt fun h' he hit hsz hk => wpAny_pyIter_enum he ?_
  have I2 : Inv X pins σ H1 { s1 with heap := h' } := I1.kept (t' := s1.toks) hk
  refine ⟨s1.heap.objs.size + 1, [s1.heap.objs.size + 1, s1.heap.objs.size], _, _, H1, rfl, I2, turn_enumT a (s1.heap.objs.size + 1) s1.heap.objs.size (Nat.ne_of_lt (Nat.lt_succ_of_lt hlt)) (Nat.ne_of_lt hlt), ⟨⟨.none, he⟩, ⟨_, hit, rfl, rfl⟩, Nat.succ_ne_self _⟩, fun b hb => ?_, q⟩
  have hle : s1.heap.objs.size ≤ b := by
    rcases (by simpa using hb : b = s1.heap.objs.size + 1 ∨ b = s1.heap.objs.size) with z | z
    · rw [z]; exact Nat.le_succ _
    · rw [z]; exact Nat.le_refl _
  exact I1.fpOk hle (I1.hok.fresh hle)
theorem walk_enumT {K : PySem.W.Frag} {a : Addr} {xs : List V} : Walk (ItT K a) xs.length (fun H => SqT K H a xs) (YPair (fun i => some (.int (i : Nat))) (fun i => xs[i]?)) := by
  refine ⟨fun i _ hi q => ⟨xs, xs[i], q, by simp [hi]⟩, fun _ q => ⟨xs, q, Nat.le_refl _⟩, fun i H v H' _ q y => ?_⟩
  obtain ⟨T, x, h1, h2, h3, h4⟩ := y
  exact ⟨T, .int (i : Nat), x, h1, h2, h3, rfl, h4 xs q⟩
end Zn
set_option Elab.async false
set_option linter.all false
set_option maxRecDepth 100000
set_option maxHeartbeats 4000000
/-! len(set(x)) of a text and of a list of texts: how many different ones. -/
namespace Zn
open PySem PySem.Spec PyProof.Rows L2 GxR
/-- how many different ones are among the first i -/
def dcnt (xs : List Str) : Nat → Nat
  | 0 => 0
  | i + 1 => if (xs.take i).any (· == xs.getD i Str.empty) then dcnt xs i else dcnt xs i + 1
theorem dcnt_le (xs : List Str) : ∀ i, dcnt xs i ≤ i
  | 0 => Nat.le_refl _
  | i + 1 => by
    have h := dcnt_le xs i
    unfold dcnt
    split <;> omega
theorem dcnt_nodup {xs : List Str} (h : xs.Nodup) : ∀ i, i ≤ xs.length → dcnt xs i = i
  | 0, _ => rfl
  | i + 1, hi => by
    have ih := dcnt_nodup h i (by omega)
    unfold dcnt
    have e1 : xs.getD i Str.empty = xs[i] := by simp [List.getD_eq_getElem?_getD, List.getElem?_eq_getElem (show i < xs.length by omega)]
    have no : (xs.take i).any (· == xs.getD i Str.empty) = false := by
      rw [e1]
      cases hb : (xs.take i).any (· == xs[i]) with
      | false => rfl
      | true =>
        obtain ⟨y, hy, ey⟩ := List.any_eq_true.mp hb
        obtain ⟨j, hj, ej⟩ := List.getElem_of_mem hy
        rw [List.length_take] at hj
        rw [List.getElem_take] at ej
        have e2 : xs[j] = xs[i] := ej.trans (eq_of_beq ey)
        exact absurd e2 (List.pairwise_iff_getElem.mp h j i (by omega) (by omega) (by omega))
    rw [no, ih]
    rfl
section
variable {prog : Program} {w : World} {A : Around} {R : Result → Shared → Prop} {I : Addr} {fp wr : List Addr} {G : Array GenState → Array GenState → Prop} {n : Nat} {P : Nat → Value → Prop} {St : Nat → Shared → Prop}
/-- the set at S holds the first i -/
abbrev Holds (prog : Program) (w : World) (h : Heap) (S : Addr) (xs : List Str) (i : Nat) : Prop := h.SetOf (PySem.strKind prog w) S (fun k => (xs.take i).any (· == k)) (dcnt xs i)
theorem holds_at {h h' : Heap} {S : Addr} {xs : List Str} {i : Nat} (x : Holds prog w h S xs i) (k : ∀ o, h.get? S = some o → h'.get? S = some o) : Holds prog w h' S xs i := by
  obtain ⟨o, es, ep, t, ho, rest⟩ := x
  exact ⟨o, es, ep, t, k o ho, rest⟩
theorem setLoop (W : WalksS prog w A.in1 I fp wr G n P St) (S : Addr) (nS : S ∉ fp) (xs : List Str) (hlen : xs.length = n) (hroom : n + 1 < scanBound)
    (val : ∀ i v, P i v → ∃ t, v = .str (xs.getD i Str.empty) t) :
    ∀ (k i : Nat) (s : Shared), n - i = k → i ≤ n → St i s → Holds prog w s.heap S xs i → (∀ s', Moved (S :: wr) G s s' → Holds prog w s'.heap S xs n → R (.ok (.ret .none)) s') →
      codeAny (model prog w) A (.builtin "set.update.loop" ⟨[.ref S, .ref I], []⟩) R s := by
  have nSw : S ∉ wr := fun h => nS (W.sub _ h)
  have up : ∀ b ∈ wr, b ∈ S :: wr := fun b hb => List.mem_cons_of_mem _ hb
  intro k
  induction k with
  | zero =>
    intro i s hk hi hst hS hR
    have hin : i = n := by omega
    subst hin
    refine codeAny_builtin PyProof.Rows.F.entry_set_update_loop ?_
    rw [Around.under_plainId PyProof.Rows.F.plain_set_update_loop _]
    show wpAny _ A.in1 (pyNext (.ref I) >>= _) _ _ s
    exact wpAny_bind (W.done s _ _ hst fun s' hm => wpAny_pure (hR s' (hm.mono up) (holds_at hS fun o e => hm.heap S o nSw e)))
  | succ k ih =>
    intro i s hk hi hst hS hR
    have hlt : i < n := by omega
    refine codeAny_builtin PyProof.Rows.F.entry_set_update_loop ?_
    rw [Around.under_plainId PyProof.Rows.F.plain_set_update_loop _]
    show wpAny _ A.in1 (pyNext (.ref I) >>= _) _ _ s
    refine wpAny_bind (W.item i s _ _ hlt hst fun v s' hP hst' hm => ?_)
    obtain ⟨t, rfl⟩ := val i v hP
    have hS' := holds_at hS fun o e => hm.heap S o nSw e
    show wpAny _ A.in1 (holding [Value.str (xs.getD i Str.empty) t] (setAdd S (.str (xs.getD i Str.empty) t)) >>= _) _ _ s'
    refine wpAny_bind (wpAny_holding ?_)
    unfold setAdd
    refine wpAny_holding (wpAny_bind ((PySem.strKind prog w).pyHash (k := xs.getD i Str.empty) (strKind_is _ _ _ _) ?_))
    have hle := dcnt_le xs i
    refine wpAny_setAddHashed_of (knd := PySem.strKind prog w) (s := { s' with toks := s'.toks + 1 }) (strKind_is _ _ _ _) rfl hS' (by omega) fun h' sb hS2 => ?_
    have hSi : Holds prog w h' S xs (i + 1) := by
      have e1 : xs.take (i + 1) = xs.take i ++ [xs.getD i Str.empty] := by
        rw [List.take_add_one, List.getD_eq_getElem?_getD, List.getElem?_eq_getElem (show i < xs.length by omega)]
        rfl
      refine SetOf_congr hS2 (fun k' => ?_) (by rfl)
      show ((xs.take i).any (· == k') || decide (k' = xs.getD i Str.empty)) = (xs.take (i + 1)).any (· == k')
      rw [e1, List.any_append]
      congr 1
      by_cases e : k' = xs.getD i Str.empty
      · subst e
        simp
      · have hb : (xs.getD i Str.empty == k') = false := by simpa [beq_iff_eq] using (fun h' : xs.getD i Str.empty = k' => e h'.symm)
        rw [decide_eq_false e, List.any_cons, hb]
        rfl
    refine wpAny_pure ⟨plainId_quiet PyProof.Rows.F.plain_set_update_loop _, ih (i + 1) _ (by omega) hlt (W.frame _ s' _ _ hst' (Nat.le_succ _) fun b hb o e => ?_) hSi fun s'' hm'' hS'' => ?_⟩
    · exact (sb.2 b (fun h : b = S => nS (by rw [← h]; exact hb))).trans e
    · exact hR s'' (Moved.trans W.gtrans ((hm.mono up).then_heap (Nat.le_succ _) fun b o hb e => (sb.2 b (fun h : b = S => hb (by rw [h]; exact List.mem_cons_self))).trans e) hm'') hS''
end
section
variable {prog : Program} {w : World} {A : Around} {E : Value → Shared → Prop} {s : Shared}
set_option maxHeartbeats 6400000 in
/-- set(v), where v is walked and gives the texts xs -/
theorem call_setW {v : Value} {T : String} {fp : List Addr} {Q : Value → Shared → Prop} {xs : List Str} (hh : A.handled = none) (hT : ∀ s' : Shared, (∀ b o, s.heap.get? b = some o → s'.heap.get? b = some o) → s'.TypeIs v T)
    (u1 : isSubtype (.type T) (.type "set") = pure false) (u2 : isSubtype (.type T) (.type "frozenset") = pure false) (u3 : (Value.type T == Value.type "dict") = false) (hroom : xs.length + 1 < scanBound) (hfp : ∀ b ∈ fp, b < s.heap.objs.size)
    (itr : ∀ (A' : Around) (E' : Value → Shared → Prop) (Q' : Value → Shared → Prop) (s' : Shared), (∀ b o, s.heap.get? b = some o → s'.heap.get? b = some o) → s.heap.objs.size < s'.heap.objs.size →
      (∀ (o : Obj) (St : Nat → Heap → Prop) (Pf : Nat → Value → Prop), (∀ A'' : Around, A''.handled = none → Walks prog w A'' s'.heap.objs.size (s'.heap.objs.size :: fp) [s'.heap.objs.size] xs.length Pf St) → St 0 (s'.heap.push o) →
        (∀ i y, Pf i y → ∃ t, y = .str (xs.getD i Str.empty) t) → Q' (.ref s'.heap.objs.size) { s' with heap := s'.heap.push o }) → wpAny (model prog w) A' (pyIter v) Q' E' s')
    (h : ∀ (h' : Heap) (tk : Nat), Holds prog w h' s.heap.objs.size xs xs.length → (∀ b o, b < s.heap.objs.size → s.heap.get? b = some o → h'.get? b = some o) → Q (.ref s.heap.objs.size) { s with heap := h', toks := tk }) :
    wpAny (model prog w) A (call (.type "set") [v]) Q E s := by
  obtain ⟨c, tl, hmro⟩ := PySem.F.called_set.mro
  have k0 := PySem.F.called_set.made
  have k1 := PySem.F.called_set.sub
  refine wpAny_call (codeAny_of_tree ?_)
  show wpAny _ _ (callAny (.type "set") _) _ _ _
  refine wpAny_pure ⟨Code.quiet_builtin _ (by decide +kernel), codeAny_builtin PySem.F.entry_type_call ?_⟩
  rw [Around.under_plain (weight_type_call_type "set" [v] []) rfl]
  have k2 := PySem.F.called_set.notType
  have k3 := PySem.F.called_set.canCreate
  have k4 := PySem.F.typeCall_set_1 v
  repeat (any_goals (first | assumption | wp_step))
  refine codeAny_mono (code_set_new_1 v (E := E) (Q₁ := fun obj s₁ => ∃ led : Bool, obj = .ref s.heap.objs.size ∧ s₁ = { s with heap := s.heap.push { cls := .type "set", dict := none, data := .set #[] 0 (.fresh 0 0 led) } }) fun led => ⟨led, rfl, rfl⟩) fun r s₁ hr => ?_
  cases r with
  | error e => exact hr
  | ok fl =>
    cases fl with
    | next => exact hr.elim
    | brk => exact hr.elim
    | cont => exact hr.elim
    | ret obj =>
      obtain ⟨led, rfl, rfl⟩ := hr
      have hS : (s.heap.push { cls := .type "set", dict := none, data := .set #[] 0 (.fresh 0 0 led) }).get? s.heap.objs.size = some { cls := .type "set", dict := none, data := .set #[] 0 (.fresh 0 0 led) } := Heap.get?_push_size _ rfl
      have hTS : Shared.TypeIs { s with heap := s.heap.push { cls := .type "set", dict := none, data := .set #[] 0 (.fresh 0 0 led) } } (.ref s.heap.objs.size) "set" := ⟨_, hS, rfl⟩
      have k5 := PySem.F.called_set.init.lookup
      have k6 := PySem.F.called_set.init.bind (.ref s.heap.objs.size)
      repeat (any_goals (first | assumption | wp_step))
      have kp : ∀ b o, s.heap.get? b = some o → (s.heap.push { cls := .type "set", dict := none, data := .set #[] 0 (.fresh 0 0 led) }).get? b = some o := fun b o e => Heap.get?_push_of_some _ e
      have sz1 : (s.heap.push { cls := .type "set", dict := none, data := .set #[] 0 (.fresh 0 0 led) }).objs.size = s.heap.objs.size + 1 := Heap.size_push ..
      refine codeAny_mono (codeAny_call_builtin (R := wants (fun r s₂ => r = .none ∧ ∃ h' tk, s₂ = { s with heap := h', toks := tk } ∧ Holds prog w h' s.heap.objs.size xs xs.length ∧
          (∀ b o, b < s.heap.objs.size → s.heap.get? b = some o → h'.get? b = some o)) E) PySem.F.called_set.init.plain PySem.F.entry_set_init (check_set_init_1 hTS ?_)) fun r₂ s₂ hr₂ => ?_
      · have hTv := hT { s with heap := s.heap.push { cls := .type "set", dict := none, data := .set #[] 0 (.fresh 0 0 led) } } kp
        unfold Builtin.«set.__init__» noKeywords
        generalize hUF : Builtin.Frozenset.updateFrom = UF
        wp_walk
        subst hUF
        unfold Builtin.Frozenset.updateFrom Builtin.Frozenset.isAnySet
        generalize hPI : pyIter = PI
        wp_walk
        subst hPI
        refine itr _ _ _ _ kp (by show s.heap.objs.size < (s.heap.push _).objs.size; rw [sz1]; exact Nat.lt_succ_self _) fun o St Pf W hst hval => ?_
        refine wpAny_bind (wpAny_runValue ?_)
        have nSf : s.heap.objs.size ∉ ((s.heap.push { cls := .type "set", dict := none, data := .set #[] 0 (.fresh 0 0 led) }).objs.size :: fp) := by
          intro hm
          rcases List.mem_cons.mp hm with z | z
          · rw [sz1] at z
            exact absurd z (Nat.ne_of_lt (Nat.lt_succ_self _))
          · exact Nat.lt_irrefl _ (hfp _ z)
        refine setLoop (W A.in1.in1.in1 (by simp [hh])).toS s.heap.objs.size nSf xs rfl hroom hval (xs.length - 0) 0 _ (by omega) (Nat.zero_le _) hst ?_ fun s' hm hS' => ?_
        · have hget : ((s.heap.push { cls := .type "set", dict := none, data := .set #[] 0 (.fresh 0 0 led) }).push o).get? s.heap.objs.size = some { cls := .type "set", dict := none, data := .set #[] 0 (.fresh 0 0 led) } := Heap.get?_push_of_some _ hS
          exact PyProof.Rows.SetOf_congr ((PyProof.Rows.setObjOf_fresh (knd := PySem.strKind prog w) led).setOf hget (by unfold scanBound; omega)) (fun _ => rfl) rfl
        · obtain ⟨h', g', d', tk', os'⟩ := s'
          obtain rfl : g' = s.gens := hm.gens
          obtain rfl : d' = s.drawn := hm.drawn
          obtain rfl : os' = s.os := hm.os
          refine wpAny_pure ?_
          show wpAny _ _ (ret Value.none) _ _ _
          refine wpAny_pure ⟨rfl, h', tk', rfl, hS', fun b o2 hb e => hm.heap b o2 (fun hc => ?_) (Heap.get?_push_of_some _ (kp b o2 e))⟩
          rcases List.mem_cons.mp hc with z | z
          · exact Nat.ne_of_lt hb z
          · rw [List.mem_singleton.mp z, sz1] at hb
            exact absurd hb (by omega)
      · cases r₂ with
        | error e => exact hr₂
        | ok fl₂ =>
          cases fl₂ with
          | next => exact hr₂.elim
          | brk => exact hr₂.elim
          | cont => exact hr₂.elim
          | ret r =>
            obtain ⟨rfl, h', tk, rfl, hS', hk'⟩ := hr₂
            repeat (any_goals (first | assumption | wp_step))
            exact h _ _ hS' hk'
end
end Zn
set_option Elab.async false
set_option linter.all false
set_option maxRecDepth 100000
set_option maxHeartbeats 4000000
namespace Zn
open PySem PySem.Spec PyProof.Rows L2 GxR
/-- the signs of a text, each a text of one -/
def sgn (z : Str) : List Str := z.cps.toList.map fun c => ⟨#[c]⟩
theorem sgn_length (z : Str) : (sgn z).length = z.cps.size := by
  unfold sgn
  rw [List.length_map, Array.length_toList]
theorem signs_sgn (z : Str) : signs z = (sgn z).map V.str := by
  unfold signs sgn
  rw [List.map_map]
  rfl
section
variable {X : Cx}
theorem boot_set' : bootBuiltins "set" = some (.type "set") := by decide +kernel
/-- len(set(x)) of a text, or of a list of texts -/
def tLenSetT (K : PySem.W.Frag) (ta : TE) : TE := fun σ H Q => ta σ H fun x H1 => ∃ ws : List Str, ((∃ z, x = .str z ∧ ws = sgn z) ∨ ∃ l, x = .ref l ∧ SqL K H1 l (ws.map V.str)) ∧ ws.length ≤ 4000 ∧ Q (.int (dcnt ws ws.length : Nat)) H1
theorem pe_lenSetT {a : Expr} {ta : TE} {p p2 q pos : Pos} (hc : X.calm = true) (hg : Gl X "len") (hm : X.mg "len" = none) (hg2 : Gl X "set") (hm2 : X.mg "set" = none) (ha : PE X a ta)
    (na : starEach [a] X.env = (false, eval a X.env) :: starEach [] X.env := by rfl) : PE X (.Call (.Name "len" p) [.Call (.Name "set" p2) [a] [] q] [] pos) (tLenSetT X.K ta) := by
  refine ⟨fun pins s σ H Q I h => ?_⟩
  refine Call_ (ld_blt I hg hm boot_len (callWith_builtin1 (args_cons ?_ rfl) rfl rfl))
  refine Call_ (ld_blt I hg2 hm2 boot_set' (callWith_type1 (args_cons (thn (ha.run pins s σ H _ I h) fun v s1 hv => args_nil ?_) na) na rfl))
  obtain ⟨x, H1, I1, r1, ws, hx, hl, q1⟩ := hv
  have fin : ∀ (h' : Heap) (tk : Nat), Holds X.prog X.w h' s1.heap.objs.size ws ws.length → (∀ b o, b < s1.heap.objs.size → s1.heap.get? b = some o → h'.get? b = some o) →
      wpAny (model X.prog X.w) X.A (spliced (backTo pos (starEach [] X.env))) (fun vs s₂ => wpAny (model X.prog X.w) X.A (call (.builtin "len") (Value.ref s1.heap.objs.size :: vs)) (EP X pins σ Q) X.xe s₂) X.xe { s1 with heap := h', toks := tk } := by
    intro h' tk hS hk
    obtain ⟨o, es, ep, t, ho, hex, hd, _, _, _, hf, hn⟩ := hS
    have hdl := dcnt_le ws ws.length
    have I2 : Inv X pins σ H1 { s1 with heap := h', toks := tk } := I1.kept fun b o e => hk b o (Heap.lt_size e) e
    exact args_nil (call_len_set ho hex hd hf (by rw [hn]; omega) ⟨.int _, H1, I2.tok _, ⟨_, by rw [hn]⟩, q1⟩)
  have room : ws.length + 1 < scanBound := by unfold scanBound; omega
  rcases hx with ⟨z, rfl, rfl⟩ | ⟨l, rfl, hq⟩
  · obtain ⟨t, rfl⟩ := r1
    refine call_setW (T := "str") (fp := []) (xs := sgn z) (I1.ok.hd hc) (fun s' _ => typeIs_str s' z t) F.sub_str_set F.sub_str_frozenset (by decide) room (fun b hb => by cases hb) (fun A' E' Q' s' hk hlt g => ?_) fin
    refine wpAny_pyIter_str fun o St W hst => g o St _ (fun A'' hA => by rw [sgn_length]; exact W A'' hA) hst fun i y hy => ?_
    obtain ⟨c, u, hc', rfl⟩ := hy
    refine ⟨u, ?_⟩
    have : (sgn z).getD i Str.empty = ⟨#[c]⟩ := by
      unfold sgn
      have h2 : z.cps.toList[i]? = some c := by rw [Array.getElem?_toList]; exact hc'
      rw [List.getD_eq_getElem?_getD, List.getElem?_map, h2]
      rfl
    rw [this]
  · cases r1
    obtain ⟨its, r, pl, hz⟩ := I1.list hq
    have hi := strsAre_of r
    have hlen : its.length = ws.length := by rw [← r.length, List.length_map]
    have hlt : l < s1.heap.objs.size := pl.lt
    have hil : s1.heap.IsList l its.toArray := pl.isList
    refine call_setW (T := "list") (fp := [l]) (xs := ws) (I1.ok.hd hc) (fun s' hk => (hil.at fun o e => hk l o e).typeIs) F.sub_list_set F.sub_list_frozenset (by decide) room (fun b hb => by rw [List.mem_singleton.mp hb]; exact hlt) (fun A' E' Q' s' hk hlt2 g => ?_) fin
    have hl2 : s'.heap.IsList l its.toArray := hil.at fun o e => hk l o e
    have hne : l ≠ s'.heap.objs.size := Nat.ne_of_lt (Nat.lt_trans hlt hlt2)
    refine wpAny_pyIter_list hl2 ?_
    refine g _ (fun i h => h.IsListIter s'.heap.objs.size l i ∧ h.IsList l its.toArray) (fun i v => its.toArray[i]? = some v) (fun A'' hA => ?_) ⟨⟨_, Heap.get?_push_size _ rfl, rfl, rfl⟩, hl2.push _⟩ fun i y hy => SS.strs_at hi i y (by simpa using hy)
    have W := Walks.list (prog := X.prog) (w := X.w) hA s'.heap.objs.size l hne its.toArray
    have e : its.toArray.size = ws.length := by rw [List.size_toArray]; exact hlen
    rw [e] at W
    exact W
end
end Zn
set_option Elab.async false
set_option linter.all false
set_option maxRecDepth 100000
set_option maxHeartbeats 4000000
/-! enumerate(zip(t, u)) of two tuples: the zip's own tuple is never let go, so the iterator may stand in either state. -/
namespace Zn
open PySem PySem.Spec PyProof.Rows L2 GxR
/-- a zip object, whatever it says of the tuple that it gave out last -/
def ZipAny (h : Heap) (z TI TO : Addr) : Prop := ∃ (own : Value) (fl : Bool), h.get? z = some { cls := .type "zip", data := .fields #[own, .bool fl, .bool false, .ref TI, .ref TO] } ∧ (own = .none ∨ ∃ a : Addr, own = rawInt a)
section
variable {prog : Program} {w : World} {A : Around} {E : Value → Shared → Prop} {s : Shared} {z TI TO i1 i2 : Addr} {fp1 fp2 : List Addr} {n1 n2 i : Nat} {P1 P2 : Nat → Value → Prop} {St1 St2 : Nat → Heap → Prop} {a1 a2 : Value}
theorem wpAny_loadIfAlive {M : Model} {a : Addr} {Q : Option Obj → Shared → Prop} (h : Q (s.heap.get? a) s) : wpAny M A (loadIfAlive a) Q E s := fun _ _ _ => h
/-- is the tuple free: either answer; only the flag may be set -/
theorem own_free {Q : Bool → Shared → Prop} {own : Value} {fl : Bool} (hz : s.heap.get? z = some { cls := .type "zip", data := .fields #[own, .bool fl, .bool false, .ref TI, .ref TO] }) (ho : own = .none ∨ ∃ a : Addr, own = rawInt a)
    (h : ∀ (b fl' : Bool) (h' : Heap), h'.get? z = some { cls := .type "zip", data := .fields #[own, .bool fl', .bool false, .ref TI, .ref TO] } → Heap.SameBut z s.heap h' → Q b { s with heap := h' }) :
    wpAny (model prog w) A (Builtin.SmallTypes.ownedTupleIsFree (.ref z)) Q E s := by
  unfold Builtin.SmallTypes.ownedTupleIsFree
  refine wpAny_bind (wpAny_field hz rfl (x := own) rfl ?_)
  have same : Heap.SameBut z s.heap s.heap := ⟨rfl, fun _ _ => rfl⟩
  rcases ho with rfl | ⟨a, rfl⟩
  · exact wpAny_pure (h true fl s.heap hz same)
  · refine wpAny_bind (wpAny_loadIfAlive ?_)
    cases hg : s.heap.get? (a : Int).toNat with
    | none => exact wpAny_pure (h true fl s.heap hz same)
    | some o =>
      simp only [Option.isNone_some, Bool.false_eq_true, if_false]
      refine wpAny_bind (wpAny_field hz rfl (x := .bool fl) rfl ?_)
      cases fl with
      | true =>
        rw [if_neg (by decide)]
        exact wpAny_pure (h false true s.heap hz same)
      | false =>
        rw [if_pos (by decide)]
        refine wpAny_bind (wpAny_setField_rec hz (by simp) fun h' hz' sb => wpAny_pure (h false true h' hz' sb))
theorem zipAny_item {Q : Value → Shared → Prop} (S : ZipSep2 z TI TO i1 i2 fp1 fp2) (D1 : Draws prog w A i1 fp1 n1 P1 St1) (D2 : Draws prog w A i2 fp2 n2 P2 St2)
    (hz : ZipAny s.heap z TI TO) (hTI : IsTupOf2 s.heap TI (.ref i1) (.ref i2)) (hTO : IsTupOf2 s.heap TO a1 a2) (st1 : St1 i s.heap) (st2 : St2 i s.heap) (lt1 : i < n1) (lt2 : i < n2)
    (hQ : ∀ x1 x2 h' tk, P1 i x1 → P2 i x2 → ZipAny h' z TI TO → (∃ y1 y2, IsTupOf2 h' TO y1 y2) → St1 (i + 1) h' → St2 (i + 1) h' → IsTupOf2 h' s.heap.objs.size x1 x2 → h'.objs.size = s.heap.objs.size + 1 →
      (∀ c o, c ≠ z → c ≠ TO → c ≠ i1 → c ≠ i2 → s.heap.get? c = some o → h'.get? c = some o) → Q (.ref s.heap.objs.size) { s with heap := h', toks := tk }) :
    wpAny (model prog w) A (Builtin.«zip.__next__» ⟨[.ref z], []⟩) (fun fin s' => ∃ v, fin = .done (.ret v) ∧ Q v s') E s := by
  obtain ⟨hp, g, d, tk0, os⟩ := s
  obtain ⟨own, fl, hz, ho⟩ := hz
  show wpAny _ _ (field (.ref z) 2 >>= _) _ _ _
  refine wpAny_bind (wpAny_field hz rfl (x := .bool false) rfl ?_)
  show wpAny _ _ (field (.ref z) 3 >>= _) _ _ _
  refine wpAny_bind (wpAny_field hz rfl (x := .ref TI) rfl (wpAny_bind (wpAny_seqItems hTI rfl ?_)))
  show wpAny _ _ (Builtin.SmallTypes.ownedTupleIsFree (.ref z) >>= _) _ _ _
  refine wpAny_bind (own_free hz ho fun b fl' f0 hzf sf => ?_)
  replace sf : Heap.SameBut z hp f0 := sf
  have hTIf : IsTupOf2 f0 TI (.ref i1) (.ref i2) := sf.extBut _ _ S.TIz hTI
  have hTOf : IsTupOf2 f0 TO a1 a2 := sf.extBut _ _ S.TOz hTO
  have s1f := D1.over st1 sf S.zf1
  have s2f := D2.over st2 sf S.zf2
  have szf : f0.objs.size = hp.objs.size := sf.1
  cases b with
  | true =>
    simp only [if_true]
    refine wpAny_bind (wpAny_rule (wpAny_bind (wpAny_field hzf rfl (x := .ref TO) rfl ?_)))
    refine wpAny_bind (wpAny_setField_rec hzf (by simp) fun g0 hz0 hs0 => ?_)
    replace hz0 : g0.get? z = some { cls := .type "zip", data := .fields #[.ellipsis, .bool fl', .bool false, .ref TI, .ref TO] } := hz0
    replace hs0 : Heap.SameBut z f0 g0 := hs0
    refine wpAny_bind ?_
    simp only [List.zipIdx_cons, List.zipIdx_nil, List.forIn_cons, List.forIn_nil]
    refine wpAny_bind (wpAny_bind (wpAny_onRaise ?_))
    show wpAny _ _ (Builtin.SmallTypes.nextOf (.ref i1) >>= _) _ _ ⟨g0, g, d, tk0, os⟩
    refine wpAny_bind (D1.item i _ _ _ lt1 (D1.over s1f hs0 S.zf1) fun x1 p1 tk1 hx1 sn1 hp1 => wpAny_pure ?_)
    replace hp1 : Heap.SameBut i1 g0 p1 := hp1
    have hU1 : IsTupOf2 p1 TO a1 a2 := hp1.extBut _ _ S.Ti1 (hs0.extBut _ _ S.TOz hTOf)
    refine wpAny_bind (wpAny_seqItems (s := ⟨p1, g, d, tk1, os⟩) hU1 rfl (wpAny_bind (updateSeq_IsTupOf2 (s := ⟨p1, g, d, tk1, os⟩) hU1 fun g1 hT1 hs1 => ?_)))
    replace hT1 : IsTupOf2 g1 TO x1 a2 := hT1
    replace hs1 : Heap.SameBut TO p1 g1 := hs1
    refine wpAny_bind (wpAny_letGo (wpAny_pure (wpAny_bind (wpAny_bind (wpAny_onRaise ?_)))))
    show wpAny _ _ (Builtin.SmallTypes.nextOf (.ref i2) >>= _) _ _ ⟨g1, g, d, tk1, os⟩
    refine wpAny_bind (D2.item i _ _ _ lt2 (D2.over (D2.over (D2.over s2f hs0 S.zf2) hp1 S.sep1_2) hs1 S.Tf2) fun x2 p2 tk2 hx2 sn2 hp2 => wpAny_pure ?_)
    replace hp2 : Heap.SameBut i2 g1 p2 := hp2
    have hU2 : IsTupOf2 p2 TO x1 a2 := hp2.extBut _ _ S.Ti2 hT1
    refine wpAny_bind (wpAny_seqItems (s := ⟨p2, g, d, tk2, os⟩) hU2 rfl (wpAny_bind (updateSeq_IsTupOf2 (s := ⟨p2, g, d, tk2, os⟩) hU2 fun g2 hT2 hs2 => ?_)))
    replace hT2 : IsTupOf2 g2 TO x1 x2 := hT2
    replace hs2 : Heap.SameBut TO p2 g2 := hs2
    refine wpAny_bind (wpAny_letGo (wpAny_pure (wpAny_pure (wpAny_bind (wpAny_seqItems (s := ⟨g2, g, d, tk2, os⟩) hT2 rfl (wpAny_bind (wpAny_newTuple ?_)))))))
    have hsz : g2.objs.size = hp.objs.size := by rw [hs2.1, hp2.1, hs1.1, hp1.1, hs0.1, szf]
    have hzz : g2.get? z = some { cls := .type "zip", data := .fields #[.ellipsis, .bool fl', .bool false, .ref TI, .ref TO] } := hs2.extBut _ _ S.TOz.symm (hp2.extBut _ _ S.zi2 (hs1.extBut _ _ S.TOz.symm (hp1.extBut _ _ S.zi1 hz0)))
    have hkk : ∀ c o, c ≠ z → c ≠ TO → c ≠ i1 → c ≠ i2 → hp.get? c = some o → g2.get? c = some o := fun c o cz cT c1 c2 e =>
      hs2.extBut _ _ cT (hp2.extBut _ _ c2 (hs1.extBut _ _ cT (hp1.extBut _ _ c1 (hs0.extBut _ _ cz (sf.extBut _ _ cz e)))))
    have hj1 : St1 (i + 1) g2 := D1.over (D1.over (D1.over sn1 hs1 S.Tf1) hp2 S.sep2_1) hs2 S.Tf1
    have hj2 : St2 (i + 1) g2 := D2.over sn2 hs2 S.Tf2
    have hzlt : z < g2.objs.size := Heap.lt_size hzz
    show wpAny _ _ (Builtin.SmallTypes.ownedTupleHandOut (.ref z) (.ref g2.objs.size) >>= _) _ _ ⟨g2.push { cls := .type "tuple", data := .seq #[x1, x2] }, g, d, tk2, os⟩
    refine wpAny_bind ?_
    unfold Builtin.SmallTypes.ownedTupleHandOut
    have hz6 : (g2.push { cls := .type "tuple", data := .seq #[x1, x2] }).get? z = some { cls := .type "zip", data := .fields #[.ellipsis, .bool fl', .bool false, .ref TI, .ref TO] } := Heap.get?_push_of_some _ hzz
    refine wpAny_bind (wpAny_setField_rec hz6 (by simp) fun h7 hz7 hs7 => ?_)
    replace hz7 : h7.get? z = some { cls := .type "zip", data := .fields #[rawInt g2.objs.size, .bool fl', .bool false, .ref TI, .ref TO] } := hz7
    refine wpAny_setField_rec hz7 (by simp) fun h8 hz8 hs8 => ?_
    replace hz8 : h8.get? z = some { cls := .type "zip", data := .fields #[rawInt g2.objs.size, .bool false, .bool false, .ref TI, .ref TO] } := hz8
    replace hs7 : Heap.SameBut z (g2.push { cls := .type "tuple", data := .seq #[x1, x2] }) h7 := hs7
    replace hs8 : Heap.SameBut z h7 h8 := hs8
    have up : ∀ c o, c ≠ z → g2.get? c = some o → h8.get? c = some o := fun c o c1 e => hs8.extBut _ _ c1 (hs7.extBut _ _ c1 (Heap.get?_push_of_some _ e))
    have hT8 : IsTupOf2 h8 g2.objs.size x1 x2 := hs8.extBut _ _ (Nat.ne_of_gt hzlt) (hs7.extBut _ _ (Nat.ne_of_gt hzlt) (Heap.get?_push_size _ rfl))
    have hz9 : h8.objs.size = g2.objs.size + 1 := by rw [hs8.1, hs7.1, Heap.size_push]
    rw [hsz] at hz8 hT8 hz9
    refine wpAny_pure ⟨_, rfl, ?_⟩
    show Q (.ref g2.objs.size) ⟨h8, g, d, tk2, os⟩
    rw [hsz]
    exact hQ x1 x2 h8 tk2 hx1 hx2 ⟨_, _, hz8, .inr ⟨_, rfl⟩⟩ ⟨_, _, up _ _ S.TOz hT2⟩ (D1.frame _ _ _ hj1 fun b hb o e => up b o (fun q => S.zf1 (q ▸ hb)) e) (D2.frame _ _ _ hj2 fun b hb o e => up b o (fun q => S.zf2 (q ▸ hb)) e) hT8 hz9 fun c o cz cT c1 c2 e => up c o cz (hkk c o cz cT c1 c2 e)
  | false =>
    simp only [Bool.false_eq_true, if_false]
    refine wpAny_bind ?_
    simp only [← Array.forIn_toList, List.forIn_cons, List.forIn_nil]
    refine wpAny_bind (wpAny_bind (wpAny_holding ?_))
    show wpAny _ _ (Builtin.SmallTypes.nextOf (.ref i1) >>= _) _ _ ⟨f0, g, d, tk0, os⟩
    refine wpAny_bind (D1.item i _ _ _ lt1 s1f fun x1 p1 tk1 hx1 sn1 hp1 => wpAny_pure ?_)
    replace hp1 : Heap.SameBut i1 f0 p1 := hp1
    refine wpAny_pure (wpAny_bind (wpAny_bind (wpAny_holding ?_)))
    show wpAny _ _ (Builtin.SmallTypes.nextOf (.ref i2) >>= _) _ _ ⟨p1, g, d, tk1, os⟩
    refine wpAny_bind (D2.item i _ _ _ lt2 (D2.over s2f hp1 S.sep1_2) fun x2 p2 tk2 hx2 sn2 hp2 => wpAny_pure ?_)
    replace hp2 : Heap.SameBut i2 p1 p2 := hp2
    refine wpAny_pure (wpAny_pure ?_)
    refine wpAny_bind (wpAny_newTuple ?_ (by show 2 ≤ sizeLine; decide))
    show wpAny _ _ (ret (.ref p2.objs.size)) _ _ ⟨p2.push { cls := .type "tuple", data := .seq #[x1, x2] }, g, d, tk2, os⟩
    have hsz : p2.objs.size = hp.objs.size := by rw [hp2.1, hp1.1, szf]
    have up : ∀ c o, p2.get? c = some o → (p2.push { cls := .type "tuple", data := .seq #[x1, x2] }).get? c = some o := fun c o e => Heap.get?_push_of_some _ e
    have hkk : ∀ c o, c ≠ z → c ≠ i1 → c ≠ i2 → hp.get? c = some o → p2.get? c = some o := fun c o cz c1 c2 e => hp2.extBut _ _ c2 (hp1.extBut _ _ c1 (sf.extBut _ _ cz e))
    have hzp : p2.get? z = some { cls := .type "zip", data := .fields #[own, .bool fl', .bool false, .ref TI, .ref TO] } := hp2.extBut _ _ S.zi2 (hp1.extBut _ _ S.zi1 hzf)
    have hT : (p2.push { cls := .type "tuple", data := .seq #[x1, x2] }).get? p2.objs.size = some { cls := .type "tuple", data := .seq #[x1, x2] } := Heap.get?_push_size _ rfl
    have hsz2 : (p2.push { cls := .type "tuple", data := .seq #[x1, x2] }).objs.size = hp.objs.size + 1 := by rw [Heap.size_push, hsz]
    rw [hsz] at hT
    refine wpAny_pure ⟨_, rfl, ?_⟩
    show Q (.ref p2.objs.size) _
    rw [hsz]
    exact hQ x1 x2 _ tk2 hx1 hx2 ⟨_, _, up _ _ hzp, ho⟩ ⟨_, _, up _ _ (hp2.extBut _ _ S.Ti2 (hp1.extBut _ _ S.Ti1 hTOf))⟩ (D1.frame _ _ _ (D1.over sn1 hp2 S.sep2_1) fun b hb o e => up b o e) (D2.frame _ _ _ sn2 fun b hb o e => up b o e) hT hsz2 fun c o cz cT c1 c2 e => up c o (hkk c o cz c1 c2 e)
theorem zipAny_end {Q : Fin → Shared → Prop} (S : ZipSep2 z TI TO i1 i2 fp1 fp2) (D1 : Draws prog w A i1 fp1 n1 P1 St1) (D2 : Draws prog w A i2 fp2 n2 P2 St2)
    (hz : ZipAny s.heap z TI TO) (hTI : IsTupOf2 s.heap TI (.ref i1) (.ref i2)) (hTO : IsTupOf2 s.heap TO a1 a2) (st1 : St1 i s.heap) (st2 : St2 i s.heap) (le1 : i ≤ n1) (le2 : i ≤ n2) (hend : i = n1 ∨ i = n2)
    (hE : ∀ h' tk e, (∀ c o, c ≠ z → c ≠ TO → c ≠ i1 → c ≠ i2 → s.heap.get? c = some o → h'.get? c = some o) → (∃ o, h'.get? e = some o ∧ o.cls = .type "StopIteration") → E (.ref e) { s with heap := h', toks := tk }) :
    wpAny (model prog w) A (Builtin.«zip.__next__» ⟨[.ref z], []⟩) Q E s := by
  obtain ⟨hp, g, d, tk0, os⟩ := s
  obtain ⟨own, fl, hz, ho⟩ := hz
  show wpAny _ _ (field (.ref z) 2 >>= _) _ _ _
  refine wpAny_bind (wpAny_field hz rfl (x := .bool false) rfl ?_)
  show wpAny _ _ (field (.ref z) 3 >>= _) _ _ _
  refine wpAny_bind (wpAny_field hz rfl (x := .ref TI) rfl (wpAny_bind (wpAny_seqItems hTI rfl ?_)))
  show wpAny _ _ (Builtin.SmallTypes.ownedTupleIsFree (.ref z) >>= _) _ _ _
  refine wpAny_bind (own_free hz ho fun b fl' f0 hzf sf => ?_)
  replace sf : Heap.SameBut z hp f0 := sf
  have hTOf : IsTupOf2 f0 TO a1 a2 := sf.extBut _ _ S.TOz hTO
  have s1f := D1.over st1 sf S.zf1
  have s2f := D2.over st2 sf S.zf2
  cases b with
  | true =>
    simp only [if_true]
    refine wpAny_bind (wpAny_rule (wpAny_bind (wpAny_field hzf rfl (x := .ref TO) rfl ?_)))
    refine wpAny_bind (wpAny_setField_rec hzf (by simp) fun g0 hz0 hs0 => ?_)
    replace hz0 : g0.get? z = some { cls := .type "zip", data := .fields #[.ellipsis, .bool fl', .bool false, .ref TI, .ref TO] } := hz0
    replace hs0 : Heap.SameBut z f0 g0 := hs0
    refine wpAny_bind ?_
    simp only [List.zipIdx_cons, List.zipIdx_nil, List.forIn_cons, List.forIn_nil]
    refine wpAny_bind (wpAny_bind (wpAny_onRaise ?_))
    show wpAny _ _ (Builtin.SmallTypes.nextOf (.ref i1) >>= _) _ _ ⟨g0, g, d, tk0, os⟩
    by_cases lt1 : i < n1
    · refine wpAny_bind (D1.item i _ _ _ lt1 (D1.over s1f hs0 S.zf1) fun x1 p1 tk1 hx1 sn1 hp1 => wpAny_pure ?_)
      replace hp1 : Heap.SameBut i1 g0 p1 := hp1
      have hU1 : IsTupOf2 p1 TO a1 a2 := hp1.extBut _ _ S.Ti1 (hs0.extBut _ _ S.TOz hTOf)
      refine wpAny_bind (wpAny_seqItems (s := ⟨p1, g, d, tk1, os⟩) hU1 rfl (wpAny_bind (updateSeq_IsTupOf2 (s := ⟨p1, g, d, tk1, os⟩) hU1 fun g1 hT1 hs1 => ?_)))
      replace hs1 : Heap.SameBut TO p1 g1 := hs1
      have hi2 : i = n2 := by omega
      refine wpAny_bind (wpAny_letGo (wpAny_pure (wpAny_bind (wpAny_bind (wpAny_onRaise ?_)))))
      show wpAny _ _ (Builtin.SmallTypes.nextOf (.ref i2) >>= _) _ _ ⟨g1, g, d, tk1, os⟩
      refine wpAny_bind (D2.done ⟨g1, g, d, tk1, os⟩ _ _ (by rw [← hi2]; exact D2.over (D2.over (D2.over s2f hs0 S.zf2) hp1 S.sep1_2) hs1 S.Tf2) fun q e hq he => ?_)
      replace hq : Heap.ExtBut i2 g1 q := hq
      obtain ⟨oe, hoe, hce⟩ := he
      replace hoe : q.get? e = some oe := hoe
      have hzq : q.get? z = some { cls := .type "zip", data := .fields #[.ellipsis, .bool fl', .bool false, .ref TI, .ref TO] } := hq _ _ S.zi2 (hs1.extBut _ _ S.TOz.symm (hp1.extBut _ _ S.zi1 hz0))
      have hez : e ≠ z := fun x => by subst x; rw [hzq] at hoe; cases hoe; simp at hce
      refine wpAny_setField_rec (s := ⟨q, g, d, tk1, os⟩) hzq (by simp) fun q' _ hq' => ?_
      replace hq' : Heap.SameBut z q q' := hq'
      exact hE q' tk1 e (fun c o cz cT c1 c2 x => hq'.extBut _ _ cz (hq _ _ c2 (hs1.extBut _ _ cT (hp1.extBut _ _ c1 (hs0.extBut _ _ cz (sf.extBut _ _ cz x)))))) ⟨oe, hq'.extBut _ _ hez hoe, hce⟩
    · have hi1 : i = n1 := by omega
      refine wpAny_bind (D1.done ⟨g0, g, d, tk0, os⟩ _ _ (by rw [← hi1]; exact D1.over s1f hs0 S.zf1) fun q e hq he => ?_)
      replace hq : Heap.ExtBut i1 g0 q := hq
      obtain ⟨oe, hoe, hce⟩ := he
      replace hoe : q.get? e = some oe := hoe
      have hzq : q.get? z = some { cls := .type "zip", data := .fields #[.ellipsis, .bool fl', .bool false, .ref TI, .ref TO] } := hq _ _ S.zi1 hz0
      have hez : e ≠ z := fun x => by subst x; rw [hzq] at hoe; cases hoe; simp at hce
      refine wpAny_setField_rec (s := ⟨q, g, d, tk0, os⟩) hzq (by simp) fun q' _ hq' => ?_
      replace hq' : Heap.SameBut z q q' := hq'
      exact hE q' tk0 e (fun c o cz cT c1 c2 x => hq'.extBut _ _ cz (hq _ _ c1 (hs0.extBut _ _ cz (sf.extBut _ _ cz x)))) ⟨oe, hq'.extBut _ _ hez hoe, hce⟩
  | false =>
    simp only [Bool.false_eq_true, if_false]
    refine wpAny_bind ?_
    simp only [← Array.forIn_toList, List.forIn_cons, List.forIn_nil]
    refine wpAny_bind (wpAny_bind (wpAny_holding ?_))
    show wpAny _ _ (Builtin.SmallTypes.nextOf (.ref i1) >>= _) _ _ ⟨f0, g, d, tk0, os⟩
    by_cases lt1 : i < n1
    · refine wpAny_bind (D1.item i _ _ _ lt1 s1f fun x1 p1 tk1 hx1 sn1 hp1 => wpAny_pure ?_)
      replace hp1 : Heap.SameBut i1 f0 p1 := hp1
      have hi2 : i = n2 := by omega
      refine wpAny_pure (wpAny_bind (wpAny_bind (wpAny_holding ?_)))
      show wpAny _ _ (Builtin.SmallTypes.nextOf (.ref i2) >>= _) _ _ ⟨p1, g, d, tk1, os⟩
      refine wpAny_bind (D2.done ⟨p1, g, d, tk1, os⟩ _ _ (by rw [← hi2]; exact D2.over s2f hp1 S.sep1_2) fun q e hq he => ?_)
      replace hq : Heap.ExtBut i2 p1 q := hq
      exact hE q tk1 e (fun c o cz cT c1 c2 x => hq _ _ c2 (hp1.extBut _ _ c1 (sf.extBut _ _ cz x))) he
    · have hi1 : i = n1 := by omega
      refine wpAny_bind (D1.done ⟨f0, g, d, tk0, os⟩ _ _ (by rw [← hi1]; exact s1f) fun q e hq he => ?_)
      replace hq : Heap.ExtBut i1 f0 q := hq
      exact hE q tk0 e (fun c o cz cT c1 c2 x => hq _ _ c1 (sf.extBut _ _ cz x)) he
/-- enumerate over an iterator whose next may make objects -/
theorem enum_next_any {e it : Addr} {c : Int} {old : Value} {wr : List Addr} {R : Value → Heap → Prop} {Q : Option Value → Shared → Prop} (he : IsEnum s.heap e it c old) (hew : e ∉ wr)
    (hnext : ∀ (A' : Around) (Q' : Value → Shared → Prop) (E' : Value → Shared → Prop), A'.handled = A.handled → (∀ x h1 tk, R x h1 → s.heap.objs.size ≤ h1.objs.size → (∀ b o, b ∉ wr → s.heap.get? b = some o → h1.get? b = some o) → Q' x { s with heap := h1, toks := tk }) → wpAny (model prog w) A' (Builtin.SmallTypes.nextOf (.ref it)) Q' E' s)
    (hQ : ∀ x h1 h' tk, R x h1 → s.heap.objs.size ≤ h1.objs.size → (∀ b o, b ∉ wr → s.heap.get? b = some o → h1.get? b = some o) → IsEnumOut h' e it (c + 1) x h1.objs.size → h'.get? h1.objs.size = some { cls := .type "tuple", data := .seq #[.int c tk, x] } →
      (∀ b o, b ≠ e → h1.get? b = some o → h'.get? b = some o) → Q (some (.ref h1.objs.size)) { s with heap := h', toks := tk + 1 }) :
    wpAny (model prog w) A (pyNext (.ref e)) Q E s := by
  have hT : s.TypeIs (.ref e) "enumerate" := ⟨_, he, rfl⟩
  unfold pyNext
  refine wpAny_bind (wpAny_attempt (wpAny_callSpecial?_slot (name := Str.ofString "__next__") hT F.slot_enumerate_next (wpAny_call_entry F.slot_enumerate_next hT F.entry_enumerate_next ?_ (F.args_enumerate_next_1 _))))
  obtain ⟨hp, g, d, tk0, os⟩ := s
  show wpAny _ _ (field (.ref e) 2 >>= _) _ _ _
  refine wpAny_bind (wpAny_field he rfl (x := .ref it) rfl (wpAny_bind (hnext _ _ _ rfl fun x h1 tk hR hge hk => ?_)))
  replace hge : hp.objs.size ≤ h1.objs.size := hge
  have he1 : IsEnum h1 e it c old := hk e _ hew he
  show wpAny _ _ (field (.ref e) 3 >>= _) _ _ ⟨h1, g, d, tk, os⟩
  refine wpAny_bind (wpAny_field he1 rfl (x := rawInt c) rfl ?_)
  show wpAny _ _ (field (.ref e) 4 >>= _) _ _ ⟨h1, g, d, tk, os⟩
  refine wpAny_bind (wpAny_field he1 rfl (x := .none) rfl ?_)
  show wpAny _ _ (mkInt c >>= _) _ _ ⟨h1, g, d, tk, os⟩
  refine wpAny_bind (wpAny_mkInt ?_)
  show wpAny _ _ (setField (.ref e) 3 (rawInt (c + 1)) >>= _) _ _ ⟨h1, g, d, tk + 1, os⟩
  refine wpAny_bind (wpAny_setField_rec he1 (by simp) fun h2 he2 hs2 => ?_)
  replace hs2 : Heap.SameBut e h1 h2 := hs2
  replace he2 : IsEnum h2 e it (c + 1) old := he2
  show wpAny _ _ (setField (.ref e) 4 .none >>= _) _ _ ⟨h2, g, d, tk + 1, os⟩
  refine wpAny_bind (wpAny_setField_rec he2 (by simp) fun h3 he3 hs3 => ?_)
  replace hs3 : Heap.SameBut e h2 h3 := hs3
  replace he3 : IsEnum h3 e it (c + 1) old := he3
  show wpAny _ _ (newTuple [.int c tk, x] >>= _) _ _ ⟨h3, g, d, tk + 1, os⟩
  refine wpAny_bind (wpAny_newTuple ?_)
  have hsz : h3.objs.size = h1.objs.size := by rw [hs3.1, hs2.1]
  have he4 : IsEnum (h3.push { cls := .type "tuple", data := .seq #[.int c tk, x] }) e it (c + 1) old := Heap.get?_push_of_some _ he3
  have ht4 : (h3.push { cls := .type "tuple", data := .seq #[.int c tk, x] }).get? h1.objs.size = some { cls := .type "tuple", data := .seq #[.int c tk, x] } := by rw [← hsz]; exact Heap.get?_push_size _ rfl
  have hk4 : ∀ b o, b ≠ e → h1.get? b = some o → (h3.push { cls := .type "tuple", data := .seq #[.int c tk, x] }).get? b = some o := fun b o hb q => Heap.get?_push_of_some _ (hs3.extBut b o hb (hs2.extBut b o hb q))
  have hel : e < h1.objs.size := Heap.lt_size he1
  generalize h3.push { cls := .type "tuple", data := .seq #[.int c tk, x] } = h4 at he4 ht4 hk4
  show wpAny _ _ (Builtin.SmallTypes.ownedTupleIsFree (.ref e) >>= _) _ _ ⟨h4, g, d, tk + 1, os⟩
  refine wpAny_bind ?_
  rw [hsz]
  unfold Builtin.SmallTypes.ownedTupleIsFree
  refine wpAny_bind (wpAny_field he4 rfl (x := .none) rfl (wpAny_pure ?_))
  simp only [if_true]
  refine wpAny_bind (wpAny_rule (wpAny_bind (wpAny_field he4 rfl (x := old) rfl (wpAny_bind (wpAny_setField_rec he4 (by simp) fun h5 he5 hs5 => ?_)))))
  replace hs5 : Heap.SameBut e h4 h5 := hs5
  replace he5 : IsEnum h5 e it (c + 1) x := he5
  show wpAny _ _ (Builtin.SmallTypes.ownedTupleHandOut (.ref e) (.ref h1.objs.size) >>= _) _ _ ⟨h5, g, d, tk + 1, os⟩
  refine wpAny_bind ?_
  unfold Builtin.SmallTypes.ownedTupleHandOut
  refine wpAny_bind (wpAny_setField_rec he5 (by simp) fun h6 he6 hs6 => ?_)
  replace hs6 : Heap.SameBut e h5 h6 := hs6
  replace he6 : IsEnumOut h6 e it (c + 1) x h1.objs.size := he6
  refine wpAny_setField_rec he6 (by simp) fun h7 he7 hs7 => ?_
  replace hs7 : Heap.SameBut e h6 h7 := hs7
  replace he7 : IsEnumOut h7 e it (c + 1) x h1.objs.size := he7
  refine wpAny_bind (wpAny_letGo (wpAny_pure ⟨_, rfl, wpAny_pure (hQ x h1 h7 tk hR hge hk he7 ?_ fun b o hb q => hs7.extBut b o hb (hs6.extBut b o hb (hs5.extBut b o hb (hk4 b o hb q))))⟩))
  have ne : h1.objs.size ≠ e := Nat.ne_of_gt hel
  exact hs7.extBut _ _ ne (hs6.extBut _ _ ne (hs5.extBut _ _ ne ht4))
end
end Zn
set_option Elab.async false
set_option linter.all false
set_option maxRecDepth 100000
set_option maxHeartbeats 4000000
namespace Zn
open PySem PySem.Spec PyProof.Rows L2 GxR
section
variable {prog : Program} {w : World} {A : Around} {E : Value → Shared → Prop} {s : Shared} {z TI TO i1 i2 : Addr} {fp1 fp2 : List Addr} {n1 n2 i : Nat} {P1 P2 : Nat → Value → Prop} {St1 St2 : Nat → Heap → Prop} {a1 a2 : Value}
theorem nextOf_zip {Q : Value → Shared → Prop} (S : ZipSep2 z TI TO i1 i2 fp1 fp2) (D1 : Draws prog w A.in1 i1 fp1 n1 P1 St1) (D2 : Draws prog w A.in1 i2 fp2 n2 P2 St2)
    (hz : ZipAny s.heap z TI TO) (hTI : IsTupOf2 s.heap TI (.ref i1) (.ref i2)) (hTO : IsTupOf2 s.heap TO a1 a2) (st1 : St1 i s.heap) (st2 : St2 i s.heap) (lt1 : i < n1) (lt2 : i < n2)
    (hQ : ∀ x1 x2 h' tk, P1 i x1 → P2 i x2 → ZipAny h' z TI TO → (∃ y1 y2, IsTupOf2 h' TO y1 y2) → St1 (i + 1) h' → St2 (i + 1) h' → IsTupOf2 h' s.heap.objs.size x1 x2 → h'.objs.size = s.heap.objs.size + 1 →
      (∀ c o, c ≠ z → c ≠ TO → c ≠ i1 → c ≠ i2 → s.heap.get? c = some o → h'.get? c = some o) → Q (.ref s.heap.objs.size) { s with heap := h', toks := tk }) :
    wpAny (model prog w) A (Builtin.SmallTypes.nextOf (.ref z)) Q E s := by
  have hT : s.TypeIs (.ref z) "zip" := by
    obtain ⟨own, fl, h, _⟩ := hz
    exact ⟨_, h, rfl⟩
  unfold Builtin.SmallTypes.nextOf
  refine wpAny_bind (wpAny_callSpecial?_slot (name := Str.ofString "__next__") hT F.slot_zip_next (wpAny_call_entry F.slot_zip_next hT F.entry_zip_next ?_ (F.args_zip_next_1 _)))
  exact zipAny_item S D1 D2 hz hTI hTO st1 st2 lt1 lt2 fun x1 x2 h' tk p1 p2 q1 q2 q3 q4 q5 q6 q7 => wpAny_pure (hQ x1 x2 h' tk p1 p2 q1 q2 q3 q4 q5 q6 q7)
theorem next_enum_zip_end {e : Addr} {c : Int} {old : Value} {Q : Option Value → Shared → Prop} (S : ZipSep2 z TI TO i1 i2 fp1 fp2) (D1 : Draws prog w A.in1.in1 i1 fp1 n1 P1 St1) (D2 : Draws prog w A.in1.in1 i2 fp2 n2 P2 St2) (he : IsEnum s.heap e z c old)
    (hz : ZipAny s.heap z TI TO) (hTI : IsTupOf2 s.heap TI (.ref i1) (.ref i2)) (hTO : IsTupOf2 s.heap TO a1 a2) (st1 : St1 i s.heap) (st2 : St2 i s.heap) (le1 : i ≤ n1) (le2 : i ≤ n2) (hend : i = n1 ∨ i = n2)
    (hQ : ∀ h' tk, (∀ c o, c ≠ z → c ≠ TO → c ≠ i1 → c ≠ i2 → s.heap.get? c = some o → h'.get? c = some o) → Q none { s with heap := h', toks := tk }) : wpAny (model prog w) A (pyNext (.ref e)) Q E s := by
  have hT : s.TypeIs (.ref e) "enumerate" := ⟨_, he, rfl⟩
  have hTz : s.TypeIs (.ref z) "zip" := by
    obtain ⟨own, fl, h, _⟩ := hz
    exact ⟨_, h, rfl⟩
  unfold pyNext
  refine wpAny_bind (wpAny_attempt (wpAny_callSpecial?_slot (name := Str.ofString "__next__") hT F.slot_enumerate_next (wpAny_call_entry F.slot_enumerate_next hT F.entry_enumerate_next ?_ (F.args_enumerate_next_1 _))))
  show wpAny _ _ (field (.ref e) 2 >>= _) _ _ _
  refine wpAny_bind (wpAny_field he rfl (x := .ref z) rfl (wpAny_bind ?_))
  unfold Builtin.SmallTypes.nextOf
  refine wpAny_bind (wpAny_callSpecial?_slot (name := Str.ofString "__next__") hTz F.slot_zip_next (wpAny_call_entry F.slot_zip_next hTz F.entry_zip_next ?_ (F.args_zip_next_1 _)))
  refine zipAny_end S D1 D2 hz hTI hTO st1 st2 le1 le2 hend fun h' tk ea hk hx => ?_
  obtain ⟨o, ho, hc⟩ := hx
  exact wpAny_bind (wpAny_isInstance (T := "StopIteration") (b := true) ⟨o, ho, hc⟩ isSubtype_stop (wpAny_pure (hQ _ _ hk)))
end
/-- the tuples at a and b as they stand at each turn: a new pair of both items, in a new pair with its place -/
def ItEZ (K : PySem.W.Frag) (a b : Addr) : It :=
  ⟨fun i H => ∃ (xs ys : List V) (x y : V), SqT K H a xs ∧ SqT K H b ys ∧ xs[i]? = some x ∧ ys[i]? = some y,
    fun i H v H' => ∃ T2 T1 x y, v = .ref T2 ∧ H T1 = none ∧ H T2 = none ∧ T1 ≠ T2 ∧ H' = upd (upd H T1 (.tup [x, y])) T2 (.tup [.int (i : Nat), .ref T1]) ∧ (∀ xs, SqT K H a xs → xs[i]? = some x) ∧ ∀ ys, SqT K H b ys → ys[i]? = some y,
    fun i H => ∃ xs ys : List V, SqT K H a xs ∧ SqT K H b ys ∧ i ≤ xs.length ∧ i ≤ ys.length ∧ (xs.length = i ∨ ys.length = i)⟩
/-- where the iterators stand -/
structure EZAt (a b e z TI TO i1 i2 : Addr) (i : Nat) (h : Heap) : Prop where
  en : ∃ old, IsEnum h e z ((i : Nat) : Int) old
  zi : ZipAny h z TI TO
  ti : IsTupOf2 h TI (.ref i1) (.ref i2)
  to : ∃ a1 a2, IsTupOf2 h TO a1 a2
  t1 : h.IsTupleIter i1 a i
  t2 : h.IsTupleIter i2 b i
theorem turn_ez {P : Program} {w : World} {K : PySem.W.Frag} {elts : List Expr} {kk : Nat} {tpos : Pos} {a b e z TI TO i1 i2 : Addr} (S : ZipSep2 z TI TO i1 i2 [i1, a] [i2, b]) (ne : e ≠ z ∧ e ≠ TI ∧ e ≠ TO ∧ e ≠ i1 ∧ e ≠ i2) (n1 : a ≠ i1) (n2 : b ≠ i2) :
    Turn P w K (.Tuple elts kk tpos) (ItEZ K a b) [e, z, TI, TO, i1, i2] e (fun i h => EZAt a b e z TI TO i1 i2 i h) where
  mem := by simp
  obj := fun i h st c hc => by
    obtain ⟨⟨old, he⟩, ⟨own, fl, hz, _⟩, hTI, ⟨_, _, hTO⟩, ⟨o1, e1, _, d1⟩, ⟨o2, e2, _, d2⟩⟩ := st
    have hc' : c = e ∨ c = z ∨ c = TI ∨ c = TO ∨ c = i1 ∨ c = i2 := by simpa using hc
    rcases hc' with q | q | q | q | q | q
    · rw [q]; exact ⟨_, he, fun v q => nomatch q⟩
    · rw [q]; exact ⟨_, hz, fun v q => nomatch q⟩
    · rw [q]; exact ⟨_, hTI, fun v q => nomatch q⟩
    · rw [q]; exact ⟨_, hTO, fun v q => nomatch q⟩
    · rw [q]; exact ⟨o1, e1, fun v q => by rw [d1] at q; cases q⟩
    · rw [q]; exact ⟨o2, e2, fun v q => by rw [d2] at q; cases q⟩
  keep := fun i h h' st k => by
    obtain ⟨⟨old, he⟩, ⟨own, fl, hz, ho⟩, hTI, ⟨x, y, hTO⟩, h1, h2⟩ := st
    exact ⟨⟨old, k e (by simp) _ he⟩, ⟨own, fl, k z (by simp) _ hz, ho⟩, k TI (by simp) _ hTI, ⟨x, y, k TO (by simp) _ hTO⟩, h1.at fun o q => k i1 (by simp) o q, h2.at fun o q => k i2 (by simp) o q⟩
  item := by
    intro X hP hw hK hc i pins s σ H E I hf st hg
    subst hP hw hK
    obtain ⟨⟨old, he⟩, hz, hTI, ⟨x0, y0, hTO⟩, h1, h2⟩ := st
    obtain ⟨xs, ys, x, y, hqx, hqy, hx, hy⟩ := hg
    obtain ⟨its, rv, p, _⟩ := I.tuple hqx
    obtain ⟨its2, rv2, p2, _⟩ := I.tuple hqy
    obtain ⟨u, hu, ru⟩ := rv.get hx
    obtain ⟨u2, hu2, ru2⟩ := rv2.get hy
    have hu' : its.toArray[i]? = some u := by simpa using hu
    have hu2' : its2.toArray[i]? = some u2 := by simpa using hu2
    have lt1 := (Array.getElem?_eq_some_iff.mp hu').1
    have lt2 := (Array.getElem?_eq_some_iff.mp hu2').1
    have hpa : s.heap.IsTuple a its.toArray := p
    have hpb : s.heap.IsTuple b its2.toArray := p2
    have hel : e < s.heap.objs.size := Heap.lt_size he
    have hlt : ∀ c ∈ [e, z, TI, TO, i1, i2], c < s.heap.objs.size := by
      intro c hcm
      have hc' : c = e ∨ c = z ∨ c = TI ∨ c = TO ∨ c = i1 ∨ c = i2 := by simpa using hcm
      obtain ⟨_, _, hz', _⟩ := hz
      rcases hc' with q | q | q | q | q | q
      · rw [q]; exact hel
      · rw [q]; exact Heap.lt_size hz'
      · rw [q]; exact Heap.lt_size hTI
      · rw [q]; exact Heap.lt_size hTO
      · rw [q]; obtain ⟨_, q', _⟩ := h1; exact Heap.lt_size q'
      · rw [q]; obtain ⟨_, q', _⟩ := h2; exact Heap.lt_size q'
    have hh : ∀ A' : Around, A'.handled = X.A.handled → A'.in1.handled = none := fun A' h => h.trans (I.ok.hd hc)
    refine enum_next_any (wr := [z, TO, i1, i2]) (R := fun v hh' => v = .ref s.heap.objs.size ∧ ZipAny hh' z TI TO ∧ (∃ y1 y2, IsTupOf2 hh' TO y1 y2) ∧ hh'.IsTupleIter i1 a (i + 1) ∧ hh'.IsTupleIter i2 b (i + 1) ∧ IsTupOf2 hh' s.heap.objs.size u u2 ∧ hh'.objs.size = s.heap.objs.size + 1) he (by simp [ne]) (fun A' Q' E' hA g => ?_) fun v h3 h4 tk hR hge hk ho hT hk4 => ?_
    · have D1 := Draws.tuple (prog := X.prog) (w := X.w) (A := A'.in1) (hh A' hA) i1 a n1 its.toArray
      have D2 := Draws.tuple (prog := X.prog) (w := X.w) (A := A'.in1) (hh A' hA) i2 b n2 its2.toArray
      refine nextOf_zip S D1 D2 hz hTI hTO ⟨h1, hpa⟩ ⟨h2, hpb⟩ lt1 lt2 fun x1 x2 h' tk q1 q2 q3 q4 q5 q6 q7 q8 q9 => g _ h' tk ⟨rfl, q3, q4, q5.1, q6.1, ?_, q8⟩ (by rw [q8]; exact Nat.le_succ _) fun c o hcn q => q9 c o (fun z' => hcn (by simp [z'])) (fun z' => hcn (by simp [z'])) (fun z' => hcn (by simp [z'])) (fun z' => hcn (by simp [z'])) q
      rw [hu'] at q1
      rw [hu2'] at q2
      cases q1
      cases q2
      exact q7
    · obtain ⟨rfl, z3, ⟨y1, y2, to3⟩, t13, t23, tp3, sz3⟩ := hR
      have neT : s.heap.objs.size ≠ e := Nat.ne_of_gt hel
      have ne3 : h3.objs.size ≠ e := by rw [sz3]; exact Nat.ne_of_gt (Nat.lt_succ_of_lt hel)
      refine ⟨_, rfl, wpAny_letOwnedTupleGo_enum (s := { s with heap := h4, toks := tk + 1 }) ho fun h5 he5 sb => ?_⟩
      replace sb : Heap.SameBut e h4 h5 := sb
      have up : ∀ c o, c ≠ e → h3.get? c = some o → h5.get? c = some o := fun c o hce q => (sb.2 c hce).trans (hk4 c o hce q)
      -- the inner pair
      have f1 : ∀ c ∈ [z, TO, i1, i2], FpOk X pins H c := fun c hcm => hf c (by
        have hc' : c = z ∨ c = TO ∨ c = i1 ∨ c = i2 := by simpa using hcm
        rcases hc' with q | q | q | q <;> simp [q])
      have hTi : H s.heap.objs.size = none := I.hok.fresh (Nat.le_refl _)
      have J1 : Inv X pins σ (upd H s.heap.objs.size (.tup [x, y])) { s with heap := h3, toks := tk } :=
        I.turnedNew (ch := [z, TO, i1, i2]) (fun c o hb q => hk c o hb q) f1 (Nat.le_refl _) ⟨by show 2 ≤ sizeLine; decide, [u, u2], .cons ru (.cons ru2 .nil), ⟨_, tp3, rfl, _, rfl⟩⟩
      have f2 : ∀ c ∈ [e], FpOk X pins (upd H s.heap.objs.size (.tup [x, y])) c := fun c hcm => by
        rw [List.mem_singleton.mp hcm]
        obtain ⟨g0, gr⟩ := hf e (by simp)
        exact ⟨by rw [upd_ne neT.symm]; exact g0, gr⟩
      have hT5 : h5.get? h3.objs.size = some { cls := .type "tuple", data := .seq #[.int i tk, .ref s.heap.objs.size] } := (sb.2 _ ne3).trans hT
      have J2 : Inv X pins σ (upd (upd H s.heap.objs.size (.tup [x, y])) h3.objs.size (.tup [.int (i : Nat), .ref s.heap.objs.size])) { s with heap := h5, toks := tk + 1 } :=
        J1.turnedNew (t' := tk + 1) (ch := [e]) (fun c o hb q => up c o (fun z' => hb (by simp [z'])) q) f2 (Nat.le_refl _) ⟨by show 2 ≤ sizeLine; decide, [.int i tk, .ref s.heap.objs.size], .cons ⟨_, rfl⟩ (.cons rfl .nil), ⟨_, hT5, rfl, _, rfl⟩⟩
      have hT2n : H h3.objs.size = none := I.hok.fresh (by rw [sz3]; exact Nat.le_succ _)
      refine ⟨.ref h3.objs.size, _, J2, rfl, ⟨_, _, x, y, rfl, hTi, hT2n, by rw [sz3]; exact Nat.ne_of_lt (Nat.lt_succ_self _), rfl, fun l hl => by rw [I.tuple_inj hl hqx]; exact hx, fun l hl => by rw [I.tuple_inj hl hqy]; exact hy⟩, ⟨⟨.ref s.heap.objs.size, ?_⟩, ?_, ?_, ⟨y1, y2, ?_⟩, ?_, ?_⟩, fun c hcm => ?_⟩
      · have e1 : ((i + 1 : Nat) : Int) = (i : Int) + 1 := by omega
        rw [e1]
        exact he5
      · obtain ⟨own, fl, q, o'⟩ := z3
        exact ⟨own, fl, up z _ ne.1.symm q, o'⟩
      · exact up TI _ ne.2.1.symm (hk TI _ (by simp only [List.mem_cons, List.not_mem_nil, or_false, not_or]; exact ⟨S.TIz, S.TITO, S.TIi1, S.TIi2⟩) hTI)
      · exact up TO _ ne.2.2.1.symm to3
      · exact t13.at fun o q => up i1 o ne.2.2.2.1.symm q
      · exact t23.at fun o q => up i2 o ne.2.2.2.2.symm q
      · have l := hlt c hcm
        rw [upd_ne (by rw [sz3]; exact Nat.ne_of_lt (Nat.lt_succ_of_lt l)), upd_ne (Nat.ne_of_lt l)]
        exact (hf c hcm).1
  done := by
    intro X hP hw hK hc i pins s σ H E I hf st hg
    subst hP hw hK
    obtain ⟨⟨old, he⟩, hz, hTI, ⟨x0, y0, hTO⟩, h1, h2⟩ := st
    obtain ⟨xs, ys, hqx, hqy, le1, le2, hend⟩ := hg
    obtain ⟨its, rv, p, _⟩ := I.tuple hqx
    obtain ⟨its2, rv2, p2, _⟩ := I.tuple hqy
    have l1 := rv.length
    have l2 := rv2.length
    have D1 := Draws.tuple (prog := X.prog) (w := X.w) (A := X.A.in1.in1) (I.ok.hd hc) i1 a n1 its.toArray
    have D2 := Draws.tuple (prog := X.prog) (w := X.w) (A := X.A.in1.in1) (I.ok.hd hc) i2 b n2 its2.toArray
    have hpa : s.heap.IsTuple a its.toArray := p
    have hpb : s.heap.IsTuple b its2.toArray := p2
    refine next_enum_zip_end S D1 D2 he hz hTI hTO ⟨h1, hpa⟩ ⟨h2, hpb⟩ (by simp only [List.size_toArray]; omega) (by simp only [List.size_toArray]; omega) (by simp only [List.size_toArray]; omega) fun h' tk hk => ⟨rfl, ?_⟩
    refine I.step (g' := s.gens) (t' := tk) (d' := s.drawn) (ch := [z, TO, i1, i2]) (fun c hcm => ?_) (fun c o _ _ hcn q _ => hk c o (fun z' => hcn (by simp [z'])) (fun z' => hcn (by simp [z'])) (fun z' => hcn (by simp [z'])) (fun z' => hcn (by simp [z'])) q)
      (fun c o _ _ hcn q _ => ⟨o.slots, hk c o (fun z' => hcn (by simp [z'])) (fun z' => hcn (by simp [z'])) (fun z' => hcn (by simp [z'])) (fun z' => hcn (by simp [z'])) q⟩) (fun _ _ _ _ n => n)
      (fun c o hcn q => ⟨o, hk c o (fun z' => hcn (by simp [z'])) (fun z' => hcn (by simp [z'])) (fun z' => hcn (by simp [z'])) (fun z' => hcn (by simp [z'])) q⟩) (fun _ _ q => q) (fun _ _ _ q => q) (fun c ps q => ⟨#[], by rw [q]; simp⟩) (fun m hm => ?_) (fun c u' q => ?_) I.bare
    · have f := hf c (by
        have hc' : c = z ∨ c = TO ∨ c = i1 ∨ c = i2 := by simpa using hcm
        rcases hc' with q | q | q | q <;> simp [q])
      exact ⟨f.2.2.2.1, f.2.1, f.2.2.2.2.1, f.2.2.2.2.2⟩
    · obtain ⟨o, es, ep, ho, r⟩ := hm
      have nL : ∀ c ∈ [e, z, TI, TO, i1, i2], c ≠ X.env.locals := fun c hcm => (hf c hcm).2.1
      exact ⟨o, es, ep, hk _ o (nL z (by simp)).symm (nL TO (by simp)).symm (nL i1 (by simp)).symm (nL i2 (by simp)).symm ho, r⟩
    · have nf : ∀ c ∈ [e, z, TI, TO, i1, i2], ∀ u, H c ≠ some u := fun c hcm u q => by
        rw [(hf c hcm).1] at q
        cases q
      refine (I.hok c u' q).stay (fun c' v hc' y => hk c' v (fun z' => ?_) (fun z' => ?_) (fun z' => ?_) (fun z' => ?_) y) (fun _ y => y) fun _ _ y => y
      all_goals
        subst z'
        rcases hc' with y' | y'
        · subst y'
          exact nf _ (by simp) _ q
        · exact nf _ (by simp) _ y'
  self := fun A i s Q E st h => by
    obtain ⟨_, he⟩ := st.en
    exact wpAny_pyIter_enum he h
set_option maxHeartbeats 1000000 in
/-- enumerate of an iterator that is its own iter -/
theorem meets_enumI {v : Value} {G : Heap → Prop} (B : ∀ (prog : Program) (w : World) (A : Around) (E : Value → Shared → Prop) (s : Shared) (Q : Value → Shared → Prop), G s.heap → Q v s → wpAny (model prog w) A (pyIter v) Q E s) :
    Meets (Builtin.«enumerate.__new__» ⟨[.type "enumerate", v], []⟩) (fun _ R s => G s.heap ∧
      R (.ok (.ret (.ref s.heap.objs.size))) { s with heap := s.heap.push { cls := .type "enumerate", data := .fields #[.none, .bool false, v, rawInt 0, .none, .none] } }) :=
  .of_wp fun prog w A R s h => by
    obtain ⟨hp, g, d, tk, os⟩ := s
    obtain ⟨h1, h⟩ := h
    have hsub := sub_enumerate
    have q1 : ∀ {A' : Around} {E : Value → Shared → Prop} {Q : Value → Shared → Prop}, Q v ⟨hp, g, d, tk, os⟩ → wpAny (model prog w) A' (pyIter v) Q E ⟨hp, g, d, tk, os⟩ := fun q => B prog w _ _ ⟨hp, g, d, tk, os⟩ _ h1 q
    wp_walk using q1
    refine wpAny_stack_any fun st => wpAny_pure ?_
    split
    · rename_i c _ _ _ _ _
      cases (c == Value.type "enumerate")
      · wp_walk using q1
        exact ⟨_, rfl, h⟩
      · wp_walk using q1
        exact ⟨_, rfl, h⟩
    · wp_walk using q1
      exact ⟨_, rfl, h⟩
section
variable {prog : Program} {w : World} {A : Around} {E : Value → Shared → Prop} {s : Shared}
theorem call_enumZ {z TI TO : Addr} {Q : Value → Shared → Prop} (hz : IsZip s.heap z TI TO .none)
    (h : ∀ h', IsEnum h' s.heap.objs.size z 0 .none → h'.objs.size = s.heap.objs.size + 1 → (∀ b o, s.heap.get? b = some o → h'.get? b = some o) → Q (.ref s.heap.objs.size) { s with heap := h' }) : wpAny (model prog w) A (call (.type "enumerate") [.ref z]) Q E s := by
  refine callType_new F.called_enumerate (by decide) (F.typeCall_enumerate_1 _) (F.newCall_enumerate_1 _) (fun obj => F.args_object_init_2 obj _) F.entry_enumerate_new
    (meets_enumI (G := fun h => IsZip h z TI TO .none) fun prog w A E s Q g q => wpAny_pyIter_zip g q) ⟨hz, ?_⟩
  have he : IsEnum (s.heap.push { cls := .type "enumerate", data := .fields #[.none, .bool false, .ref z, rawInt 0, .none, .none] }) s.heap.objs.size z 0 .none := Heap.get?_push_size _ rfl
  exact ⟨⟨_, he, rfl⟩, h _ he (Heap.size_push ..) fun b o x => Heap.get?_push_of_some _ x⟩
end
def iEZ (K : PySem.W.Frag) (ta : TA) : TI := fun σ H R => ta σ H fun vs H1 => ∃ a b xs ys, vs = [.ref a, .ref b] ∧ SqT K H1 a xs ∧ SqT K H1 b ys ∧ R (ItEZ K a b) H1
theorem pi_ez {X : Cx} {e1 e2 : Expr} {ta : TA} {p p2 pos pos2 tpos : Pos} {elts : List Expr} {kk : Nat} (hg : Gl X "enumerate") (hm : X.mg "enumerate" = none) (hg2 : Gl X "zip") (hm2 : X.mg "zip" = none) (ha : PA X [e1, e2] ta)
    (hs : starEach [e1, e2] X.env = (false, eval e1 X.env) :: starEach [e2] X.env := by rfl) (hpl : (backTo pos2 (starEach [e2] X.env)).any (·.1) = false := by rfl) :
    PI X (.Tuple elts kk tpos) (.Call (.Name "enumerate" p) [.Call (.Name "zip" p2) [e1, e2] [] pos2] [] pos) (iEZ X.K ta) := by
  refine ⟨fun pins s σ H R I h => ?_⟩
  refine Call_ (ld_blt I hg hm boot_enumerate (callWith_type1 (args_cons ?_ rfl) rfl rfl))
  refine Call_ (ld_blt I hg2 hm2 boot_zip (callWith_type1 (thn (ha.run pos2 pins s σ H _ I h) fun us s1 hv => ?_) hs hpl))
  obtain ⟨vs, H1, I1, r1, a, b, xs, ys, rfl, hqx, hqy, q⟩ := hv
  cases r1 with
  | cons ra rr =>
    obtain ⟨ub, rfl, rb⟩ := vals_one rr
    cases ra
    cases rb
    obtain ⟨its, rv, pa, _⟩ := I1.tuple hqx
    obtain ⟨its2, rv2, pb, _⟩ := I1.tuple hqy
    have hpa : s1.heap.IsTuple a its.toArray := pa
    have hpb : s1.heap.IsTuple b its2.toArray := pb
    have la : a < s1.heap.objs.size := pa.lt
    have lb : b < s1.heap.objs.size := pb.lt
    refine zip_begins2 (begins_tuple a its.toArray) (begins_tuple b its2.toArray) hpa hpb fun h' hz hTI hTO g1 g2 hsz hk => ?_
    refine args_nil (call_enumZ (s := { s1 with heap := h' }) hz fun h2 he hsz2 hk2 => wpAny_pyIter_enum he ?_)
    replace he : IsEnum h2 h'.objs.size (s1.heap.objs.size + 4) 0 .none := he
    replace hsz2 : h2.objs.size = h'.objs.size + 1 := hsz2
    have kk2 : ∀ c o, s1.heap.get? c = some o → h2.get? c = some o := fun c o x => hk2 c o (hk c o x)
    rw [hsz] at he
    have I2 : Inv X pins σ H1 { s1 with heap := h2 } := I1.kept (t' := s1.toks) kk2
    have N : ∀ c, s1.heap.objs.size ≤ c → FpOk X pins H1 c := fun c hle => I1.fpOk hle (I1.hok.fresh hle)
    have S := zip_sep2 (N := s1.heap.objs.size) (fp1 := [a]) (fp2 := [b]) (fun c hc => by rw [List.mem_singleton.mp hc]; exact la) (fun c hc => by rw [List.mem_singleton.mp hc]; exact lb)
    have cv : ∀ (m : Nat), s1.heap.objs.size ≤ s1.heap.objs.size + m := fun m => Nat.le_add_right _ _
    show PIE X pins σ _ R (.ref h'.objs.size) _
    rw [hsz]
    refine ⟨s1.heap.objs.size + 5, [s1.heap.objs.size + 5, s1.heap.objs.size + 4, s1.heap.objs.size + 2, s1.heap.objs.size + 3, s1.heap.objs.size, s1.heap.objs.size + 1], _, _, H1, rfl, I2,
      turn_ez S ((fun n : Nat => (by omega : n + 5 ≠ n + 4 ∧ n + 5 ≠ n + 2 ∧ n + 5 ≠ n + 3 ∧ n + 5 ≠ n ∧ n + 5 ≠ n + 1)) s1.heap.objs.size) (Nat.ne_of_lt la) (Nat.ne_of_lt (Nat.lt_succ_of_lt lb)),
      ⟨⟨.none, he⟩, ⟨_, _, hk2 _ _ hz, .inl rfl⟩, hk2 _ _ hTI, ⟨_, _, hk2 _ _ hTO⟩, ⟨_, hk2 _ _ g1, rfl, rfl⟩, ⟨_, hk2 _ _ g2, rfl, rfl⟩⟩, fun c hcm => N c ?_, q⟩
    have hc' : c = s1.heap.objs.size + 5 ∨ c = s1.heap.objs.size + 4 ∨ c = s1.heap.objs.size + 2 ∨ c = s1.heap.objs.size + 3 ∨ c = s1.heap.objs.size ∨ c = s1.heap.objs.size + 1 := by simpa using hcm
    rcases hc' with q' | q' | q' | q' | q' | q' <;> rw [q'] <;> first | exact Nat.le_refl _ | exact cv _
/-- for at, (x, y) in enumerate(zip(t, u)): t and u equally long -/
theorem walk_ez {K : PySem.W.Frag} {a b : Addr} {xs ys : List V} (hl : xs.length = ys.length) : Walk (ItEZ K a b) xs.length (fun H => SqT K H a xs ∧ SqT K H b ys)
    (fun i H v H' => ∃ T2 T1 x y, v = .ref T2 ∧ H T1 = none ∧ H T2 = none ∧ T1 ≠ T2 ∧ H' = upd (upd H T1 (.tup [x, y])) T2 (.tup [.int (i : Nat), .ref T1]) ∧ xs[i]? = some x ∧ ys[i]? = some y) := by
  refine ⟨fun i H hi q => ⟨xs, ys, xs[i], ys[i], q.1, q.2, by simp [hi], by simp⟩, fun H q => ⟨xs, ys, q.1, q.2, Nat.le_refl _, Nat.le_of_eq hl, .inl rfl⟩, fun i H v H' _ q y => ?_⟩
  obtain ⟨T2, T1, x, y', h1, h2, h3, h4, h5, h6, h7⟩ := y
  exact ⟨T2, T1, x, y', h1, h2, h3, h4, h5, h6 xs q.1, h7 ys q.2⟩
end Zn
set_option Elab.async false
set_option linter.all false
set_option maxRecDepth 100000
set_option maxHeartbeats 4000000
/-! What is walked; comprehensions; all(..) of generator expressions, by data. -/
namespace Dl
open PySem PySem.Spec PyProof.Rows L2 GxR Gn
/-- a list, a tuple, a text -/
def iAny (K : PySem.W.Frag) (tl : TE) : TI := fun σ H R => tl σ H fun x H1 => (∃ a, x = .ref a ∧ (∃ xs, SqL K H1 a xs) ∧ R (Itl K a) H1) ∨ (∃ a, x = .ref a ∧ (∃ xs, SqT K H1 a xs) ∧ R (Itt K a) H1) ∨ ∃ z, x = .str z ∧ R (Its z) H1
theorem pi_any {X : Cx} {tg l : Expr} {tl : TE} (hl : PE X l tl) : PI X tg l (iAny X.K tl) := by
  refine ⟨fun pins s σ H R I h => ?_⟩
  refine thn (hl.run pins s σ H _ I h) fun v s1 ⟨x, H1, I1, r1, q1⟩ => ?_
  rcases q1 with ⟨a, e, ⟨xs, hq⟩, q⟩ | ⟨a, e, ⟨xs, hq⟩, q⟩ | ⟨z, e, q⟩
  · subst e
    cases r1
    obtain ⟨its, rv, p, hz⟩ := I1.list hq
    refine wpAny_pyIter_list p.isList ?_
    refine ⟨s1.heap.objs.size, [s1.heap.objs.size], _, _, H1, rfl, I1.kept (t' := s1.toks) fun b o e => Heap.get?_push_of_some _ e, turn_list a _, ⟨_, Heap.get?_push_size _ rfl, rfl, rfl⟩, fun b hb => ?_, q⟩
    have e : b = s1.heap.objs.size := by simpa using hb
    subst e
    exact I1.fpOk (Nat.le_refl _) (I1.hok.fresh (Nat.le_refl _))
  · subst e
    cases r1
    obtain ⟨its, rv, p, hz⟩ := I1.tuple hq
    refine wpAny_pyIter_tuple (show s1.heap.IsTuple a its.toArray from p) ?_
    refine ⟨s1.heap.objs.size, [s1.heap.objs.size], _, _, H1, rfl, I1.kept (t' := s1.toks) fun b o e => Heap.get?_push_of_some _ e, turn_tuple a _, ⟨_, Heap.get?_push_size _ rfl, rfl, rfl⟩, fun b hb => ?_, q⟩
    have e : b = s1.heap.objs.size := by simpa using hb
    subst e
    exact I1.fpOk (Nat.le_refl _) (I1.hok.fresh (Nat.le_refl _))
  · subst e
    obtain ⟨t, rfl⟩ := r1
    cases ha : z.cps.all (· < 128)
    · exact wpAny_pyIter_wide ha (pi_one (tk := s1.toks) I1 _ (turn_str _ z t "str_iterator" (.inr rfl)) ⟨_, Heap.get?_push_size _ rfl, rfl, rfl⟩ q)
    · exact wpAny_pyIter_ascii ha (pi_one (tk := s1.toks) I1 _ (turn_str _ z t "str_ascii_iterator" (.inl rfl)) ⟨_, Heap.get?_push_size _ rfl, rfl, rfl⟩ q)

/-- a text's signs -/
def sgD (z : Str) : List D := z.cps.toList.map fun c => .str ⟨#[c]⟩
section
variable {K : PySem.W.Frag} {Ts : List Addr} {ρ : Rho} {M : Mem} {H : Hp}
theorem feeds_lst {i : Nat} {a : Addr} {ds : List D} (ea : ρ i = some a) : Feeds K Ts ρ H (Itl K a) ds (fun M => M[i]? = some (.lst ds)) := fun ρ1 M1 H1 g1 R1 al n => by
  obtain ⟨a', vs, r1, h1, s1⟩ := R1.lst al
  rw [g1.r i a ea] at r1
  cases r1
  refine ⟨fun e => ⟨vs, SqL.of h1, by rw [← s1.length]; exact List.getElem?_eq_none_iff.mp e⟩, fun d e => ?_⟩
  obtain ⟨v, e1, s2⟩ := s1.getD e
  refine ⟨⟨vs, v, SqL.of h1, e1⟩, fun x H2 ⟨hH, hx⟩ => ?_⟩
  subst hH
  have := hx vs (SqL.of h1)
  rw [e1] at this
  cases this
  exact ⟨ρ1, Grw.refl _ _, R1, s2⟩
theorem feeds_tup {a : Addr} {ds : List D} {vs : List V} (ha : SqT K H a vs) (hs : Shs K ρ H ds vs) : Feeds K Ts ρ H (Itt K a) ds (fun _ => True) := fun ρ1 M1 H1 g1 R1 _ n => by
  have ha := SqT.grw g1 ha
  have hs := Shs.grw g1 _ _ hs
  refine ⟨fun e => ⟨vs, ha, by rw [← hs.length]; exact List.getElem?_eq_none_iff.mp e⟩, fun d e => ?_⟩
  obtain ⟨v, e1, s2⟩ := hs.getD e
  refine ⟨⟨vs, v, ha, e1⟩, fun x H2 ⟨hH, hx⟩ => ?_⟩
  subst hH
  have := hx vs ha
  rw [e1] at this
  cases this
  exact ⟨ρ1, Grw.refl _ _, R1, s2⟩
theorem feeds_str (z : Str) : Feeds K Ts ρ H (Its z) (sgD z) (fun _ => True) := fun ρ1 M1 H1 g1 R1 _ n => by
  unfold sgD
  refine ⟨fun e => ?_, fun d e => ?_⟩
  · rw [List.getElem?_map, Option.map_eq_none_iff] at e
    have := List.getElem?_eq_none_iff.mp e
    show z.cps.size ≤ n
    simpa using this
  · rw [List.getElem?_map, Option.map_eq_some_iff] at e
    obtain ⟨c, e1, rfl⟩ := e
    have e2 : z.cps[n]? = some c := by simpa using e1
    refine ⟨(Array.getElem?_eq_some_iff.mp e2).1, fun x H2 ⟨hH, c', h1, h2⟩ => ?_⟩
    subst hH h2
    rw [e2] at h1
    cases h1
    exact ⟨ρ1, Grw.refl _ _, R1, .str _⟩
def rngD (lo : Int) (n : Nat) : List D := (List.range n).map fun i => .int (lo + (i : Nat))
theorem feeds_range (lo : Int) (n : Nat) : Feeds K Ts ρ H (Itr lo n) (rngD lo n) (fun _ => True) := fun ρ1 M1 H1 g1 R1 _ i => by
  unfold rngD
  refine ⟨fun e => ?_, fun d e => ?_⟩
  · rw [List.getElem?_map, Option.map_eq_none_iff] at e
    have := List.getElem?_eq_none_iff.mp e
    show n ≤ i
    simpa using this
  · rw [List.getElem?_map, Option.map_eq_some_iff] at e
    obtain ⟨c, e1, rfl⟩ := e
    obtain ⟨hl, e2⟩ := List.getElem?_eq_some_iff.mp e1
    rw [List.getElem_range] at e2
    subst e2
    rw [List.length_range] at hl
    refine ⟨hl, fun x H2 ⟨hH, hx⟩ => ?_⟩
    subst hH hx
    exact ⟨ρ1, Grw.refl _ _, R1, .int _⟩
/-- pairs with their places -/
def enumD (ds : List D) : List D := ds.zipIdx.map fun p => .tup [.int (p.2 : Nat), p.1]
theorem enumD_at {ds : List D} {i : Nat} {d : D} (h : (enumD ds)[i]? = some d) : ∃ e, ds[i]? = some e ∧ d = .tup [.int (i : Nat), e] := by
  unfold enumD at h
  rw [List.getElem?_map, Option.map_eq_some_iff] at h
  obtain ⟨⟨e, k⟩, h1, rfl⟩ := h
  rw [List.getElem?_zipIdx, Option.map_eq_some_iff] at h1
  obtain ⟨e', h2, h3⟩ := h1
  cases h3
  exact ⟨e, h2, by simp⟩
theorem enumD_none {ds : List D} {i : Nat} (h : (enumD ds)[i]? = none) : ds.length ≤ i := by
  have := List.getElem?_eq_none_iff.mp h
  simpa [enumD] using this
theorem newPair {ρ1 : Rho} {M1 : Mem} {H1 : Hp} (R1 : Rl K Ts ρ1 M1 H1) {T : Addr} (hT : H1 T = none) {d e : D} {x y : V} (s1 : Sh K ρ1 H1 d x) (s2 : Sh K ρ1 H1 e y) :
    ∃ ρ2, Grw ρ1 H1 ρ2 (upd H1 T (.tup [x, y])) ∧ Rl K Ts ρ2 M1 (upd H1 T (.tup [x, y])) ∧ Sh K ρ2 (upd H1 T (.tup [x, y])) (.tup [d, e]) (.ref T) :=
  ⟨ρ1, grw_new hT, R1.new hT, .tup upd_same (.cons (Sh.grw (grw_new hT) _ _ s1) (.cons (Sh.grw (grw_new hT) _ _ s2) .nil))⟩
theorem feeds_enumT {a : Addr} {ds : List D} {vs : List V} (ha : SqT K H a vs) (hs : Shs K ρ H ds vs) : Feeds K Ts ρ H (Zn.ItT K a) (enumD ds) (fun _ => True) := fun ρ1 M1 H1 g1 R1 _ n => by
  have ha := SqT.grw g1 ha
  have hs := Shs.grw g1 _ _ hs
  refine ⟨fun e => ⟨vs, ha, by rw [← hs.length]; exact enumD_none e⟩, fun d e => ?_⟩
  obtain ⟨d', e0, rfl⟩ := enumD_at e
  obtain ⟨v, e1, s2⟩ := hs.getD e0
  refine ⟨⟨vs, v, ha, e1⟩, fun x H2 ⟨T, y, hx, hT, hH, hy⟩ => ?_⟩
  subst hH hx
  have := hy vs ha
  rw [e1] at this
  cases this
  exact newPair R1 hT (.int _) s2
theorem feeds_enumL {i : Nat} {a : Addr} {ds : List D} (ea : ρ i = some a) : Feeds K Ts ρ H (Ite K a) (enumD ds) (fun M => M[i]? = some (.lst ds)) := fun ρ1 M1 H1 g1 R1 al n => by
  obtain ⟨a', vs, r1, h1, s1⟩ := R1.lst al
  rw [g1.r i a ea] at r1
  cases r1
  refine ⟨fun e => ⟨vs, SqL.of h1, by rw [← s1.length]; exact enumD_none e⟩, fun d e => ?_⟩
  obtain ⟨d', e0, rfl⟩ := enumD_at e
  obtain ⟨v, e1, s2⟩ := s1.getD e0
  refine ⟨⟨vs, v, SqL.of h1, e1⟩, fun x H2 ⟨T, y, hx, hT, hH, hy⟩ => ?_⟩
  subst hH hx
  have := hy vs (SqL.of h1)
  rw [e1] at this
  cases this
  exact newPair R1 hT (.int _) s2
/-- pairs of two -/
def zipD (ds es : List D) : List D := List.zipWith (fun d e => .tup [d, e]) ds es
theorem zipD_at {ds es : List D} {i : Nat} {d : D} (h : (zipD ds es)[i]? = some d) : ∃ x y, ds[i]? = some x ∧ es[i]? = some y ∧ d = .tup [x, y] := by
  unfold zipD at h
  rw [List.getElem?_zipWith] at h
  split at h
  · cases h
    exact ⟨_, _, by assumption, by assumption, rfl⟩
  · cases h
theorem zipD_none {ds es : List D} {i : Nat} (h : (zipD ds es)[i]? = none) : ds.length ≤ i ∨ es.length ≤ i := by
  have := List.getElem?_eq_none_iff.mp h
  simp [zipD] at this
  omega
theorem feeds_zipT {a b : Addr} {ds es : List D} {vs ws : List V} (ha : SqT K H a vs) (hs : Shs K ρ H ds vs) (hb : SqT K H b ws) (ht : Shs K ρ H es ws) : Feeds K Ts ρ H (RZ.ItzT K a b) (zipD ds es) (fun _ => True) := fun ρ1 M1 H1 g1 R1 _ n => by
  have ha := SqT.grw g1 ha
  have hs := Shs.grw g1 _ _ hs
  have hb := SqT.grw g1 hb
  have ht := Shs.grw g1 _ _ ht
  refine ⟨fun e => ⟨vs, ws, ha, hb, by rw [← hs.length, ← ht.length]; exact zipD_none e⟩, fun d e => ?_⟩
  obtain ⟨x1, y1, e1, e2, rfl⟩ := zipD_at e
  obtain ⟨v, e3, s3⟩ := hs.getD e1
  obtain ⟨w, e4, s4⟩ := ht.getD e2
  refine ⟨⟨vs, ws, v, w, ha, hb, e3, e4⟩, fun x H2 ⟨T, y, z, hx, hT, hH, hy, hz⟩ => ?_⟩
  subst hH hx
  have q1 := hy vs ha
  rw [e3] at q1
  cases q1
  have q2 := hz ws hb
  rw [e4] at q2
  cases q2
  exact newPair R1 hT s3 s4
theorem feeds_zipL {i j : Nat} {a b : Addr} {ds es : List D} (ea : ρ i = some a) (eb : ρ j = some b) : Feeds K Ts ρ H (Itz K a b) (zipD ds es) (fun M => M[i]? = some (.lst ds) ∧ M[j]? = some (.lst es)) := fun ρ1 M1 H1 g1 R1 al n => by
  obtain ⟨a', vs, r1, h1, hs⟩ := R1.lst al.1
  obtain ⟨b', ws, r2, h2, ht⟩ := R1.lst al.2
  rw [g1.r i a ea] at r1
  cases r1
  rw [g1.r j b eb] at r2
  cases r2
  refine ⟨fun e => ⟨vs, ws, SqL.of h1, SqL.of h2, by rw [← hs.length, ← ht.length]; exact zipD_none e⟩, fun d e => ?_⟩
  obtain ⟨x1, y1, e1, e2, rfl⟩ := zipD_at e
  obtain ⟨v, e3, s3⟩ := hs.getD e1
  obtain ⟨w, e4, s4⟩ := ht.getD e2
  refine ⟨⟨vs, ws, v, w, SqL.of h1, SqL.of h2, e3, e4⟩, fun x H2 ⟨T, y, z, hx, hT, hH, hy, hz⟩ => ?_⟩
  subst hH hx
  have q1 := hy vs (SqL.of h1)
  rw [e3] at q1
  cases q1
  have q2 := hz ws (SqL.of h2)
  rw [e4] at q2
  cases q2
  exact newPair R1 hT s3 s4
end

section
variable {X : Cx} {Ts : List Addr} {E : XK} {pos p : Pos} {a b c tg : Expr} {ta tb tc : TEd}
/-- the things of a list, a tuple, a text -/
def seqD : D → Mem → (List D → (Mem → Prop) → Mem → Prop) → Prop
  | .tup ds, M, Q => Q ds (fun _ => True) M
  | .obj i, M, Q => ∃ ds, M[i]? = some (.lst ds) ∧ Q ds (fun M => M[i]? = some (.lst ds)) M
  | .str z, M, Q => Q (sgD z) (fun _ => True) M
  | _, _, _ => False
@[simp] def dWalk (t : TEd) : TId := fun S M Q E => t S M (fun d M1 => seqD d M1 Q) E
theorem qi_any (h : QE X Ts E a ta) : QI X Ts E tg a (dWalk ta) := piLe (pi_any h) fun σ H Rr ⟨ρ, S, M, Qd, Ed, R, sl, q, k, x⟩ => ⟨ρ, S, M, _, Ed, R, sl, q, fun d M1 q1 ρ1 H1 v g1 R1 s1 => by
  cases s1 with
  | str z => exact .inr (.inr ⟨z, rfl, k _ _ _ q1 ρ1 H1 _ g1 R1 (feeds_str z)⟩)
  | @tup a xs ds ha hs => exact .inr (.inl ⟨a, rfl, ⟨xs, ha⟩, k _ _ _ q1 ρ1 H1 _ g1 R1 (feeds_tup ha hs)⟩)
  | @obj i a ea =>
    obtain ⟨ds, em, q2⟩ := q1
    obtain ⟨a', vs, r1, h1, s1⟩ := R1.lst em
    rw [ea] at r1
    cases r1
    exact .inl ⟨a, rfl, ⟨vs, SqL.of h1⟩, k _ _ _ q2 ρ1 H1 _ g1 R1 (feeds_lst ea)⟩
  | _ => exact q1.elim, x⟩
@[simp] def dRange1 (t : TAd) : TId := fun S M Q E => t S M (fun ds M1 => ∃ j : Int, ds = [.int j] ∧ -(2 ^ 62) ≤ j ∧ j < 2 ^ 62 ∧ Q (rngD 0 j.toNat) (fun _ => True) M1) E
@[simp] def dRange2 (t : TAd) : TId := fun S M Q E => t S M (fun ds M1 => ∃ i j : Int, ds = [.int i, .int j] ∧ (-(2 ^ 62) ≤ i ∧ i < 2 ^ 62 ∧ -(2 ^ 62) ≤ j ∧ j < 2 ^ 62) ∧ Q (rngD i (j - i).toNat) (fun _ => True) M1) E
theorem qi_range1 {t : TAd} (hg : Gl X "range") (hm : X.mg "range" = none) (h : QA X Ts E [a] t) (hs : starEach [a] X.env = [(false, eval a X.env)] := by rfl) : QI X Ts E tg (.Call (.Name "range" p) [a] [] pos) (dRange1 t) := piLe (pi_range1 hg hm h hs) fun σ H Rr ⟨ρ, S, M, Qd, Ed, R, sl, q, k, x⟩ => ⟨ρ, S, M, _, Ed, R, sl, q, fun ds M1 ⟨j, e, h1, h2, q1⟩ ρ1 H1 vs g1 R1 s1 => by
  subst e
  cases s1 with
  | cons s1 s2 =>
    cases s1; cases s2
    exact ⟨j, rfl, h1, h2, k _ _ _ q1 ρ1 H1 _ g1 R1 (feeds_range 0 _)⟩, x⟩
theorem qi_range2 {t : TAd} (hg : Gl X "range") (hm : X.mg "range" = none) (h : QA X Ts E [a, b] t) (hs : starEach [a, b] X.env = [(false, eval a X.env), (false, eval b X.env)] := by rfl) (hs2 : starEach [b] X.env = [(false, eval b X.env)] := by rfl) : QI X Ts E tg (.Call (.Name "range" p) [a, b] [] pos) (dRange2 t) := piLe (pi_range2 hg hm h hs hs2) fun σ H Rr ⟨ρ, S, M, Qd, Ed, R, sl, q, k, x⟩ => ⟨ρ, S, M, _, Ed, R, sl, q, fun ds M1 ⟨i, j, e, h1, q1⟩ ρ1 H1 vs g1 R1 s1 => by
  subst e
  cases s1 with
  | cons s1 s2 =>
    cases s1
    cases s2 with
    | cons s2 s3 =>
      cases s2; cases s3
      exact ⟨i, j, rfl, h1, k _ _ _ q1 ρ1 H1 _ g1 R1 (feeds_range i _)⟩, x⟩
variable {elts : List Expr} {kk : Nat} {tpos : Pos}
@[simp] def dEnumT (t : TAd) : TId := fun S M Q E => t S M (fun ds M1 => ∃ es, ds = [.tup es] ∧ Q (enumD es) (fun _ => True) M1) E
@[simp] def dEnumL (t : TAd) : TId := fun S M Q E => t S M (fun ds M1 => ∃ i es, ds = [.obj i] ∧ M1[i]? = some (.lst es) ∧ Q (enumD es) (fun M => M[i]? = some (.lst es)) M1) E
theorem qi_enumT {t : TAd} (hg : Gl X "enumerate") (hm : X.mg "enumerate" = none) (h : QA X Ts E [a] t) (hs : starEach [a] X.env = [(false, eval a X.env)] := by rfl) : QI X Ts E (.Tuple elts kk tpos) (.Call (.Name "enumerate" p) [a] [] pos) (dEnumT t) := piLe (Zn.pi_enumT hg hm h hs) fun σ H Rr ⟨ρ, S, M, Qd, Ed, R, sl, q, k, x⟩ => ⟨ρ, S, M, _, Ed, R, sl, q, fun ds M1 ⟨es, e, q1⟩ ρ1 H1 vs g1 R1 s1 => by
  subst e
  cases s1 with
  | cons s1 s2 =>
    cases s2
    cases s1 with
    | tup ha hs => exact ⟨_, _, rfl, SqT.of ha, k _ _ _ q1 ρ1 H1 _ g1 R1 (feeds_enumT ha hs)⟩, x⟩
theorem qi_enumL {t : TAd} (hg : Gl X "enumerate") (hm : X.mg "enumerate" = none) (h : QA X Ts E [a] t) (hs : starEach [a] X.env = [(false, eval a X.env)] := by rfl) : QI X Ts E (.Tuple elts kk tpos) (.Call (.Name "enumerate" p) [a] [] pos) (dEnumL t) := piLe (pi_enum hg hm h hs) fun σ H Rr ⟨ρ, S, M, Qd, Ed, R, sl, q, k, x⟩ => ⟨ρ, S, M, _, Ed, R, sl, q, fun ds M1 ⟨i, es, e, em, q1⟩ ρ1 H1 vs g1 R1 s1 => by
  subst e
  cases s1 with
  | cons s1 s2 =>
    cases s2
    cases s1 with
    | obj ea =>
      obtain ⟨a', vs, r1, h1, s1⟩ := R1.lst em
      rw [ea] at r1
      cases r1
      exact ⟨_, vs, rfl, SqL.of h1, k _ _ _ q1 ρ1 H1 _ g1 R1 (feeds_enumL ea)⟩, x⟩
def zipRd (ds : List D) (M1 : Mem) (Q : List D → (Mem → Prop) → Mem → Prop) : Prop := (∃ xs ys, ds = [.tup xs, .tup ys] ∧ Q (zipD xs ys) (fun _ => True) M1) ∨ ∃ i j xs ys, ds = [.obj i, .obj j] ∧ M1[i]? = some (.lst xs) ∧ M1[j]? = some (.lst ys) ∧ Q (zipD xs ys) (fun M => M[i]? = some (.lst xs) ∧ M[j]? = some (.lst ys)) M1
@[simp] theorem zipRd_tup {xs ys : List D} {M : Mem} {Q : List D → (Mem → Prop) → Mem → Prop} : zipRd [.tup xs, .tup ys] M Q ↔ Q (zipD xs ys) (fun _ => True) M := by
  constructor
  · rintro (⟨_, _, e, h⟩ | ⟨_, _, _, _, e, _⟩)
    · cases e; exact h
    · cases e
  · exact fun h => .inl ⟨_, _, rfl, h⟩
@[simp] theorem zipRd_obj {i j : Nat} {M : Mem} {Q : List D → (Mem → Prop) → Mem → Prop} : zipRd [.obj i, .obj j] M Q ↔ ∃ xs ys, M[i]? = some (.lst xs) ∧ M[j]? = some (.lst ys) ∧ Q (zipD xs ys) (fun M => M[i]? = some (.lst xs) ∧ M[j]? = some (.lst ys)) M := by
  constructor
  · rintro (⟨_, _, e, h⟩ | ⟨_, _, _, _, e, h⟩)
    · cases e
    · cases e; exact ⟨_, _, h⟩
  · rintro ⟨xs, ys, h⟩
    exact .inr ⟨_, _, xs, ys, rfl, h⟩
@[simp] def dZip (t : TAd) : TId := fun S M Q E => t S M (fun ds M1 => zipRd ds M1 Q) E
theorem qi_zip {t : TAd} (hg : Gl X "zip") (hm : X.mg "zip" = none) (h : QA X Ts E [a, b] t) (hs : starEach [a, b] X.env = (false, eval a X.env) :: starEach [b] X.env := by rfl) (hpl : (backTo pos (starEach [b] X.env)).any (·.1) = false := by rfl) : QI X Ts E (.Tuple elts kk tpos) (.Call (.Name "zip" p) [a, b] [] pos) (dZip t) := piLe (RZ.pi_zipA hg hm h hs hpl) fun σ H Rr ⟨ρ, S, M, Qd, Ed, R, sl, q, k, x⟩ => ⟨ρ, S, M, _, Ed, R, sl, q, fun ds M1 q1 ρ1 H1 vs g1 R1 s1 => by
  rcases q1 with ⟨xs, ys, e, q1⟩ | ⟨i, j, xs, ys, e, e1, e2, q1⟩
  · subst e
    cases s1 with
    | cons s1 s2 =>
      cases s2 with
      | cons s2 s3 =>
        cases s3
        cases s1 with
        | tup ha hs =>
          cases s2 with
          | tup hb ht => exact ⟨_, _, _, _, rfl, .inr ⟨SqT.of ha, SqT.of hb, k _ _ _ q1 ρ1 H1 _ g1 R1 (feeds_zipT ha hs hb ht)⟩⟩
  · subst e
    cases s1 with
    | cons s1 s2 =>
      cases s2 with
      | cons s2 s3 =>
        cases s3
        cases s1 with
        | obj ea =>
          cases s2 with
          | obj eb =>
            obtain ⟨a', vs, r1, h1, t1⟩ := R1.lst e1
            rw [ea] at r1
            cases r1
            obtain ⟨b', ws, r2, h2, t2⟩ := R1.lst e2
            rw [eb] at r2
            cases r2
            exact ⟨_, _, vs, ws, rfl, .inl ⟨SqL.of h1, SqL.of h2, k _ _ _ q1 ρ1 H1 _ g1 R1 (feeds_zipL ea eb)⟩⟩, x⟩
end
end Dl
set_option Elab.async false
set_option linter.all false
set_option maxRecDepth 100000
set_option maxHeartbeats 4000000
/-! Comprehensions and all(..) by data. -/
namespace Dl
open PySem PySem.Spec PyProof.Rows L2 GxR Gn
theorem wipe_get (σ : L2.St) (i : Nat) : ∀ vs : List Nat, (wipe σ vs)[i]? = if i ∈ vs then σ[i]?.map (fun _ => none) else σ[i]?
  | [] => by simp [wipe]
  | v :: vs => by
    unfold wipe
    by_cases h : v = i
    · subst h
      by_cases hl : v < (wipe σ vs).length
      · rw [List.getElem?_set_self hl, if_pos (by simp)]
        rw [wipe_length] at hl
        rw [List.getElem?_eq_getElem hl]
        rfl
      · rw [List.getElem?_eq_none (by rw [List.length_set]; omega), if_pos (by simp)]
        rw [wipe_length] at hl
        rw [List.getElem?_eq_none (by omega)]
        rfl
    · rw [List.getElem?_set_ne h, wipe_get σ i vs]
      have : i ≠ v := fun e => h e.symm
      simp [this]
theorem wipe_eq {σ τ : L2.St} {vs : List Nat} (h : ∀ i, i ∉ vs → σ[i]? = τ[i]?) (hl : σ.length = τ.length) : wipe σ vs = wipe τ vs := by
  apply List.ext_getElem?
  intro i
  rw [wipe_get, wipe_get]
  split
  · rename_i hi
    by_cases h1 : i < σ.length
    · rw [List.getElem?_eq_getElem h1, List.getElem?_eq_getElem (hl ▸ h1)]
      rfl
    · rw [List.getElem?_eq_none (Nat.le_of_not_lt h1), List.getElem?_eq_none (hl ▸ Nat.le_of_not_lt h1)]
  · rename_i hi
    exact h i hi
theorem wipe_wipe (σ : L2.St) (vs : List Nat) : wipe (wipe σ vs) vs = wipe σ vs := wipe_eq (fun i hi => by rw [wipe_get, if_neg hi]) (wipe_length _ _)
theorem wipe_set {σ : L2.St} {vs : List Nat} {i : Nat} (hi : i ∈ vs) (x : Option V) : wipe (σ.set i x) vs = wipe σ vs := wipe_eq (fun j hj => by rw [List.getElem?_set_ne (fun e => hj (by rw [← e]; exact hi))]) (by simp)
@[simp] def wipeD (S : Sl) : List Nat → Sl
  | [] => S
  | v :: vs => (wipeD S vs).set v none
theorem Sls.unset {K : PySem.W.Frag} {ρ : Rho} {H : Hp} {S : Sl} {σ : L2.St} (h : Sls K ρ H S σ) (i : Nat) : Sls K ρ H (S.set i none) (σ.set i none) := by
  refine ⟨by rw [List.length_set, List.length_set]; exact h.len, fun j d e => ?_⟩
  by_cases hj : i = j
  · subst hj
    have hl : i < S.length := by
      have := (List.getElem?_eq_some_iff.mp e).1
      rwa [List.length_set] at this
    rw [List.getElem?_set_self hl] at e
    cases e
  · rw [List.getElem?_set_ne hj] at e
    rw [List.getElem?_set_ne hj]
    exact h.at_ j d e
theorem Sls.wipe {K : PySem.W.Frag} {ρ : Rho} {H : Hp} {S : Sl} {σ : L2.St} (h : Sls K ρ H S σ) : ∀ vs : List Nat, Sls K ρ H (wipeD S vs) (L2.wipe σ vs)
  | [] => h
  | v :: vs => (Sls.wipe h vs).unset v

/-- a comprehension's target: it stores to the block's own slots alone -/
def TgS (K : PySem.W.Frag) (vs : List Nat) (g : TG) (gd : TGd) : Prop := ∀ ρ H S σ d v M Qd, Sls K ρ H S σ → Sh K ρ H d v → gd d S M Qd → g v σ H (fun σ2 H2 => H2 = H ∧ L2.wipe σ2 vs = L2.wipe σ vs ∧ ∃ S2, Sls K ρ H S2 σ2 ∧ Qd S2 M)
def TgSs (K : PySem.W.Frag) (vs : List Nat) (g : TGs) (gd : TGsd) : Prop := ∀ ρ H S σ ds us M Qd, Sls K ρ H S σ → Shs K ρ H ds us → gd ds S M Qd → g us σ H (fun σ2 H2 => H2 = H ∧ L2.wipe σ2 vs = L2.wipe σ vs ∧ ∃ S2, Sls K ρ H S2 σ2 ∧ Qd S2 M)
theorem tg_name {K : PySem.W.Frag} {vs : List Nat} {i : Nat} (hi : i ∈ vs) : TgS K vs (gName i) (dGN i) := fun ρ H S σ d v M Qd sl s q => ⟨rfl, wipe_set hi _, _, sl.set i s, q⟩
theorem tgs_nil {K : PySem.W.Frag} {vs : List Nat} : TgSs K vs gNil dGNil := fun ρ H S σ ds us M Qd sl s ⟨e, q⟩ => by
  subst e
  cases s
  exact ⟨rfl, rfl, rfl, S, sl, q⟩
/-- a reading of targets may be asked more of -/
def GMono (g : TG) : Prop := ∀ v σ H Q Q', (∀ σ' H', Q σ' H' → Q' σ' H') → g v σ H Q → g v σ H Q'
def GsMono (g : TGs) : Prop := ∀ v σ H Q Q', (∀ σ' H', Q σ' H' → Q' σ' H') → g v σ H Q → g v σ H Q'
theorem gm_name {i : Nat} : GMono (gName i) := fun v σ H Q Q' h q => h _ _ q
theorem gm_nil : GsMono gNil := fun v σ H Q Q' h q => ⟨q.1, h _ _ q.2⟩
theorem gm_cons {g : TG} {u : TGs} (h1 : GMono g) (h2 : GsMono u) : GsMono (gCons g u) := fun v σ H Q Q' h ⟨x, r, e, q⟩ => ⟨x, r, e, h1 _ _ _ _ _ (fun σ' H' q' => h2 _ _ _ _ _ h q') q⟩
theorem gm_tup {K : PySem.W.Frag} {n : Nat} {u : TGs} (h2 : GsMono u) : GMono (gTup K n u) := fun v σ H Q Q' h ⟨a, xs, e, h1, h3, q⟩ => ⟨a, xs, e, h1, h3, h2 _ _ _ _ _ h q⟩
theorem tgs_cons {K : PySem.W.Frag} {vs : List Nat} {g : TG} {gd : TGd} {u : TGs} {ud : TGsd} (m1 : GMono g) (m2 : GsMono u) (h1 : TgS K vs g gd) (h2 : TgSs K vs u ud) : TgSs K vs (gCons g u) (dGCons gd ud) := fun ρ H S σ ds us M Qd sl s ⟨d, r, e, q⟩ => by
  subst e
  cases s with
  | @cons _ _ v vs' s1 s2 =>
    refine ⟨v, vs', rfl, m1 _ _ _ _ _ (fun σ2 H2 ⟨e1, e2, S2, sl2, q2⟩ => ?_) (h1 ρ H S σ d v M _ sl s1 q)⟩
    subst e1
    exact m2 _ _ _ _ _ (fun σ3 H3 ⟨e3, e4, S3, sl3, q3⟩ => ⟨e3, e4.trans e2, S3, sl3, q3⟩) (h2 ρ _ S2 σ2 r vs' M Qd sl2 s2 q2)
theorem tg_tup {K : PySem.W.Frag} {vs : List Nat} {n : Nat} {u : TGs} {ud : TGsd} (h2 : TgSs K vs u ud) : TgS K vs (gTup K n u) (dGTup n ud) := fun ρ H S σ d v M Qd sl s ⟨ds, e, hn, q⟩ => by
  subst e
  cases s with
  | @tup a xs _ ha hs => exact ⟨a, xs, rfl, ha, by rw [← hs.length]; exact hn, h2 ρ H S σ ds xs M Qd sl hs q⟩

abbrev E00 : KE' := fun _ _ _ => False
abbrev X00 : XK := fun _ _ _ => False
theorem xok0 {K : PySem.W.Frag} {Ts : List Addr} {ρ : Rho} {H : Hp} {E : XK} : XOk K Ts ρ H E00 E := fun _ _ _ h => h.elim
/-- the turns of a comprehension, its list the thing n -/
def lcD (gd : TGd) (tt : TTd) (te : TEd) (vs : List Nat) (n : Nat) (alive : Mem → Prop) (Q : KD) (S : Sl) : List D → Mem → Prop
  | [], M => alive M ∧ Q (.obj n) M
  | d :: ds, M => alive M ∧ gd d (wipeD S vs) M fun S1 M1 => tt S1 M1 (fun b M2 => if b = true then te S1 M2 (fun y M3 => ∃ acc, M3[n]? = some (.lst acc) ∧ acc.length < sizeLine ∧ lcD gd tt te vs n alive Q S ds (M3.set n (.lst (acc ++ [y])))) E00
      else lcD gd tt te vs n alive Q S ds M2) E00
theorem lcD_alive {gd : TGd} {tt : TTd} {te : TEd} {vs : List Nat} {n : Nat} {alive : Mem → Prop} {Q : KD} {S : Sl} : ∀ {ds : List D} {M : Mem}, lcD gd tt te vs n alive Q S ds M → alive M
  | [], _, h => h.1
  | _ :: _, _, h => h.1
@[simp] def dLc (ti : TId) (gd : TGd) (tt : TTd) (te : TEd) (vs : List Nat) : TEd := fun S M Q E => ti S M (fun ds alive M1 => lcD gd tt te vs M1.length alive Q S ds (M1 ++ [.lst []])) E
@[simp] def dYes : TTd := fun _ M Q _ => Q true M
section
variable {X : Cx} {Ts : List Addr} {E : XK} {pos p : Pos} {tg elt iter : Expr} {ti : TId} {g : TG} {gd : TGd} {tt : TTd} {te : TEd} {vs : List Nat}
theorem lcRead (hgs : TgS X.K vs g gd) (gm : GMono g) {σ : L2.St} {H : Hp} {Q : VK} (h : rdE X.K Ts E (dLc ti gd tt te vs) σ H Q) : tLc (rdI X.K Ts E ti) g (rdT X.K Ts X00 tt) (rdE X.K Ts X00 te) vs σ H Q := by
  obtain ⟨ρ, S, M, Qd, Ed, R, sl, q, k, x⟩ := h
  refine ⟨ρ, S, M, _, Ed, R, sl, q, fun ds alive M1 q1 ρ1 H1 J g1 R1 fd => ?_, x⟩
  intro D hD
  have gx := grw_ext R1 (o := .lst []) hD
  have rn : ext ρ1 M1.length D M1.length = some D := by unfold ext; rw [if_pos rfl]
  refine ⟨fun i m H' => ∃ ρ' M', Grw (ext ρ1 M1.length D) (upd H1 D (.lst [])) ρ' H' ∧ Rl X.K Ts ρ' M' H' ∧ m = ds.length - i ∧ lcD gd tt te vs M1.length alive Qd S (ds.drop i) M',
    ⟨ds.length, _, _, Grw.refl _ _, R1.cellNew (c := .lst []) hD ⟨[], rfl, .nil⟩, rfl, q1⟩, ?_⟩
  rintro i m H2 ⟨ρ2, M2, g2, R2, hm, f2⟩
  obtain ⟨fn, fs⟩ := fd ρ2 M2 H2 (gx.tr g2) R2 (lcD_alive f2) i
  cases hd : ds[i]? with
  | none =>
    rw [drop_none hd] at f2
    exact .inl ⟨fn hd, k _ _ f2.2 ρ2 H2 _ ((g1.tr gx).tr g2) R2 (.obj (g2.r _ _ rn))⟩
  | some d =>
    obtain ⟨go, yl⟩ := fs d hd
    rw [drop_some hd] at f2
    have hl : i < ds.length := (List.getElem?_eq_some_iff.mp hd).1
    refine .inr ⟨go, fun H' => ∃ ρ' M', Grw (ext ρ1 M1.length D) (upd H1 D (.lst [])) ρ' H' ∧ Rl X.K Ts ρ' M' H' ∧ lcD gd tt te vs M1.length alive Qd S (ds.drop (i + 1)) M', fun H' ⟨ρ', M', h1, h2, h3⟩ => ⟨ds.length - (i + 1), by omega, ρ', M', h1, h2, rfl, h3⟩, fun y H3 hy => ?_⟩
    obtain ⟨ρ3, g3, R3, s3⟩ := yl y H3 hy
    have gs : Grw ρ H ρ3 H3 := ((g1.tr gx).tr g2).tr g3
    refine gm _ _ _ _ _ (fun σ4 H4 ⟨e4, hw, S4, sl4, q4⟩ => ?_) (hgs ρ3 H3 (wipeD S vs) (L2.wipe σ vs) d y M2 _ ((sl.grw gs).wipe vs) s3 f2.2)
    subst e4
    refine ⟨hw.trans (wipe_wipe σ vs), ρ3, S4, M2, _, E00, R3, sl4, q4, fun b M5 q5 ρ5 H5 g5 R5 => ?_, xok0⟩
    cases b with
    | false => exact ⟨ρ5, M5, (g2.tr g3).tr g5, R5, q5⟩
    | true =>
      refine ⟨ρ5, S4, M5, _, E00, R5, sl4.grw g5, q5, fun z M6 ⟨acc, em, hz, q6⟩ ρ6 H6 zv g6 R6 s6 => ?_, xok0⟩
      obtain ⟨a', ws, r1, h1, t1⟩ := R6.lst em
      have rD : ρ6 M1.length = some D := (((g2.tr g3).tr g5).tr g6).r _ _ rn
      rw [rD] at r1
      cases r1
      have hc : CSh X.K ρ6 H6 (.lst (acc ++ [z])) (.lst (ws ++ [zv])) := ⟨_, rfl, t1.append (.cons s6 .nil)⟩
      exact ⟨ws, h1, by rw [← t1.length]; exact hz, ρ6, _, (((g2.tr g3).tr g5).tr g6).tr (grw_set R6 em rD), R6.cellSet em rD hc, q6⟩
theorem qe_lc {scope : Scope} {own : List (Str × Nat)} {ifs : List Expr} (hc : X.calm = true) (hN : X.N.Nodup) (hi : QI X Ts E tg iter ti) (ok : BlkOk X.N X.env.scope scope own)
    (hg : ∀ (s : Shared) (H : Hp) (C : Addr) (cl : List (Str × Addr)) (fp : List Addr), PG (X.blk s H scope (compEnvC scope cl C X.env) fp) tg g) (hgs : TgS X.K (own.map (·.2)) g gd) (gm : GMono g)
    (ht : ∀ (s : Shared) (H : Hp) (C : Addr) (cl : List (Str × Addr)) (fp : List Addr), PTs (X.blk s H scope (compEnvC scope cl C X.env) fp) ifs (rdT X.K Ts X00 tt))
    (he : ∀ (s : Shared) (H : Hp) (C : Addr) (cl : List (Str × Addr)) (fp : List Addr), QE (X.blk s H scope (compEnvC scope cl C X.env) fp) Ts X00 elt te) (hs : ∀ x, foldedSetIterable iter X.env x = pure x := by intro _; rfl) :
    QE X Ts E (.ListComp elt [⟨tg, iter, ifs, 0⟩] scope pos) (dLc ti gd tt te (own.map (·.2))) := peLe (pe_lc hc hN hi ok hg ht he hs) fun σ H Q h => lcRead hgs gm h
theorem ptsLe {X : Cx} {ifs : List Expr} {t t' : TT} (h : PTs X ifs t) (i : ∀ σ H Q, t' σ H Q → t σ H Q) : PTs X ifs t' := ⟨fun pins s σ H Q I q => h.run pins s σ H Q I (i σ H Q q)⟩
theorem qts_nil : PTs X [] (rdT X.K Ts E dYes) := ptsLe pts_nil fun σ H Q ⟨ρ, S, M, Qd, Ed, R, sl, q, k, x⟩ => k _ _ q ρ H (Grw.refl _ _) R
theorem qts_one {c : Expr} {t : TTd} (h : QT X Ts E c t) : PTs X [c] (rdT X.K Ts E t) := pts_one h
/-! ### all -/
theorem tabbed_rl {K : PySem.W.Frag} {ρ : Rho} {M : Mem} {H H2 : Hp} {P : Addr} (R : Rl K Ts ρ M H) (hP : P ∈ Ts) (t : Tabbed P H H2) : Grw ρ H ρ H2 ∧ Rl K Ts ρ M H2 := by
  obtain ⟨ps, e, _⟩ := R.tab P hP
  have ne : ∀ b o, H b = some o → (∀ qs, o ≠ .tbl qs) → b ≠ P := fun b o h n z => by
    rw [z, e] at h
    exact n ps (Option.some.inj h).symm
  have g : Grw ρ H ρ H2 := ⟨fun _ _ h => h, fun b xs h => by rw [t.2 b (ne b _ h (fun qs z => by cases z))]; exact h, fun b o u h => by rw [t.2 b (ne b _ h (fun qs z => by cases z))]; exact h⟩
  refine ⟨g, R.inj, R.dom, fun i c h => ?_, fun P' hP' => ?_⟩
  · obtain ⟨a, o, e1, e2, e3⟩ := R.cell i c h
    have q := e3.is
    exact ⟨a, o, e1, by rw [t.2 a (ne a o e2 (fun qs z => by subst z; exact q))]; exact e2, e3.grw g⟩
  · by_cases z : P' = P
    · rw [z]; exact t.1
    · obtain ⟨qs, h1, h2⟩ := R.tab P' hP'
      exact ⟨qs, by rw [t.2 P' z]; exact h1, h2⟩
def allD (gd : TGd) (te : TEd) (vs : List Nat) (alive : Mem → Prop) (Q : KD) (S : Sl) : List D → Mem → Prop
  | [], M => alive M ∧ Q (.bl true) M
  | d :: ds, M => alive M ∧ gd d (wipeD S vs) M fun S1 M1 => te S1 M1 (fun y M2 => ∃ b, y = .bl b ∧ if b = true then allD gd te vs alive Q S ds M2 else Q (.bl false) M2) E00
theorem allD_alive {gd : TGd} {te : TEd} {vs : List Nat} {alive : Mem → Prop} {Q : KD} {S : Sl} : ∀ {ds : List D} {M : Mem}, allD gd te vs alive Q S ds M → alive M
  | [], _, h => h.1
  | _ :: _, _, h => h.1
@[simp] def dAll (ti : TId) (gd : TGd) (te : TEd) (vs : List Nat) : TEd := fun S M Q E => ti S M (fun ds alive M1 => allD gd te vs alive Q S ds M1) E
theorem allRead {P : Addr} (hP : P ∈ Ts) (hgs : TgS X.K vs g gd) (gm : GMono g) {σ : L2.St} {H : Hp} {Q : VK} (h : rdE X.K Ts E (dAll ti gd te vs) σ H Q) : tAllP (rdI X.K Ts E ti) g (rdE X.K Ts X00 te) vs P σ H Q := by
  obtain ⟨ρ, S, M, Qd, Ed, R, sl, q, k, x⟩ := h
  refine ⟨ρ, S, M, _, Ed, R, sl, q, fun ds alive M1 q1 ρ1 H1 J g1 R1 fd => ⟨R1.tab P hP, fun H2 tb => ?_⟩, x⟩
  obtain ⟨gt, R2⟩ := tabbed_rl R1 hP tb
  refine ⟨fun i m H' => ∃ ρ' M', Grw ρ1 H2 ρ' H' ∧ Rl X.K Ts ρ' M' H' ∧ m = ds.length - i ∧ allD gd te vs alive Qd S (ds.drop i) M', ⟨ds.length, _, _, Grw.refl _ _, R2, rfl, q1⟩, ?_⟩
  rintro i m H3 ⟨ρ3, M3, g3, R3, hm, f3⟩
  obtain ⟨fn, fs⟩ := fd ρ3 M3 H3 (gt.tr g3) R3 (allD_alive f3) i
  cases hd : ds[i]? with
  | none =>
    rw [drop_none hd] at f3
    exact .inl ⟨fn hd, k _ _ f3.2 ρ3 H3 _ ((g1.tr gt).tr g3) R3 (.bl true)⟩
  | some d =>
    obtain ⟨go, yl⟩ := fs d hd
    rw [drop_some hd] at f3
    have hl : i < ds.length := (List.getElem?_eq_some_iff.mp hd).1
    refine .inr ⟨go, fun y H4 hy => ?_⟩
    obtain ⟨ρ4, g4, R4, s4⟩ := yl y H4 hy
    have gs : Grw ρ H ρ4 H4 := ((g1.tr gt).tr g3).tr g4
    refine gm _ _ _ _ _ (fun σ5 H5 ⟨e5, hw, S5, sl5, q5⟩ => ?_) (hgs ρ4 H4 (wipeD S vs) (L2.wipe σ vs) d y M3 _ ((sl.grw gs).wipe vs) s4 f3.2)
    subst e5
    refine ⟨hw.trans (wipe_wipe σ vs), ρ4, S5, M3, _, E00, R4, sl5, q5, fun z M6 ⟨b, ez, q6⟩ ρ6 H6 zv g6 R6 s6 => ?_, xok0⟩
    subst ez
    cases s6
    refine ⟨b, rfl, ?_⟩
    cases b with
    | false => exact k _ _ q6 ρ6 H6 _ (gs.tr g6) R6 (.bl false)
    | true => exact ⟨ds.length - (i + 1), by omega, ρ6, M6, (g3.tr g4).tr g6, R6, rfl, q6⟩
theorem qe_all {c P : Addr} {gpos : Pos} {scope : Scope} {own : List (Str × Nat)} {k : Nat}
    (hP : P ∈ Ts) (hc : X.calm = true) (hr : Room (k + 1) X.A) (hg : Gl X "all") (hm : X.mg "all" = none) (TB : TabB X.base X.mg c P) (hcode : X.env.code = .ref c) (hN : X.N.Nodup) (ok : BlkOk X.N X.env.scope scope own) (hco : scope.isCoroutine = false)
    (hcell : ∀ y ∈ scope.names, y.2 ≠ .cell) (h0 : scope.names.lookup (".0" : Str) = some NameKind.local) (hi : QI X Ts E tg iter ti)
    (pg : ∀ (A' : Around) (s : Shared) (H : Hp) (C : Addr) (cl : List (Str × Addr)) (cd : Value) (fp : List Addr), PG (gcx X A' s H (genEnv scope cl C cd builtinsNs X.env) scope fp) tg g) (hgs : TgS X.K (own.map (·.2)) g gd) (gm : GMono g)
    (pe : ∀ (A' : Around) (s : Shared) (H : Hp) (C : Addr) (cl : List (Str × Addr)) (cd : Value) (fp : List Addr), Room k A' → A'.guards = X.A.guards → QE (gcx X A' s H (genEnv scope cl C cd builtinsNs X.env) scope fp) Ts X00 elt te)
    (hs : ∀ v, genFold iter X.env v = pure v := by intro _; rfl)
    (he : starEach [.GeneratorExp elt [⟨tg, iter, [], 0⟩] scope gpos] X.env = (false, eval (.GeneratorExp elt [⟨tg, iter, [], 0⟩] scope gpos) X.env) :: starEach [] X.env := by rfl) :
    QE X Ts E (.Call (.Name "all" p) [.GeneratorExp elt [⟨tg, iter, [], 0⟩] scope gpos] [] pos) (dAll ti gd te (own.map (·.2))) := peLe (pe_allP hc hr hg hm TB hcode hN ok hco hcell h0 hi pg pe hs he) fun σ H Q h => allRead hP hgs gm h
end
end Dl
set_option Elab.async false
set_option linter.all false
set_option maxRecDepth 100000
set_option maxHeartbeats 4000000
/-! Calls by data: own defs, methods, new instances. -/
namespace Dl
open PySem PySem.Spec PyProof.Rows L2 GxR Gn
/-- room, and no guard around -/
structure RoomG (k : Nat) (A : Around) : Prop where
  r : Room k A
  g : A.guards = some []
theorem RoomG.mono {j k : Nat} {A : Around} (h : RoomG k A) (l : j ≤ k) : RoomG j A := ⟨h.r.mono l, h.g⟩
/-- the def at f keeps sp, wherever no guard stands -/
structure FnG (P : Program) (w : World) (K : PySem.W.Frag) (mg : Str → Option Value) (base : Heap) (k : Nat) (f : Addr) (fd : FuncData) (n : Nat) (ps : List Str) (sp : Sp) : Prop where
  cnt : ps.length = n
  len : ∀ vs H Q E, sp vs H Q E → vs.length = n
  run : ∀ (A : Around) (outer : List Env) (s : Shared) (H : Hp) (args : Args) (us : List Value) (vs : List V) (Q : VK) (E : XK), RoomG k A → Env0 P w K mg base A outer s H → BindsTo s fd args (ps.zip us) → Vals vs us → sp vs H Q E →
    codeAny (model P w) A (.call (.ref f) args) (CR (L2.CX P w) outer P w H s Q E) s
theorem FnG.mono {P : Program} {w : World} {K : PySem.W.Frag} {mg : Str → Option Value} {base : Heap} {j k : Nat} {f : Addr} {fd : FuncData} {n : Nat} {ps : List Str} {sp : Sp} (F : FnG P w K mg base j f fd n ps sp) (h : j ≤ k) : FnG P w K mg base k f fd n ps sp :=
  ⟨F.cnt, F.len, fun A outer s H args us vs Q E hr => F.run A outer s H args us vs Q E (hr.mono h)⟩
section
variable {X : Cx} {k : Nat} {f C : Addr} {fd : FuncData} {n : Nat} {ps : List Str} {sp : Sp} {dvs : List V} {ds : List Value} {E : XK} {x m : Str} {p pos apos : Pos} {e o : Expr} {es : List Expr} {ta : TE} {t : TA}
theorem xe_of (tk : Takes X (fun c d _ H => E c d H)) {pins : List (Addr × Obj)} {σ : L2.St} {H : Hp} {s s' : Shared} {u : Value} (I : Inv X pins σ H s) (h : L2.CX X.prog X.w X.stack H s E u s') : X.xe u s' :=
  passes_call (W := fun c d _ H => E c d H) tk (fun _ _ _ _ q => q) pins σ H s u s' I h
theorem goG {pins : List (Addr × Obj)} {σ : L2.St} {H : Hp} {s : Shared} {Q : VK} {us : List Value} {vs : List V} (F : FnG X.prog X.w X.K X.mg X.base k f fd n ps sp) (hr : RoomG k X.A) (hb : Binds X.K fd ps ds) (hd : Vals dvs ds) (tk : Takes X (fun c d _ H => E c d H))
    (I : Inv X pins σ H s) (r : Vals vs us) (h : sp (vs ++ dvs) H Q E) : wpAny (model X.prog X.w) X.A (call (.ref f) us) (EP X pins σ Q) X.xe s := by
  have rr := r.append hd
  have hl : (us ++ ds).length = ps.length := by rw [← rr.length, F.cnt]; exact F.len _ _ _ _ h
  refine wpAny_call (codeAny_mono (F.run X.A X.stack s H ⟨us, []⟩ _ _ Q E hr I.env0 (hb s us I.kIn hl) rr h) fun res s' hres => ?_)
  match res, hres with
  | .error u, hres => exact xe_of tk I hres
  | .ok (.ret u), hres => exact I.after hres
  | .ok .next, hres => exact False.elim hres
  | .ok .brk, hres => exact False.elim hres
  | .ok .cont, hres => exact False.elim hres
theorem callG (F : FnG X.prog X.w X.K X.mg X.base k f fd n ps sp) (hr : RoomG k X.A) (hg : Gl X x) (hm : X.mg x = some (.ref f)) (hk : PySem.W.keepIn X.K (.ref f) = true) (hb : Binds X.K fd ps ds) (hd : Vals dvs ds) (tk : Takes X (fun c d _ H => E c d H))
    (ha : PA X (e :: es) t) (hdb : (x == ("__debug__" : Str)) = false := by decide) (he : starEach (e :: es) X.env = (false, eval e X.env) :: starEach es X.env := by rfl) (hpl : (backTo pos (starEach es X.env)).any (·.1) = false := by rfl) :
    PE X (.Call (.Name x p) (e :: es) [] pos) (tCall sp dvs E t) :=
  ⟨fun pins s σ H Q I h => wpAny_Call_Name_kw (ld_glob I hg hm (PySem.W.callWith_K (h₀ := X.base) I.ok.mod.kin hk (thn (ha.run pos pins s σ H _ I h) fun us s1 ⟨vs, H1, I1, r, q⟩ => ⟨I1.kIn, goG F hr hb hd tk I1 r q⟩) he hpl) hdb)⟩
theorem callG0 (F : FnG X.prog X.w X.K X.mg X.base k f fd n ps sp) (hr : RoomG k X.A) (hg : Gl X x) (hm : X.mg x = some (.ref f)) (hk : PySem.W.keepIn X.K (.ref f) = true) (hb : Binds X.K fd ps ds) (hd : Vals dvs ds) (tk : Takes X (fun c d _ H => E c d H))
    (hdb : (x == ("__debug__" : Str)) = false := by decide) : PE X (.Call (.Name x p) [] [] pos) (tCall sp dvs E tNil) :=
  ⟨fun pins s σ H Q I h => wpAny_Call_Name_kw (ld_glob I hg hm (PySem.W.callWith_K0 I.kIn hk (goG (us := []) F hr hb hd tk I .nil h)) hdb)⟩
theorem methG {pl : Sem Bool} (he : PE X o ta) (c : Cls X.K C) (hm : Meth X.K C m f) (F : FnG X.prog X.w X.K X.mg X.base k f fd n ps sp) (hr : RoomG k X.A) (hb : Binds X.K fd ps ds) (hd : Vals dvs ds) (tk : Takes X (fun c d _ H => E c d H)) (ha : PA X (e :: es) t)
    (hst : starEach (e :: es) X.env = (false, eval e X.env) :: starEach es X.env := by rfl) (hpl : (backTo pos (starEach es X.env)).any (·.1) = false := by rfl)
    (ht : eval (.Call (.Attribute o m apos) (e :: es) [] pos) X.env = (do
      let ov ← eval o X.env
      standAt apos.atName
      let (f, first) ← holding [ov] (getMethod ov m pl)
      callWith pos f first (backTo pos (starEach (e :: es) X.env)) (backToKw pos (keywordEach [] X.env))) := by rfl) :
    PE X (.Call (.Attribute o m apos) (e :: es) [] pos) (tMeth C m sp dvs E ta t) :=
  ⟨fun pins s σ H Q I h => PySem.W.methodCall_KW (pl := pl) (thn (he.run pins s σ H _ I h) fun u s1 ⟨y, H1, I1, ry, a, dx, fs, ey, ea, l, q⟩ => by
    subst ey
    have eu : u = Value.ref a := ry
    subst eu
    exact getmeth_ok I1 ea c hm l (PySem.W.callWith_K (first := [.ref a]) (h₀ := X.base) I.ok.mod.kin hm.kp (thn (ha.run pos pins s1 σ H1 _ I1 q) fun us s2 ⟨vs, H2, I2, r, q2⟩ => ⟨I2.kIn, goG (us := .ref a :: us) (vs := .ref a :: vs) F hr hb hd tk I2 (.cons rfl r) q2⟩) hst hpl)) ht⟩
theorem methG0 {pl : Sem Bool} (he : PE X o ta) (c : Cls X.K C) (hm : Meth X.K C m f) (F : FnG X.prog X.w X.K X.mg X.base k f fd n ps sp) (hr : RoomG k X.A) (hb : Binds X.K fd ps ds) (hd : Vals dvs ds) (tk : Takes X (fun c d _ H => E c d H))
    (ht : eval (.Call (.Attribute o m apos) [] [] pos) X.env = (do
      let ov ← eval o X.env
      standAt apos.atName
      let (f, first) ← holding [ov] (getMethod ov m pl)
      callWith pos f first (backTo pos (starEach [] X.env)) (backToKw pos (keywordEach [] X.env))) := by rfl) :
    PE X (.Call (.Attribute o m apos) [] [] pos) (tMeth C m sp dvs E ta tNil) :=
  ⟨fun pins s σ H Q I h => PySem.W.methodCall_KW (pl := pl) (thn (he.run pins s σ H _ I h) fun u s1 ⟨y, H1, I1, ry, a, dx, fs, ey, ea, l, q⟩ => by
    subst ey
    have eu : u = Value.ref a := ry
    subst eu
    exact getmeth_ok I1 ea c hm l (PySem.W.callWith_K0 (first := [.ref a]) I1.kIn hm.kp (goG (us := [.ref a]) (vs := [.ref a]) F hr hb hd tk I1 (.cons rfl .nil) q))) ht⟩
end
/-! ### promises by data -/
abbrev SpD := List D → Mem → KD → KE' → Prop
def spOf (K : PySem.W.Frag) (Ts : List Addr) (n : Nat) (sp : SpD) : Sp := fun vs H Q E => vs.length = n ∧ ∃ ρ M ds Qd Ed, Rl K Ts ρ M H ∧ Shs K ρ H ds vs ∧ sp ds M Qd Ed ∧ KOk K Ts ρ H Qd Q ∧ XOk K Ts ρ H Ed E
abbrev FnD (P : Program) (w : World) (K : PySem.W.Frag) (mg : Str → Option Value) (base : Heap) (Ts : List Addr) (k : Nat) (f : Addr) (fd : FuncData) (n : Nat) (ps : List Str) (sp : SpD) : Prop := FnG P w K mg base k f fd n ps (spOf K Ts n sp)
theorem FnD.imp {P : Program} {w : World} {K : PySem.W.Frag} {mg : Str → Option Value} {base : Heap} {Ts : List Addr} {k : Nat} {f : Addr} {fd : FuncData} {n : Nat} {ps : List Str} {sp sp' : SpD} (F : FnD P w K mg base Ts k f fd n ps sp) (h : ∀ ds M Q E, ds.length = n → sp' ds M Q E → sp ds M Q E) : FnD P w K mg base Ts k f fd n ps sp' := by
  have conv : ∀ vs H Q E, spOf K Ts n sp' vs H Q E → spOf K Ts n sp vs H Q E := fun vs H Q E ⟨hl, ρ, M, ds, Qd, Ed, R, s, q, kk, x⟩ => ⟨hl, ρ, M, ds, Qd, Ed, R, s, h _ _ _ _ (s.length.trans hl) q, kk, x⟩
  exact ⟨F.cnt, fun vs H Q E q => F.len vs H Q E (conv _ _ _ _ q), fun A outer s H args us vs Q E hr e0 hb r q => F.run A outer s H args us vs Q E hr e0 hb r (conv _ _ _ _ q)⟩
/-- a def's slots at its entry -/
@[simp] def startD (N : List Str) (ds : List D) : Sl := ds.map some ++ List.replicate (N.length - ds.length) none
theorem start_sls {K : PySem.W.Frag} {ρ : Rho} {H : Hp} {ds : List D} {vs : List V} (N : List Str) (h : Shs K ρ H ds vs) : Sls K ρ H (startD N ds) (L2.start N vs) := by
  unfold startD L2.start
  refine ⟨by simp [h.length], fun j d e => ?_⟩
  by_cases hj : j < ds.length
  · rw [List.getElem?_append_left (by simpa using hj), List.getElem?_map, Option.map_eq_some_iff] at e
    obtain ⟨d', e1, e2⟩ := e
    cases e2
    obtain ⟨v, e3, s⟩ := h.getD e1
    exact ⟨v, by rw [List.getElem?_append_left (by rw [List.length_map, ← h.length]; exact hj), List.getElem?_map, e3]; rfl, s⟩
  · rw [List.getElem?_append_right (by simpa using Nat.le_of_not_lt hj)] at e
    have := List.mem_of_getElem? e
    simp at this
section
variable {P : Program} {w : World} {K : PySem.W.Frag} {mg : Str → Option Value} {base : Heap} {Ts : List Addr}
/-- a def keeps a promise by data: its body read, the reading shown -/
theorem fnD {x qual : Str} {st : Stmt} {f : Addr} {fd : FuncData} {N ps : List Str} {k : Nat} {sp : SpD} {c0 : Value} {t : TSd} (F : Fun K x qual st f fd) (hc : fd.code = c0) (S : FnScope N ps (defScope st))
    (body : ∀ (A : Around) (outer : List Env) (s : Shared) (H : Hp) (E : XK), RoomG k (A.deeper (envOfC qual (defScope st) s.heap.objs.size f c0)) → QSs (cxOf (L2.CX P w) P w K mg base N qual (defScope st) f c0 A outer s H E) Ts E (defBody st) t)
    (h : ∀ ds M Q E, ds.length = ps.length → sp ds M Q E → t { nx := fun _ M' => Q .non M', rt := Q } E (startD N ds) M) : FnD P w K mg base Ts (k + 1) f fd ps.length ps sp := by
  obtain ⟨oc, od, kV, doc, pm, an, cdv, ct, osl, rfl, lk, hcd⟩ := F.ex
  have hc : cdv = c0 := hc
  subst hc
  refine ⟨rfl, fun vs H Q E q => q.1, fun A outer s H args us vs Q E hr e0 hb r hsp => ?_⟩
  obtain ⟨hl, ρ, M, ds, Qd, Ed, R, sv, q, kk, xx⟩ := id hsp
  have ksp : K.In s.heap := e0.mod.kin.keeps fun b o e => (e0.bs b o e).1
  have hpar : ∀ y ∈ ps.zip us, (defScope st).names.lookup y.1 = some .local ∨ ((defScope st).names.lookup y.1 = some .cell ∧ ((cellsFrom (s.heap.objs.size + 1) (defScope st).names []).lookup y.1).isSome = true) := fun y hy =>
    (S.par y.1 (List.of_mem_zip (a := y.1) (b := y.2) hy).1).elim .inl fun q => .inr ⟨q, PySem.W.cellsFrom_some _ _ _ (.inl q)⟩
  refine codeAny_call_function hr.r.depth (ksp _ _ lk) rfl S.co S.gen rfl (PySem.W.codeRec_of ksp hcd) (hb _ _ _ _ (wpAny_newFunctionEnv_cells S.kind hpar fun env he s1 nx => ?_))
  subst he
  refine ⟨(e0.mod.nolimit.keeps fun b o e => (e0.bs b o e).1).keeps nx.toInCall.keep, codeAny_func ?_⟩
  have hr' : RoomG k (A.deeper (envOfC qual (defScope st) s.heap.objs.size f cdv)) := ⟨hr.r.deeper _, hr.g⟩
  have I0 := inv_start (CX := L2.CX P w) (E := E) (qual := qual) (f := f) (cd := cdv) S hr.r.hd e0 (vs := vs) (by rw [hl]) r nx
  have rd : rdS K Ts E t { nx := fun _ H' => Q .non H', rt := Q } (L2.start N vs) H :=
    ⟨ρ, startD N ds, M, { nx := fun _ M' => Qd .non M', rt := Qd }, Ed, R, start_sls N sv, h ds M Qd Ed (sv.length.trans hl) q, fun S' M' q' ρ' H' σ' g R' _ => kk _ _ q' ρ' H' .non g R' .non, kk, fun _ _ z => z.elim, fun _ _ z => z.elim, xx⟩
  refine wpAny_mono ((body A outer s H E hr').run [] s1 (L2.start N vs) H _ I0 rd) (fun fl s' hs => ?_) fun _ _ z => z
  match fl, hs with
  | .ret u, ⟨v, σ', H', J, rv, q⟩ => exact ⟨v, H', J.os, J.bare, J.base, J.hok, rv, q⟩
  | .next, ⟨σ', H', J, q⟩ => exact ⟨.non, H', J.os, J.bare, J.base, J.hok, rfl, q⟩
  | .brk, ⟨_, _, _, q⟩ => exact q.elim
  | .cont, ⟨_, _, _, q⟩ => exact q.elim
theorem takesD {N : List Str} {qual : Str} {scope : Scope} {f : Addr} {cd : Value} {A : Around} {outer : List Env} {s : Shared} {H : Hp} {E : XK} : Takes (cxOf (L2.CX P w) P w K mg base N qual scope f cd A outer s H E) (fun c d _ H => E c d H) := takes_of rfl rfl rfl rfl
theorem passD {N : List Str} {qual : Str} {scope : Scope} {f : Addr} {cd : Value} {A : Around} {outer : List Env} {s : Shared} {H : Hp} {E : XK} : PassesOwn (model P w) (A.deeper (envOfC qual scope s.heap.objs.size f cd)) (envOfC qual scope s.heap.objs.size f cd) (cxOf (L2.CX P w) P w K mg base N qual scope f cd A outer s H E).xe :=
  passes_of (X := cxOf (L2.CX P w) P w K mg base N qual scope f cd A outer s H E) rfl
end
section
variable {X : Cx} {Ts : List Addr} {k : Nat} {f C : Addr} {fd : FuncData} {n : Nat} {ps : List Str} {sp : SpD} {E : XK} {x m : Str} {p pos apos : Pos} {e o : Expr} {es : List Expr} {ta : TEd} {t : TAd}
@[simp] def dCall (n : Nat) (sp : SpD) (t : TAd) : TEd := fun S M Q E => t S M (fun ds M1 => ds.length = n ∧ sp ds M1 Q E) E
theorem callRead {σ : L2.St} {H : Hp} {Q : VK} (h : rdE X.K Ts E (dCall n sp t) σ H Q) : tCall (spOf X.K Ts n sp) [] E (rdA X.K Ts E t) σ H Q := by
  obtain ⟨ρ, S, M, Qd, Ed, R, sl, q, kk, xx⟩ := h
  exact ⟨ρ, S, M, _, Ed, R, sl, q, fun ds M1 ⟨hl, q1⟩ ρ1 H1 vs g1 R1 s1 => by
    show spOf X.K Ts n sp (vs ++ []) H1 Q E
    rw [List.append_nil]
    exact ⟨s1.length.symm.trans hl, ρ1, M1, ds, Qd, Ed, R1, s1, q1, kk.grw g1, xx.grw g1⟩, xx⟩
theorem qe_call (F : FnD X.prog X.w X.K X.mg X.base Ts k f fd n ps sp) (hr : RoomG k X.A) (hg : Gl X x) (hm : X.mg x = some (.ref f)) (hk : PySem.W.keepIn X.K (.ref f) = true) (hb : Binds X.K fd ps []) (tk : Takes X (fun c d _ H => E c d H))
    (ha : QA X Ts E (e :: es) t) (hdb : (x == ("__debug__" : Str)) = false := by decide) (he : starEach (e :: es) X.env = (false, eval e X.env) :: starEach es X.env := by rfl) (hpl : (backTo pos (starEach es X.env)).any (·.1) = false := by rfl) :
    QE X Ts E (.Call (.Name x p) (e :: es) [] pos) (dCall n sp t) := peLe (callG F hr hg hm hk hb .nil tk ha hdb he hpl) fun σ H Q h => callRead h
/-- o.m(..) -/
def dMeth (K : PySem.W.Frag) (C : Addr) (m : Str) (n : Nat) (sp : SpD) (ta : TEd) (t : TAd) : TEd := fun S M Q E => ta S M (fun o M1 => ∃ i fs, o = .obj i ∧ M1[i]? = some (.ins C fs) ∧ fs.lookup m = none ∧ t S M1 (fun ds M2 => ds.length + 1 = n ∧ sp (o :: ds) M2 Q E) E) E
theorem methRead {σ : L2.St} {H : Hp} {Q : VK} (h : rdE X.K Ts E (dMeth X.K C m n sp ta t) σ H Q) : tMeth C m (spOf X.K Ts n sp) [] E (rdE X.K Ts E ta) (rdA X.K Ts E t) σ H Q := by
  obtain ⟨ρ, S, M, Qd, Ed, R, sl, q, kk, xx⟩ := h
  exact ⟨ρ, S, M, _, Ed, R, sl, q, fun d M1 ⟨i, fs, e, em, hl, q1⟩ ρ1 H1 v g1 R1 s1 => by
    subst e
    obtain ⟨a', dx, vs, r1, e2, s3⟩ := R1.inst em
    have s1' := s1
    cases s1 with
    | @obj _ a ea =>
      rw [ea] at r1; cases r1
      exact ⟨_, dx, vs, rfl, e2, s3.lookupN hl, ρ1, S, M1, _, Ed, R1, sl.grw g1, q1, fun ds M2 ⟨hl2, q2⟩ ρ2 H2 us g2 R2 s2 => by
        show spOf X.K Ts n sp (_ :: (us ++ [])) H2 Q E
        rw [List.append_nil]
        exact ⟨by rw [List.length_cons, ← s2.length]; exact hl2, ρ2, M2, _, Qd, Ed, R2, .cons (Sh.grw g2 _ _ s1') s2, q2, kk.grw (g1.tr g2), xx.grw (g1.tr g2)⟩, xx.grw g1⟩, xx⟩
theorem qe_meth {pl : Sem Bool} (ho : QE X Ts E o ta) (c : Cls X.K C) (hm : Meth X.K C m f) (F : FnD X.prog X.w X.K X.mg X.base Ts k f fd n ps sp) (hr : RoomG k X.A) (hb : Binds X.K fd ps []) (tk : Takes X (fun c d _ H => E c d H)) (ha : QA X Ts E (e :: es) t)
    (hst : starEach (e :: es) X.env = (false, eval e X.env) :: starEach es X.env := by rfl) (hpl : (backTo pos (starEach es X.env)).any (·.1) = false := by rfl)
    (ht : eval (.Call (.Attribute o m apos) (e :: es) [] pos) X.env = (do
      let ov ← eval o X.env
      standAt apos.atName
      let (f, first) ← holding [ov] (getMethod ov m pl)
      callWith pos f first (backTo pos (starEach (e :: es) X.env)) (backToKw pos (keywordEach [] X.env))) := by rfl) :
    QE X Ts E (.Call (.Attribute o m apos) (e :: es) [] pos) (dMeth X.K C m n sp ta t) := peLe (methG ho c hm F hr hb .nil tk ha hst hpl ht) fun σ H Q h => methRead h
end
end Dl
set_option Elab.async false
set_option linter.all false
set_option maxRecDepth 100000
set_option maxHeartbeats 4000000
/-! Calls of what is built in, methods of lists and dicts, by data. -/
namespace Dl
open PySem PySem.Spec PyProof.Rows L2 GxR Gn
section
variable {X : Cx} {Ts : List Addr} {E : XK} {pos p apos : Pos} {a b c e o : Expr} {es : List Expr} {ta tb : TEd} {t : TAd}
def CallD (X : Cx) (Ts : List Addr) (r : List V → Hp → VK → Prop) (rd : List D → Mem → KD → Prop) : Prop :=
  ∀ ρ M H ds vs Q Qd, Rl X.K Ts ρ M H → Shs X.K ρ H ds vs → rd ds M Qd → KOk X.K Ts ρ H Qd Q → r vs H Q
@[simp] def dCB (rd : List D → Mem → KD → Prop) (t : TAd) : TEd := fun S M Q E => t S M (fun ds M1 => rd ds M1 Q) E
theorem cbRead {r : List V → Hp → VK → Prop} {rd : List D → Mem → KD → Prop} (h : CallD X Ts r rd) {σ : L2.St} {H : Hp} {Q : VK} (q : rdE X.K Ts E (dCB rd t) σ H Q) : tCB r (rdA X.K Ts E t) σ H Q := by
  obtain ⟨ρ, S, M, Qd, Ed, R, sl, q, k, x⟩ := q
  exact ⟨ρ, S, M, _, Ed, R, sl, q, fun ds M1 q1 ρ1 H1 vs g1 R1 s1 => h ρ1 M1 H1 ds vs Q Qd R1 s1 q1 (k.grw g1), x⟩
theorem qe_cb {id : String} {x : Str} {r : List V → Hp → VK → Prop} {rd : List D → Mem → KD → Prop} (hr : CallR X (.builtin id) r) (hd : CallD X Ts r rd) (hg : Gl X x) (hm : X.mg x = none) (hv : bootBuiltins x = some (.builtin id)) (ha : QA X Ts E (e :: es) t) (hn : x ≠ "__name__" := by decide) (hdb : (x == ("__debug__" : Str)) = false := by decide)
    (he : starEach (e :: es) X.env = (false, eval e X.env) :: starEach es X.env := by rfl) (hpl : (backTo pos (starEach es X.env)).any (·.1) = false := by rfl) : QE X Ts E (.Call (.Name x p) (e :: es) [] pos) (dCB rd t) := peLe (pe_callB hr hg hm hv ha hn hdb he hpl) fun σ H Q h => cbRead hd h
theorem qe_cty {T : String} {x : Str} {r : List V → Hp → VK → Prop} {rd : List D → Mem → KD → Prop} (hr : CallR X (.type T) r) (hd : CallD X Ts r rd) (hg : Gl X x) (hm : X.mg x = none) (hv : bootBuiltins x = some (.type T)) (ha : QA X Ts E (e :: es) t) (hn : x ≠ "__name__" := by decide) (hdb : (x == ("__debug__" : Str)) = false := by decide)
    (he : starEach (e :: es) X.env = (false, eval e X.env) :: starEach es X.env := by rfl) (hpl : (backTo pos (starEach es X.env)).any (·.1) = false := by rfl) : QE X Ts E (.Call (.Name x p) (e :: es) [] pos) (dCB rd t) := peLe (pe_callTy hr hg hm hv ha hn hdb he hpl) fun σ H Q h => cbRead hd h
/-! ### len -/
def lenD : List D → Mem → KD → Prop
  | [.tup ds], M, Q => Q (.int (ds.length : Nat)) M
  | [.str z], M, Q => z.length ≤ sizeLine ∧ Q (.int (z.length : Nat)) M
  | [.obj i], M, Q => (∃ ds, M[i]? = some (.lst ds) ∧ Q (.int (ds.length : Nat)) M) ∨ ∃ kvs, M[i]? = some (.dK kvs) ∧ Q (.int (kvs.length : Nat)) M
  | _, _, _ => False
def rLenH (X : Cx) : List V → Hp → VK → Prop := fun xs H Q => (∃ x n, xs = [x] ∧ LenV X.K x H n ∧ Q (.int n) H) ∨ ∃ a kvs, xs = [V.ref a] ∧ H a = some (.dK kvs) ∧ Q (.int kvs.length) H
theorem cr_lenH : CallR X (.builtin "len") (rLenH X) := CallR.or call_len call_lenD
theorem cd_len : CallD X Ts (rLenH X) lenD := fun ρ M H ds vs Q Qd R s h k => by
  cases s with
  | nil => exact h.elim
  | cons s1 s2 =>
    cases s2 with
    | cons _ _ => cases s1 <;> exact h.elim
    | nil =>
      cases s1 with
      | str z => exact .inl ⟨_, _, rfl, ⟨h.1, rfl⟩, k.same R h.2 (.int _)⟩
      | @tup a xs ds ha hs => exact .inl ⟨_, ds.length, rfl, .inr ⟨xs, ha, hs.length⟩, k.same R (show Qd (.int (ds.length : Nat)) M from h) (.int _)⟩
      | @obj i a ea =>
        rcases h with ⟨ds, em, q⟩ | ⟨kvs, em, q⟩
        · obtain ⟨a', ws, r1, h1, t1⟩ := R.lst em
          rw [ea] at r1; cases r1
          exact .inl ⟨_, ds.length, rfl, .inl ⟨ws, SqL.of h1, t1.length⟩, k.same R q (.int _)⟩
        · obtain ⟨a', ws, r1, h1, t1⟩ := R.dict em
          rw [ea] at r1; cases r1
          refine .inr ⟨_, ws, rfl, h1, ?_⟩
          rw [← t1.length]
          exact k.same R q (.int _)
      | _ => exact h.elim
/-! ### isinstance of built-in types -/
def kindD : D → Mem → Option String
  | .non, _ => some "NoneType"
  | .bl _, _ => some "bool"
  | .int _, _ => some "int"
  | .str _, _ => some "str"
  | .tup _, _ => some "tuple"
  | .obj i, M => match M[i]? with
    | some (.lst _) => some "list"
    | some (.dK _) => some "dict"
    | _ => none
  | _, _ => none
def isiD : List D → Mem → KD → Prop
  | [x, .ty T], M, Q => ∃ k b, kindD x M = some k ∧ kitB k T = some b ∧ Q (.bl b) M
  | _, _, _ => False
theorem kind_ty {K : PySem.W.Frag} {ρ : Rho} {M : Mem} {H : Hp} {d : D} {v : V} {n : String} (R : Rl K Ts ρ M H) (s : Sh K ρ H d v) (e : kindD d M = some n) : TyX K H v (.type n) := by
  cases s with
  | non => cases e; exact .base .non
  | bl b => cases e; exact .base (.bl b)
  | int i => cases e; exact .base (.int i)
  | str x => cases e; exact .base (.str x)
  | tup ha hs =>
    cases e
    exact .base (.tup ha)
  | @obj i a ea =>
    have e : (match M[i]? with | some (.lst _) => some "list" | some (.dK _) => some "dict" | _ => none) = some n := e
    cases em : M[i]? with
    | none => rw [em] at e; cases e
    | some cc =>
      rw [em] at e
      cases cc with
      | lst ds =>
        cases e
        obtain ⟨a', vs, r1, g1, s1⟩ := R.lst em
        rw [ea] at r1; cases r1
        exact .base (.lst g1)
      | dK kvs =>
        cases e
        obtain ⟨a', vs, r1, g1, s1⟩ := R.dict em
        rw [ea] at r1; cases r1
        exact .base (.dK g1)
      | dT kvs => cases e
      | ins C fs => cases e
  | adr a => cases e
  | ty n => cases e
  | scr e2 => cases e
theorem cd_isi : CallD X Ts (rIsi X.K) isiD := fun ρ M H ds vs Q Qd R s h k => by
  cases s with
  | nil => exact h.elim
  | cons s1 s2 =>
    cases s2 with
    | nil => exact h.elim
    | cons s2 s3 =>
      cases s3 with
      | cons _ _ => cases s2 <;> exact h.elim
      | nil =>
        cases s2 with
        | ty T =>
          obtain ⟨n, b, e1, e2, q⟩ := h
          exact ⟨_, _, _, _, b, rfl, .ty T, kind_ty R s1 e1, kit_ty e2, k.same R q (.bl b)⟩
        | _ => exact h.elim
/-! ### int, tuple, list -/
def intOfD : List D → Mem → KD → Prop
  | [.int i], M, Q => Q (.int i) M
  | [.bl b], M, Q => Q (.int (if b then 1 else 0)) M
  | _, _, _ => False
theorem cd_int : CallD X Ts (fun xs H Q => (∃ i, xs = [V.int i] ∧ Q (.int i) H) ∨ ∃ k, xs = [V.bl k] ∧ Q (.int (if k then 1 else 0)) H) intOfD := fun ρ M H ds vs Q Qd R s h k => by
  cases s with
  | nil => exact h.elim
  | cons s1 s2 =>
    cases s2 with
    | cons _ _ => cases s1 <;> exact h.elim
    | nil =>
      cases s1 with
      | int i => exact .inl ⟨i, rfl, k.same R (show Qd (.int i) M from h) (.int i)⟩
      | bl b => exact .inr ⟨b, rfl, k.same R (show Qd (.int (if b then 1 else 0)) M from h) (.int _)⟩
      | _ => exact h.elim
def tupOfD : List D → Mem → KD → Prop
  | [.tup ds], M, Q => Q (.tup ds) M
  | [.obj i], M, Q => ∃ ds, M[i]? = some (.lst ds) ∧ Q (.tup ds) M
  | _, _, _ => False
def rTupOf (X : Cx) : List V → Hp → VK → Prop := fun xs H Q => ∃ p ys, xs = [.ref p] ∧ ((SqL X.K H p ys ∧ ∀ l, H l = none → Q (.ref l) (upd H l (.tup ys))) ∨ (SqT X.K H p ys ∧ Q (.ref p) H))
theorem cd_tup : CallD X Ts (rTupOf X) tupOfD := fun ρ M H ds vs Q Qd R s h k => by
  cases s with
  | nil => exact h.elim
  | cons s1 s2 =>
    cases s2 with
    | cons _ _ => cases s1 <;> exact h.elim
    | nil =>
      cases s1 with
      | @tup a xs ds ha hs => exact ⟨a, xs, rfl, .inr ⟨ha, k.same R (show Qd (.tup ds) M from h) (.tup ha hs)⟩⟩
      | @obj i a ea =>
        obtain ⟨ds, em, q⟩ := h
        obtain ⟨a', ws, r1, h1, t1⟩ := R.lst em
        rw [ea] at r1; cases r1
        exact ⟨a, ws, rfl, .inl ⟨SqL.of h1, fun l hl => newTup R t1 k q hl⟩⟩
      | _ => exact h.elim
def lstOfD : List D → Mem → KD → Prop
  | [.tup ds], M, Q => Q (.obj M.length) (M ++ [.lst ds])
  | [.obj i], M, Q => ∃ ds, M[i]? = some (.lst ds) ∧ Q (.obj M.length) (M ++ [.lst ds])
  | [.str z], M, Q => z.cps.size ≤ sizeLine ∧ Q (.obj M.length) (M ++ [.lst (sgD z)])
  | _, _, _ => False
def rLstOf (X : Cx) : List V → Hp → VK → Prop := fun xs H Q => (∃ p ys, xs = [.ref p] ∧ (SqL X.K H p ys ∨ SqT X.K H p ys) ∧ ∀ l, H l = none → Q (.ref l) (upd H l (.lst ys))) ∨ Zn.rListS xs H Q
theorem cr_lstOf (hc : X.A.handled = none) : CallR X (.type "list") (rLstOf X) := CallR.or call_list_of (Zn.cr_listS hc)
theorem shs_signs {K : PySem.W.Frag} {ρ : Rho} {H : Hp} (z : Str) : Shs K ρ H (sgD z) (Zn.signs z) := by
  unfold sgD Zn.signs
  induction z.cps.toList with
  | nil => exact .nil
  | cons c cs ih => exact .cons (.str _) ih
theorem cd_lst : CallD X Ts (rLstOf X) lstOfD := fun ρ M H ds vs Q Qd R s h k => by
  cases s with
  | nil => exact h.elim
  | cons s1 s2 =>
    cases s2 with
    | cons _ _ => cases s1 <;> exact h.elim
    | nil =>
      cases s1 with
      | @tup a xs ds ha hs => exact .inl ⟨a, xs, rfl, .inr ha, fun l hl => newLst R hs k h hl⟩
      | @obj i a ea =>
        obtain ⟨ds, em, q⟩ := h
        obtain ⟨a', ws, r1, h1, t1⟩ := R.lst em
        rw [ea] at r1; cases r1
        exact .inl ⟨a, ws, rfl, .inl (SqL.of h1), fun l hl => newLst R t1 k q hl⟩
      | str z => exact .inr ⟨z, rfl, h.1, fun l hl => newLst R (shs_signs z) k h.2 hl⟩
      | _ => exact h.elim
/-! ### sum, max, min, all of lists -/
def intsOf : List D → Option (List Int)
  | [] => some []
  | .int i :: ds => (intsOf ds).map (i :: ·)
  | _ :: _ => none
theorem intsOf_shs {K : PySem.W.Frag} {ρ : Rho} {H : Hp} : ∀ {ds : List D} {ns : List Int} {vs : List V}, intsOf ds = some ns → Shs K ρ H ds vs → vs = ns.map V.int
  | [], _, _, e, h => by cases e; cases h; rfl
  | .int i :: ds, ns, _, e, h => by
    cases h with
    | cons h1 h2 =>
      cases h1
      have e : (intsOf ds).map (i :: ·) = some ns := e
      cases e2 : intsOf ds with
      | none => rw [e2] at e; cases e
      | some ms =>
        rw [e2] at e
        cases e
        rw [intsOf_shs e2 h2]
        rfl
  | .non :: _, _, _, e, _ => by cases e
  | .bl _ :: _, _, _, e, _ => by cases e
  | .str _ :: _, _, _, e, _ => by cases e
  | .tup _ :: _, _, _, e, _ => by cases e
  | .obj _ :: _, _, _, e, _ => by cases e
  | .adr _ :: _, _, _, e, _ => by cases e
  | .ty _ :: _, _, _, e, _ => by cases e
  | .scr _ :: _, _, _, e, _ => by cases e
def sumLD : List D → Mem → KD → Prop
  | [.obj i], M, Q => ∃ ds ns, M[i]? = some (.lst ds) ∧ intsOf ds = some ns ∧ Q (.int ns.sum) M
  | _, _, _ => False
theorem cd_sumL : CallD X Ts (rSum X.K) sumLD := fun ρ M H ds vs Q Qd R s h k => by
  cases s with
  | nil => exact h.elim
  | cons s1 s2 =>
    cases s2 with
    | cons _ _ => cases s1 <;> exact h.elim
    | nil =>
      cases s1 with
      | @obj i a ea =>
        obtain ⟨ds, ns, em, e, q⟩ := h
        obtain ⟨a', ws, r1, h1, t1⟩ := R.lst em
        rw [ea] at r1; cases r1
        exact ⟨a, ns, rfl, SqL.of (by rw [h1, intsOf_shs e t1]), k.same R q (.int _)⟩
      | _ => exact h.elim
def max2D (mx : Bool) : List D → Mem → KD → Prop
  | [.int i, .int j], M, Q => Q (.int (if mx then (if j > i then j else i) else (if j < i then j else i))) M
  | _, _, _ => False
theorem cd_max2 : CallD X Ts (fun xs H Q => ∃ i j, xs = [V.int i, V.int j] ∧ Q (.int (if j > i then j else i)) H) (max2D true) := fun ρ M H ds vs Q Qd R s h k => by
  cases s with
  | nil => exact h.elim
  | cons s1 s2 =>
    cases s2 with
    | nil => cases s1 <;> exact h.elim
    | cons s2 s3 =>
      cases s3 with
      | cons _ _ => cases s1 <;> cases s2 <;> exact h.elim
      | nil =>
        cases s1 with
        | int i =>
          cases s2 with
          | int j => exact ⟨i, j, rfl, k.same R (show Qd (.int (if j > i then j else i)) M from h) (.int _)⟩
          | _ => exact h.elim
        | _ => cases s2 <;> exact h.elim
theorem cd_min2 : CallD X Ts (fun xs H Q => ∃ i j, xs = [V.int i, V.int j] ∧ Q (.int (if j < i then j else i)) H) (max2D false) := fun ρ M H ds vs Q Qd R s h k => by
  cases s with
  | nil => exact h.elim
  | cons s1 s2 =>
    cases s2 with
    | nil => cases s1 <;> exact h.elim
    | cons s2 s3 =>
      cases s3 with
      | cons _ _ => cases s1 <;> cases s2 <;> exact h.elim
      | nil =>
        cases s1 with
        | int i =>
          cases s2 with
          | int j => exact ⟨i, j, rfl, k.same R (show Qd (.int (if j < i then j else i)) M from h) (.int _)⟩
          | _ => exact h.elim
        | _ => cases s2 <;> exact h.elim
/-! ### repr -/
def reprD : List D → Mem → KD → Prop
  | [x], M, Q => ∃ n d, pyM M n x = some d ∧ PyData.showable d = true ∧ d.hasDict = false ∧ d.depth ≤ 60 ∧ d.shown.length ≤ sizeLine ∧ (match x with | .tup _ => True | .obj _ => True | .str _ => True | _ => False) ∧ Q (.str d.shown) M
  | _, _, _ => False
theorem cd_repr : CallD X Ts (Zn.rRepr X.K) reprD := fun ρ M H ds vs Q Qd R s h k => by
  cases s with
  | nil => exact h.elim
  | cons s1 s2 =>
    cases s2 with
    | cons _ _ => exact h.elim
    | nil =>
      obtain ⟨n, d, e, h1, h2, h3, h4, h5, q⟩ := h
      refine ⟨_, d, rfl, pyM_dp R n _ d _ e s1, h1, h2, h3, h4, ?_, k.same R q (.str _)⟩
      cases s1 with
      | tup _ _ => exact .inl ⟨_, rfl⟩
      | obj _ => exact .inl ⟨_, rfl⟩
      | str z => exact .inr ⟨z, rfl⟩
      | _ => exact h5.elim
end
end Dl
set_option Elab.async false
set_option linter.all false
set_option maxRecDepth 100000
set_option maxHeartbeats 4000000
/-! Items of anything, stores, in, methods, by data. -/
namespace Dl
open PySem PySem.Spec PyProof.Rows L2 GxR Gn
/-- a key, as data -/
def kyD : Key → D
  | .inl i => .int i
  | .inr x => .str x
def keyOf : D → Option Key
  | .int i => some (.inl i)
  | .str x => some (.inr x)
  | _ => none
theorem keyOf_sh {K : PySem.W.Frag} {ρ : Rho} {H : Hp} {d : D} {v : V} {k : Key} (e : keyOf d = some k) (s : Sh K ρ H d v) : v = kV k := by
  cases s <;> cases e <;> rfl
/-- the value at a key -/
def valD {κ : Type} [DecidableEq κ] (kvs : List (κ × D)) (k : κ) : Option D := (kvs.find? fun kv => decide (kv.1 = k)).map (·.2)
def putKD {κ : Type} [DecidableEq κ] (kvs : List (κ × D)) (k : κ) (d : D) : List (κ × D) :=
  if (kvs.any fun kv => decide (kv.1 = k)) = true then kvs.map (fun kv => if kv.1 = k then (kv.1, d) else kv) else kvs ++ [(k, d)]
section
variable {K : PySem.W.Frag} {ρ : Rho} {H : Hp} {κ : Type} [DecidableEq κ]
theorem Shp.keys {ds : List (κ × D)} {vs : List (κ × V)} (h : Shp K ρ H ds vs) : ds.map (·.1) = vs.map (·.1) := by
  induction h with
  | nil => rfl
  | cons _ _ ih => simp [ih]
theorem Shp.val {ds : List (κ × D)} {vs : List (κ × V)} (h : Shp K ρ H ds vs) (k : κ) : (valD ds k = none ∧ valV vs k = none) ∨ ∃ d v, valD ds k = some d ∧ valV vs k = some v ∧ Sh K ρ H d v := by
  induction h with
  | nil => exact .inl ⟨rfl, rfl⟩
  | @cons k' d ds v vs h1 _ ih =>
    by_cases e : k' = k
    · exact .inr ⟨d, v, by simp [valD, List.find?_cons, e], by simp [valV, List.find?_cons, e], h1⟩
    · have e1 : valD ((k', d) :: ds) k = valD ds k := by simp [valD, List.find?_cons, e]
      have e2 : valV ((k', v) :: vs) k = valV vs k := by simp [valV, List.find?_cons, e]
      rw [e1, e2]
      exact ih
theorem Shp.append {ds es : List (κ × D)} {vs ws : List (κ × V)} (h : Shp K ρ H ds vs) (h' : Shp K ρ H es ws) : Shp K ρ H (ds ++ es) (vs ++ ws) := by
  induction h with
  | nil => exact h'
  | cons h1 _ ih => exact .cons h1 ih
theorem Shp.putK {ds : List (κ × D)} {vs : List (κ × V)} (h : Shp K ρ H ds vs) {k : κ} {d : D} {v : V} (s : Sh K ρ H d v) : Shp K ρ H (putKD ds k d) (L2.putK vs k v) := by
  unfold putKD L2.putK
  have e : (ds.any fun kv => decide (kv.1 = k)) = (vs.any fun kv => decide (kv.1 = k)) := by
    have := h.keys
    have q : ∀ {γ : Type} (l : List (κ × γ)), (l.any fun kv => decide (kv.1 = k)) = ((l.map (·.1)).any fun x => decide (x = k)) := fun l => by rw [List.any_map]; rfl
    rw [q, q, this]
  rw [e]
  split
  · rename_i hh
    clear hh e
    induction h with
    | nil => exact .nil
    | @cons k' d' ds v' vs h1 _ ih =>
      simp only [List.map_cons]
      by_cases z : k' = k
      · rw [if_pos z, if_pos z]; exact .cons s ih
      · rw [if_neg z, if_neg z]; exact .cons h1 ih
  · exact h.append (.cons s .nil)
end
section
variable {X : Cx} {Ts : List Addr} {E : XK} {pos p apos tpos : Pos} {a b c e o i : Expr} {es : List Expr} {ta tb to ti te : TEd} {t : TAd}
/-! ### items of anything -/
def ixA (x y : D) (M : Mem) (Q : KD) : Prop := match x with
  | .obj n => match M[n]? with
    | some (.dK kvs) => ∃ k v, keyOf y = some k ∧ valD kvs k = some v ∧ Q v M
    | _ => ixD x y M Q
  | _ => ixD x y M Q
def rIxDk : R2 := fun x y H Q => ∃ a v, x = V.ref a ∧ DGet H a y (some v) ∧ Q v H
theorem ix_dk (hu : X.A.units + 1 < cLine) : IxR X rIxDk := fun value slice pins s σ H x y v u Q I rx ry ⟨a, w, ex, g, q⟩ hs => by
  subst ex
  have ev : v = Value.ref a := rx
  subst ev
  have hT := dict_typeIs I g
  unfold subscriptTail
  refine wpAny_bind ?_
  rw [getitemInPython_of_ne hT.not_modules]
  refine wpAny_bind (wpAny_specialOf hT PySem.F.slot_dict_getitem.lookup ?_)
  have fin : wpAny (model X.prog X.w) X.A (subscripted slice false (.ref a) u) (fun r s3 => wpAny (model X.prog X.w) X.A (letTemporaryGo value (.ref a) r >>= fun _ => pure r) (EP X pins σ Q) X.xe s3) X.xe s := by
    rw [hs]
    exact wpAny_operating (d_getItem hu I g ry fun w' s3 I3 rw' => wpAny_bind (wpAny_letTemporaryGo (wpAny_pure ⟨w, H, I3, rw', q⟩)))
  first
    | exact wpAny_pure (wpAny_bind fin)
    | exact wpAny_bind (wpAny_pure (wpAny_bind fin))
    | exact wpAny_bind fin
def rIxA (X : Cx) : R2 := fun x y H Q => rIx X.K x y H Q ∨ rIxDk x y H Q
theorem od_ixA : OpD X Ts (rIxA X) ixA := fun ρ M H x y v u Q Qd R sx sy h k => by
  cases sx with
  | @obj n a ea =>
    unfold ixA at h
    simp only at h
    split at h
    · rename_i kvs em
      obtain ⟨ky, d, e1, e2, q⟩ := h
      obtain ⟨a', vs, r1, h1, t1⟩ := R.dict em
      rw [ea] at r1; cases r1
      rcases t1.val ky with ⟨z, _⟩ | ⟨d', w, z1, z2, z3⟩
      · rw [e2] at z; cases z
      · rw [e2] at z1; cases z1
        refine .inr ⟨a, w, rfl, ?_, k.same R q z3⟩
        rw [keyOf_sh e1 sy, ← z2]
        exact DGet.k h1
    · exact .inl (od_ix ρ M H _ y _ u Q Qd R (.obj ea) sy h k)
  | non => exact .inl (od_ix ρ M H _ y _ u Q Qd R .non sy h k)
  | bl b => exact .inl (od_ix ρ M H _ y _ u Q Qd R (.bl b) sy h k)
  | int b => exact .inl (od_ix ρ M H _ y _ u Q Qd R (.int b) sy h k)
  | str b => exact .inl (od_ix ρ M H _ y _ u Q Qd R (.str b) sy h k)
  | tup h1 h2 => exact .inl (od_ix ρ M H _ y _ u Q Qd R (.tup h1 h2) sy h k)
  | adr b => exact .inl (od_ix ρ M H _ y _ u Q Qd R (.adr b) sy h k)
  | ty b => exact .inl (od_ix ρ M H _ y _ u Q Qd R (.ty b) sy h k)
  | scr b => exact .inl (od_ix ρ M H _ y _ u Q Qd R (.scr b) sy h k)
theorem qe_at {k : Nat} (hr : Room k X.A) (ha : QE X Ts E a ta) (hb : QE X Ts E b tb) (hs : PlainIx b := by intro _ _; rfl) : QE X Ts E (.Subscript a b pos) (dOp ixA ta tb) := qe_ix (ix_seq.or (ix_dk (by have := hr.units; omega))) od_ixA ha hb hs
/-! ### stores to items -/
@[simp] def setD (x y z : D) (M : Mem) (Q : Mem → Prop) : Prop := ∃ n, x = .obj n ∧
  ((∃ ds k j, M[n]? = some (.lst ds) ∧ y = .int k ∧ ixN ds.length k = some j ∧ Q (M.set n (.lst (ds.set j z)))) ∨
   (∃ kvs k, M[n]? = some (.dK kvs) ∧ keyOf y = some k ∧ kvs.length < sizeLine ∧ Q (M.set n (.dK (putKD kvs k z)))))
def rSetA : V → V → V → Hp → (Hp → Prop) → Prop := fun o i v H Q => rSetL o i v H Q ∨ ∃ a H4, o = .ref a ∧ DPut H a i v H4 ∧ Q H4
theorem set_any (hu : X.A.units + 1 < cLine) : PSet X rSetA := fun pins s σ H o i v ov iv u Q I ro ri rv h => by
  rcases h with h | ⟨a, H4, eo, g, q⟩
  · exact set_list pins s σ H o i v ov iv u Q I ro ri rv h
  · subst eo
    have ev : ov = Value.ref a := ro
    subst ev
    exact d_setItem hu I g ri rv fun s4 I4 => ⟨H4, I4, q⟩
/-- o[i] = e -/
@[simp] def dPut (to ti te : TEd) : TSd := fun D E S M => te S M (fun d M1 => to S M1 (fun x M2 => ti S M2 (fun y M3 => setD x y d M3 (D.nx S)) E) E) E
theorem qs_put {k : Nat} (hr : Room k X.A) (ho : QE X Ts E o to) (hi : QE X Ts E i ti) (he : QE X Ts E e te) (hs : swapsWithSole [.Subscript o i tpos] e pos.line X.env = pure false := by rfl) (hw : swappedStores [.Subscript o i tpos] e X.env = pure none := by rfl) (h1 : (assignEach [.Subscript o i tpos] X.env).map (·.2) = [assign (.Subscript o i tpos) X.env] := by rfl) :
    (hg : PG X (.Subscript o i tpos) (gSub (rdE X.K Ts E to) (rdE X.K Ts E ti) rSetA)) → QS X Ts E (.Assign [.Subscript o i tpos] e pos) (dPut to ti te) := fun hg => psLe (ps_asg he hg hs hw h1) fun D σ H ⟨ρ, S, M, Dd, Ed, R, sl, q, k, kr, kb, kc, x⟩ =>
  ⟨ρ, S, M, _, Ed, R, sl, q, fun d M1 q1 ρ1 H1 v g1 R1 s1 => ⟨ρ1, S, M1, _, Ed, R1, sl.grw g1, q1, fun ox M2 q2 ρ2 H2 ov g2 R2 s2 => ⟨ρ2, S, M2, _, Ed, R2, (sl.grw g1).grw g2, q2, fun iy M3 ⟨n, eo, q3⟩ ρ3 H3 iv g3 R3 s3 => by
    subst eo
    have sd := Sh.grw g3 _ _ (Sh.grw g2 _ _ s1)
    have sl3 := ((sl.grw g1).grw g2).grw g3
    cases s2 with
    | @obj _ a ea =>
      have ea3 := g3.r _ _ ea
      rcases q3 with ⟨ds, kk, j, em, ey, hj, q4⟩ | ⟨kvs, ky, em, ek, hl, q4⟩
      · subst ey
        cases s3
        obtain ⟨a', vs, r1, h1, t1⟩ := R3.lst em
        rw [ea3] at r1; cases r1
        have hc : CSh X.K ρ3 H3 (.lst (ds.set j d)) (.lst (vs.set j v)) := ⟨_, rfl, t1.set j sd⟩
        exact .inl ⟨a, vs, kk, j, rfl, rfl, h1, by rw [← t1.length]; exact hj, k _ _ q4 ρ3 _ σ (((g1.tr g2).tr g3).tr (grw_set R3 em ea3)) (R3.cellSet em ea3 hc) (sl3.grw (grw_set R3 em ea3))⟩
      · obtain ⟨a', vs, r1, h1, t1⟩ := R3.dict em
        rw [ea3] at r1; cases r1
        have hc : CSh X.K ρ3 H3 (.dK (putKD kvs ky d)) (.dK (L2.putK vs ky v)) := ⟨_, rfl, t1.putK sd⟩
        refine .inr ⟨a, _, rfl, ?_, k _ _ q4 ρ3 _ σ (((g1.tr g2).tr g3).tr (grw_set R3 em ea3)) (R3.cellSet em ea3 hc) (sl3.grw (grw_set R3 em ea3))⟩
        rw [keyOf_sh ek s3]
        exact DPut.k h1 (by rw [← t1.length]; exact hl), (x.grw g1).grw g2⟩, x.grw g1⟩, x⟩
end
end Dl
set_option Elab.async false
set_option linter.all false
set_option maxRecDepth 100000
set_option maxHeartbeats 4000000
/-! in, methods, displays, further statements by data. -/
namespace Dl
open PySem PySem.Spec PyProof.Rows L2 GxR Gn
section
variable {X : Cx} {Ts : List Addr} {E : XK} {pos p apos tpos cpos : Pos} {a b c e f o i : Expr} {es : List Expr} {ta tb to ti te tf : TEd} {t : TAd}
/-! ### in -/
def inD (y x : D) (M : Mem) (Q : KD) : Prop :=
  (∃ n d ds ps, x = .tup ds ∧ pyM M n y = some d ∧ pyMs M n ds = some ps ∧ SeqAt.shaped d = true ∧ SeqAt.shaped (.tuple ps) = true ∧ Q (.bl (ps.any fun z => PyData.eqv z d)) M) ∨
  (∃ n d j ds ps, x = .obj j ∧ M[j]? = some (.lst ds) ∧ pyM M n y = some d ∧ pyMs M n ds = some ps ∧ SeqAt.shaped d = true ∧ SeqAt.shaped (.list ps) = true ∧ Q (.bl (ps.any fun z => PyData.eqv z d)) M) ∨
  (∃ c z, y = .str ⟨#[c]⟩ ∧ x = .str z ∧ Q (.bl (decide (c ∈ z.cps.toList))) M) ∨
  (∃ j kvs k, x = .obj j ∧ M[j]? = some (.dK kvs) ∧ keyOf y = some k ∧ Q (.bl (valD kvs k).isSome) M)
def notInD (y x : D) (M : Mem) (Q : KD) : Prop :=
  (∃ n d j ds ps, x = .obj j ∧ M[j]? = some (.lst ds) ∧ pyM M n y = some d ∧ pyMs M n ds = some ps ∧ SeqAt.shaped d = true ∧ SeqAt.shaped (.list ps) = true ∧ Q (.bl (!ps.any fun z => PyData.eqv z d)) M) ∨
  (∃ c z, y = .str ⟨#[c]⟩ ∧ x = .str z ∧ Q (.bl (!decide (c ∈ z.cps.toList))) M) ∨
  (∃ j kvs k, x = .obj j ∧ M[j]? = some (.dK kvs) ∧ keyOf y = some k ∧ Q (.bl (!(valD kvs k).isSome)) M) ∨
  (∃ i ns ds, y = .int i ∧ x = .tup ds ∧ intsOf ds = some ns ∧ Q (.bl (!ns.any fun z => z == i)) M)
def rInDk (neg : Bool) : R2 := fun x y H Q => ∃ a o, y = V.ref a ∧ DGet H a x o ∧ Q (.bl (if neg then !o.isSome else o.isSome)) H
theorem op_inDk (hu : X.A.units + 1 < cLine) : OpR X (compareOp .In) (rInDk false) := fun pins s σ H x y v u Q I rx ry ⟨a, o, ey, g, q⟩ => by
  subst ey
  have eu : u = Value.ref a := ry
  subst eu
  exact d_in hu I g rx fun s' I' => ⟨.bl _, H, I', rfl, q⟩
theorem op_notInDk (hu : X.A.units + 1 < cLine) : OpR X (compareOp .NotIn) (rInDk true) := fun pins s σ H x y v u Q I rx ry ⟨a, o, ey, g, q⟩ => by
  subst ey
  have eu : u = Value.ref a := ry
  subst eu
  exact d_notIn hu I g rx fun s' I' => ⟨.bl _, H, I', rfl, q⟩
def rSignIn (neg : Bool) : R2 := fun x y H Q => ∃ (c : Nat) (z : Str), x = .str ⟨#[c]⟩ ∧ y = .str z ∧ Q (.bl (if neg then !decide (c ∈ z.cps.toList) else decide (c ∈ z.cps.toList))) H
theorem get_dk {ρ : Rho} {M : Mem} {H : Hp} (R : Rl X.K Ts ρ M H) {j : Nat} {a : Addr} {kvs : List (Key × D)} {k : Key} (ea : ρ j = some a) (em : M[j]? = some (.dK kvs)) : ∃ o, DGet H a (kV k) o ∧ (valD kvs k).isSome = o.isSome := by
  obtain ⟨a', vs, r1, h1, t1⟩ := R.dict em
  rw [ea] at r1; cases r1
  refine ⟨valV vs k, DGet.k h1, ?_⟩
  rcases t1.val k with ⟨z1, z2⟩ | ⟨d, w, z1, z2, _⟩
  · rw [z1, z2]; rfl
  · rw [z1, z2]; rfl
def rInH (X : Cx) : R2 := fun x y H Q => Zn.rInT X.K x y H Q ∨ rInD X.K x y H Q ∨ rSignIn false x y H Q ∨ rInDk false x y H Q
theorem op_inH {k : Nat} (hr : Room k X.A) : OpR X (compareOp .In) (rInH X) := (Zn.op_inT (by have := hr.un; omega)).or ((op_inD (by have := hr.un; omega)).or (OpR.or (r := rSignIn false) (fun pins s σ H x y v u Q I rx ry h => op_in_sign pins s σ H x y v u Q I rx ry h) (op_inDk (by have := hr.un; omega))))
theorem od_in : OpD X Ts (rInH X) inD := fun ρ M H y x v u Q Qd R sy sx h k => by
  rcases h with ⟨n, d, ds, ps, e, e1, e2, h1, h2, q⟩ | ⟨n, d, j, ds, ps, e, em, e1, e2, h1, h2, q⟩ | ⟨c, z, e1, e2, q⟩ | ⟨j, kvs, ky, e, em, ek, q⟩
  · subst e
    cases sx with
    | tup ha hs => exact .inl ⟨d, ps, pyM_dp R n y d v e1 sy, .tup ha (pyMs_dp R n ds ps _ e2 hs), h1, h2, k.same R q (.bl _)⟩
  · subst e
    cases sx with
    | obj ea =>
      obtain ⟨a', vs, r1, g1, t1⟩ := R.lst em
      rw [ea] at r1; cases r1
      exact .inr (.inl ⟨d, ps, pyM_dp R n y d v e1 sy, .lst (SqL.of g1) (pyMs_dp R n ds ps _ e2 t1), h1, h2, k.same R q (.bl _)⟩)
  · subst e1 e2
    cases sy
    cases sx
    exact .inr (.inr (.inl ⟨c, z, rfl, rfl, k.same R q (.bl _)⟩))
  · subst e
    cases sx with
    | obj ea =>
      obtain ⟨oo, g, eo⟩ := get_dk (k := ky) R ea em
      rw [eo] at q
      exact .inr (.inr (.inr ⟨_, oo, rfl, by rw [keyOf_sh ek sy]; exact g, k.same R q (.bl _)⟩))
def rNotInH (X : Cx) : R2 := fun x y H Q => rNotInD X.K x y H Q ∨ rSignIn true x y H Q ∨ rInDk true x y H Q ∨ L2.rIn X.K true x y H Q
theorem op_notInH {k : Nat} (hr : Room k X.A) : OpR X (compareOp .NotIn) (rNotInH X) := (op_notInD (by have := hr.un; omega)).or (OpR.or (r := rSignIn true) (fun pins s σ H x y v u Q I rx ry h => op_notIn_sign pins s σ H x y v u Q I rx ry h) ((op_notInDk (by have := hr.un; omega)).or op_notIn_seq))
theorem flat_ints : ∀ ns : List Int, (ns.map V.int).all flatV = true
  | [] => rfl
  | n :: ns => by simp [flatV, flat_ints ns]
theorem inV_ints (i : Int) : ∀ ns : List Int, inV (.int i) (ns.map V.int) = ns.any fun z => z == i
  | [] => rfl
  | n :: ns => by
    have ih := inV_ints i ns
    unfold inV at ih ⊢
    simp only [List.map_cons, List.any_cons, ih]
    rfl
theorem od_notIn : OpD X Ts (rNotInH X) notInD := fun ρ M H y x v u Q Qd R sy sx h k => by
  rcases h with ⟨n, d, j, ds, ps, e, em, e1, e2, h1, h2, q⟩ | ⟨c, z, e1, e2, q⟩ | ⟨j, kvs, ky, e, em, ek, q⟩ | ⟨i, ns, ds, e1, e2, e3, q⟩
  · subst e
    cases sx with
    | obj ea =>
      obtain ⟨a', vs, r1, g1, t1⟩ := R.lst em
      rw [ea] at r1; cases r1
      exact .inl ⟨d, ps, pyM_dp R n y d v e1 sy, .lst (SqL.of g1) (pyMs_dp R n ds ps _ e2 t1), h1, h2, k.same R q (.bl _)⟩
  · subst e1 e2
    cases sy
    cases sx
    exact .inr (.inl ⟨c, z, rfl, rfl, k.same R q (.bl _)⟩)
  · subst e
    cases sx with
    | obj ea =>
      obtain ⟨oo, g, eo⟩ := get_dk (k := ky) R ea em
      rw [eo] at q
      exact .inr (.inr (.inl ⟨_, oo, rfl, by rw [keyOf_sh ek sy]; exact g, k.same R q (.bl _)⟩))
  · subst e1 e2
    cases sy
    cases sx with
    | tup ha hs =>
      have es := intsOf_shs e3 hs
      subst es
      refine .inr (.inr (.inr ⟨_, _, rfl, .inr ha, rfl, flat_ints ns, ?_⟩))
      rw [inV_ints]
      exact k.same R q (.bl _)
/-! ### methods of lists -/
@[simp] def dBM (ok : D → Mem → Prop) (rd : D → List D → Mem → KD → Prop) (to : TEd) (t : TAd) : TEd := fun S M Q E => to S M (fun o M1 => ok o M1 ∧ t S M1 (fun ds M2 => rd o ds M2 Q) E) E
@[simp] def dBM0 (ok : D → Mem → Prop) (rd : D → List D → Mem → KD → Prop) (to : TEd) : TEd := fun S M Q E => to S M (fun o M1 => ok o M1 ∧ rd o [] M1 Q) E
def TyD (X : Cx) (Ts : List Addr) (T : String) (ok : D → Mem → Prop) : Prop := ∀ ρ M H d v, Rl X.K Ts ρ M H → Sh X.K ρ H d v → ok d M → tyV X.K T v H
def MtD (X : Cx) (Ts : List Addr) (r : V → List V → Hp → VK → Prop) (rd : D → List D → Mem → KD → Prop) : Prop :=
  ∀ ρ M H o ds v vs Q Qd, Rl X.K Ts ρ M H → Sh X.K ρ H o v → Shs X.K ρ H ds vs → rd o ds M Qd → KOk X.K Ts ρ H Qd Q → r v vs H Q
theorem bmRead {T : String} {r : V → List V → Hp → VK → Prop} {ok : D → Mem → Prop} {rd : D → List D → Mem → KD → Prop} (hT : TyD X Ts T ok) (hm : MtD X Ts r rd) {σ : L2.St} {H : Hp} {Q : VK} (h : rdE X.K Ts E (dBM ok rd to t) σ H Q) : tBM X.K T r (rdE X.K Ts E to) (rdA X.K Ts E t) σ H Q := by
  obtain ⟨ρ, S, M, Qd, Ed, R, sl, q, k, x⟩ := h
  exact ⟨ρ, S, M, _, Ed, R, sl, q, fun o M1 ⟨ho, q1⟩ ρ1 H1 v g1 R1 s1 => ⟨hT _ _ _ _ _ R1 s1 ho, ρ1, S, M1, _, Ed, R1, sl.grw g1, q1, fun ds M2 q2 ρ2 H2 vs g2 R2 s2 => hm _ _ _ _ _ _ _ _ _ R2 (Sh.grw g2 _ _ s1) s2 q2 (k.grw (g1.tr g2)), x.grw g1⟩, x⟩
theorem bm0Read {T : String} {r : V → List V → Hp → VK → Prop} {ok : D → Mem → Prop} {rd : D → List D → Mem → KD → Prop} (hT : TyD X Ts T ok) (hm : MtD X Ts r rd) {σ : L2.St} {H : Hp} {Q : VK} (h : rdE X.K Ts E (dBM0 ok rd to) σ H Q) : tBM0 X.K T r (rdE X.K Ts E to) σ H Q := by
  obtain ⟨ρ, S, M, Qd, Ed, R, sl, q, k, x⟩ := h
  exact ⟨ρ, S, M, _, Ed, R, sl, q, fun o M1 ⟨ho, q1⟩ ρ1 H1 v g1 R1 s1 => ⟨hT _ _ _ _ _ R1 s1 ho, hm _ _ _ _ _ _ _ _ _ R1 s1 .nil q1 (k.grw g1)⟩, x⟩
def isLst (d : D) (M : Mem) : Prop := ∃ i ds, d = .obj i ∧ M[i]? = some (.lst ds)
theorem ty_lst : TyD X Ts "list" isLst := fun ρ M H d v R s ⟨i, ds, e, em⟩ => by
  subst e
  obtain ⟨a', vs, r1, g1, t1⟩ := R.lst em
  cases s with
  | obj ea =>
    rw [ea] at r1; cases r1
    exact .inl ⟨rfl, _, SqL.of g1⟩
@[simp] def appendD (o : D) (ds : List D) (M : Mem) (Q : KD) : Prop := ∃ i xs d, o = .obj i ∧ ds = [d] ∧ M[i]? = some (.lst xs) ∧ xs.length < sizeLine ∧ Q .non (M.set i (.lst (xs ++ [d])))
theorem md_append : MtD X Ts rAppend appendD := fun ρ M H o ds v vs Q Qd R so sd ⟨i, xs, d, e, e2, em, hz, q⟩ k => by
  subst e e2
  obtain ⟨a', ws, r1, g1, t1⟩ := R.lst em
  cases so with
  | obj ea =>
    rw [ea] at r1; cases r1
    cases sd with
    | cons s1 s2 =>
      cases s2
      exact ⟨_, ws, _, rfl, rfl, g1, by rw [← t1.length]; exact hz, setCell (c' := .lst (xs ++ [d])) R em ea ⟨_, rfl, t1.append (.cons s1 .nil)⟩ k .non q⟩
theorem qe_append (ho : QE X Ts E o to) (ha : QA X Ts E (e :: es) t) (hbase : attributeBase o "append" X.env (eval o X.env) = eval o X.env := by rfl)
    (hfew : ((backTo cpos (starEach (e :: es) X.env)).all (fun x => !x.1) && (backToKw cpos (keywordEach [] X.env)).all (fun x => x.1.isSome)
      && decide ((e :: es).length + ([] : List Keyword).length + (if ([] : List Keyword).isEmpty then 0 else 1) < 30)) = true := by rfl)
    (hline : (apos.endLine == cpos.line) = true := by rfl) (hs : starEach (e :: es) X.env = (false, eval e X.env) :: starEach es X.env := by rfl) (hplain : (backTo cpos (starEach es X.env)).any (·.1) = false := by rfl) :
    QE X Ts E (.Call (.Attribute o "append" apos) (e :: es) [] cpos) (dBM isLst appendD to t) := peLe (pe_bm PySem.F.plainAttrs_list PySem.F.slot_list_append PySem.F.type_list_append mt_append ho ha hbase hfew hline hs hplain) fun σ H Q h => bmRead ty_lst md_append h
@[simp] def popD (o : D) (ds : List D) (M : Mem) (Q : KD) : Prop := ∃ i xs d, o = .obj i ∧ ds = [] ∧ M[i]? = some (.lst xs) ∧ xs[xs.length - 1]? = some d ∧ Q d (M.set i (.lst xs.dropLast))
theorem shs_dropLast {K : PySem.W.Frag} {ρ : Rho} {H : Hp} {ds : List D} {vs : List V} (h : Shs K ρ H ds vs) : Shs K ρ H ds.dropLast vs.dropLast := by
  rw [List.dropLast_eq_take, List.dropLast_eq_take, h.length]
  exact h.take _
theorem md_pop : MtD X Ts rPop popD := fun ρ M H o ds v vs Q Qd R so sd ⟨i, xs, d, e, e2, em, hd, q⟩ k => by
  subst e e2
  obtain ⟨a', ws, r1, g1, t1⟩ := R.lst em
  cases so with
  | obj ea =>
    rw [ea] at r1; cases r1
    cases sd
    obtain ⟨w, e3, s3⟩ := t1.getD hd
    exact ⟨_, ws, w, rfl, rfl, g1, by rw [← t1.length]; exact e3, setCell (c' := .lst xs.dropLast) R em ea ⟨_, rfl, shs_dropLast t1⟩ k s3 q⟩
theorem qe_pop0 (ho : QE X Ts E o to) (hbase : attributeBase o "pop" X.env (eval o X.env) = eval o X.env := by rfl) (hline : (apos.endLine == cpos.line) = true := by rfl) :
    QE X Ts E (.Call (.Attribute o "pop" apos) [] [] cpos) (dBM0 isLst popD to) := peLe (pe_bm0 PySem.F.plainAttrs_list PySem.F.slot_list_pop PySem.F.type_list_pop mt_pop ho hbase hline) fun σ H Q h => bm0Read ty_lst md_pop h
def popAtD (o : D) (ds : List D) (M : Mem) (Q : KD) : Prop := ∃ i xs n j d, o = .obj i ∧ ds = [.int n] ∧ M[i]? = some (.lst xs) ∧ -(2 ^ 63) ≤ n ∧ n < 2 ^ 63 ∧ seqIndex? n xs.length = some j ∧ xs[j]? = some d ∧ Q d (M.set i (.lst (xs.eraseIdx j)))
theorem md_popAt : MtD X Ts rPopAt popAtD := fun ρ M H o ds v vs Q Qd R so sd ⟨i, xs, n, j, d, e, e2, em, h1, h2, hj, hd, q⟩ k => by
  subst e e2
  obtain ⟨a', ws, r1, g1, t1⟩ := R.lst em
  cases so with
  | obj ea =>
    rw [ea] at r1; cases r1
    cases sd with
    | cons s1 s2 =>
      cases s1; cases s2
      obtain ⟨w, e3, s3⟩ := t1.getD hd
      exact ⟨_, ws, n, j, w, rfl, rfl, g1, h1, h2, by rw [← t1.length]; exact hj, e3, setCell (c' := .lst (xs.eraseIdx j)) R em ea ⟨_, rfl, t1.eraseIdx j⟩ k s3 q⟩
theorem qe_popAt (ho : QE X Ts E o to) (ha : QA X Ts E (e :: es) t) (hbase : attributeBase o "pop" X.env (eval o X.env) = eval o X.env := by rfl)
    (hfew : ((backTo cpos (starEach (e :: es) X.env)).all (fun x => !x.1) && (backToKw cpos (keywordEach [] X.env)).all (fun x => x.1.isSome)
      && decide ((e :: es).length + ([] : List Keyword).length + (if ([] : List Keyword).isEmpty then 0 else 1) < 30)) = true := by rfl)
    (hline : (apos.endLine == cpos.line) = true := by rfl) (hs : starEach (e :: es) X.env = (false, eval e X.env) :: starEach es X.env := by rfl) (hplain : (backTo cpos (starEach es X.env)).any (·.1) = false := by rfl) :
    QE X Ts E (.Call (.Attribute o "pop" apos) (e :: es) [] cpos) (dBM isLst popAtD to t) := peLe (pe_bm PySem.F.plainAttrs_list PySem.F.slot_list_pop PySem.F.type_list_pop mt_popAt ho ha hbase hfew hline hs hplain) fun σ H Q h => bmRead ty_lst md_popAt h
/-! ### xs[::-1], -x -/
@[simp] def dRev (ta : TEd) : TEd := fun S M Q E => ta S M (fun d M1 => ∃ i ds, d = .obj i ∧ M1[i]? = some (.lst ds) ∧ Q (.obj M1.length) (M1 ++ [.lst ds.reverse])) E
theorem qe_rev {k : Nat} {p1 p2 p3 : Pos} (ha : QE X Ts E a ta) : QE X Ts E (.Subscript a (.Slice none none (some (.UnaryOp .USub (.Constant (.int 1) k p1) p2)) p3) pos) (dRev ta) := peLe (pe_revL ha) fun σ H Q ⟨ρ, S, M, Qd, Ed, R, sl, q, k, x⟩ =>
  ⟨ρ, S, M, _, Ed, R, sl, q, fun d M1 ⟨i, ds, e, em, q1⟩ ρ1 H1 v g1 R1 s1 => by
    subst e
    obtain ⟨a', vs, r1, h1, t1⟩ := R1.lst em
    cases s1 with
    | obj ea =>
      rw [ea] at r1; cases r1
      exact ⟨_, vs, rfl, SqL.of h1, fun p hp => newLst R1 t1.reverse (k.grw g1) q1 hp⟩, x⟩
@[simp] def dNeg (ta : TEd) : TEd := fun S M Q E => ta S M (fun d M1 => ∃ i, d = .int i ∧ Q (.int (-i)) M1) E
theorem qe_neg (ha : QE X Ts E a ta) : QE X Ts E (.UnaryOp .USub a pos) (dNeg ta) := peLe (pe_un un_neg ha) fun σ H Q ⟨ρ, S, M, Qd, Ed, R, sl, q, k, x⟩ =>
  ⟨ρ, S, M, _, Ed, R, sl, q, fun d M1 ⟨i, e, q1⟩ ρ1 H1 v g1 R1 s1 => by
    subst e
    cases s1
    exact ⟨i, rfl, k _ _ q1 ρ1 H1 _ g1 R1 (.int _)⟩, x⟩
/-! ### is None, is True -/
def isNon : D → Bool
  | .non => true
  | _ => false
def isD (neg : Bool) (x y : D) (M : Mem) (Q : KD) : Prop := (y = .non ∧ Q (.bl (Bool.xor neg (isNon x))) M) ∨ ∃ a b, x = .bl a ∧ y = .bl b ∧ Q (.bl (Bool.xor neg (decide (a = b)))) M
def rIsH (neg : Bool) : R2 := fun x y H Q => (y = .non ∧ Q (.bl (Bool.xor neg (decide (x = .non)))) H) ∨ ∃ a b : Bool, x = .bl a ∧ y = .bl b ∧ Q (.bl (Bool.xor neg (decide (a = b)))) H
theorem op_isH : OpR X (compareOp .Is) (rIsH false) := OpR.or (r := fun x y H Q => y = .non ∧ Q (.bl (Bool.xor false (decide (x = .non)))) H) (r' := fun x y H Q => ∃ a b : Bool, x = .bl a ∧ y = .bl b ∧ Q (.bl (Bool.xor false (decide (a = b)))) H)
  (fun pins s σ H x y v u Q I rx ry h => op_isN pins s σ H x y v u Q I rx ry (by simpa using h)) (fun pins s σ H x y v u Q I rx ry h => op_isBl pins s σ H x y v u Q I rx ry (by simpa [rIsB] using h))
theorem op_isNotH : OpR X (compareOp .IsNot) (rIsH true) := OpR.or (r := fun x y H Q => y = .non ∧ Q (.bl (Bool.xor true (decide (x = .non)))) H) (r' := fun x y H Q => ∃ a b : Bool, x = .bl a ∧ y = .bl b ∧ Q (.bl (Bool.xor true (decide (a = b)))) H)
  (fun pins s σ H x y v u Q I rx ry h => op_notN pins s σ H x y v u Q I rx ry (by simpa using h)) (fun pins s σ H x y v u Q I rx ry h => op_notBl pins s σ H x y v u Q I rx ry (by simpa [rNotB] using h))
theorem od_is (neg : Bool) : OpD X Ts (rIsH neg) (isD neg) := fun ρ M H x y v u Q Qd R sx sy h k => by
  rcases h with ⟨e, q⟩ | ⟨a, b, e1, e2, q⟩
  · subst e
    cases sy
    refine .inl ⟨rfl, ?_⟩
    have : decide (v = V.non) = (isNon x) := by cases sx <;> simp [isNon]
    rw [this]
    exact k.same R q (.bl _)
  · subst e1 e2
    cases sx
    cases sy
    exact .inr ⟨a, b, rfl, rfl, k.same R q (.bl _)⟩
/-! ### x op= e -/
def IpD (X : Cx) (Ts : List Addr) (ti : TIp) (rd : D → D → Mem → KD → Prop) : Prop :=
  ∀ ρ M H x y v u Q Qd, Rl X.K Ts ρ M H → Sh X.K ρ H x v → Sh X.K ρ H y u → rd x y M Qd → KOk X.K Ts ρ H Qd Q → ti v u H Q
def dAug (i : Nat) (rd : D → D → Mem → KD → Prop) (te : TEd) : TSd := fun D E S M => ∃ x, S[i]? = some (some x) ∧ te S M (fun y M1 => rd x y M1 fun z M2 => D.nx (S.set i (some z)) M2) E
theorem qs_aug {i : Nat} {x : Str} {op : Operator} {pos' : Pos} {r : TIp} {rd : D → D → Mem → KD → Prop} (hN : X.N.Nodup) (hi : X.N[i]? = some x) (hx : Loc X.env.scope x) (he : QE X Ts E e te) (ho : PIp X op r) (hd : IpD X Ts r rd) (hf : X.fn x = true ∨ X.env.scope.names.lookup x = some .local := by first | exact .inl rfl | exact .inr rfl | assumption) :
    QS X Ts E (.AugAssign (.Name x pos') op e pos) (dAug i rd te) := psLe (ps_aug hN hi hx he ho hf) fun D σ H ⟨ρ, S, M, Dd, Ed, R, sl, ⟨d, ed, q⟩, k, kr, kb, kc, xx⟩ => by
  obtain ⟨v, e1, s0⟩ := sl.at_ i d ed
  refine ⟨v, e1, ρ, S, M, _, Ed, R, sl, q, fun y M1 q1 ρ1 H1 u g1 R1 s1 => ?_, xx⟩
  refine hd ρ1 M1 H1 d y v u _ _ R1 (Sh.grw g1 _ _ s0) s1 q1 fun z M2 q2 ρ2 H2 w g2 R2 s2 => ?_
  exact k _ _ q2 ρ2 H2 _ (g1.tr g2) R2 (((sl.grw g1).grw g2).set i s2)
theorem ip_of {op : Operator} {r : R2} (h : OpR X (inplaceOp op) r) : PIp X op r := fun pins s σ H x y v u Q I rx ry q => h pins s σ H x y v u Q I rx ry q
theorem qs_augI {i : Nat} {x : Str} {op : Operator} {pos' : Pos} {C : Int → Int → Prop} {g : Int → Int → Int} (hN : X.N.Nodup) (hi : X.N[i]? = some x) (hx : Loc X.env.scope x) (he : QE X Ts E e te) (ho : OpR X (inplaceOp op) (rI C fun i j => .int (g i j))) (hf : X.fn x = true ∨ X.env.scope.names.lookup x = some .local := by first | exact .inl rfl | exact .inr rfl | assumption) :
    QS X Ts E (.AugAssign (.Name x pos') op e pos) (dAug i (intD C fun i j => .int (g i j)) te) := qs_aug hN hi hx he (ip_of ho) (fun ρ M H x y v u Q Qd R sx sy h k => od_int (X := X) (fun _ _ _ _ => .int _) ρ M H x y v u Q Qd R sx sy h k) hf
/-! ### x = [..] on one line -/
theorem qs_setLc {i : Nat} {y : Str} {py spos : Pos} {elt tg iter : Expr} {scope : Scope} {own : List (Str × Nat)} {ifs : List Expr} {tid : TId} {g : TG} {gd : TGd} {tt : TTd} (hc : X.calm = true) (hN : X.N.Nodup) (hy : X.N[i]? = some y) (hyl : X.env.scope.names.lookup y = some .local)
    (hsw : swapsWith (.ListComp elt [⟨tg, iter, ifs, 0⟩] scope pos) (some (.Name y py)) spos.line X.env = pure true) (hi : QI X Ts E tg iter tid) (ok : BlkOk X.N X.env.scope scope own)
    (hg : ∀ (s : Shared) (H : Hp) (C : Addr) (cl : List (Str × Addr)) (fp : List Addr), PG (X.blk s H scope (compEnvC scope cl C X.env) fp) tg g) (hgs : TgS X.K (own.map (·.2)) g gd) (gm : GMono g)
    (ht : ∀ (s : Shared) (H : Hp) (C : Addr) (cl : List (Str × Addr)) (fp : List Addr), PTs (X.blk s H scope (compEnvC scope cl C X.env) fp) ifs (rdT X.K Ts X00 tt))
    (he : ∀ (s : Shared) (H : Hp) (C : Addr) (cl : List (Str × Addr)) (fp : List Addr), QE (X.blk s H scope (compEnvC scope cl C X.env) fp) Ts X00 elt te) (hs : ∀ x, foldedSetIterable iter X.env x = pure x := by intro _; rfl) :
    QS X Ts E (.Assign [.Name y py] (.ListComp elt [⟨tg, iter, ifs, 0⟩] scope pos) spos) (dSet i (dLc tid gd tt te (own.map (·.2)))) := psLe (ps_setLc hc hN hy hyl hsw hi ok hg ht he hs) fun D σ H ⟨ρ, S, M, Dd, Ed, R, sl, q, k, kr, kb, kc, x⟩ =>
  lcRead (E := E) (Q := fun v H1 => D.nx (σ.set i (some v)) H1) hgs gm ⟨ρ, S, M, _, Ed, R, sl, q, fun d M1 q1 ρ1 H1 v g1 R1 s1 => k _ _ q1 ρ1 H1 _ g1 R1 ((sl.grw g1).set i s1), x⟩
end
end Dl
set_option Elab.async false
set_option linter.all false
set_option maxRecDepth 100000
set_option maxHeartbeats 4000000
/-! Order, displays of dicts, starred things, sums of tuples, several targets, new instances, by data. -/
namespace Dl
open PySem PySem.Spec PyProof.Rows L2 GxR Gn
section
variable {X : Cx} {Ts : List Addr} {E : XK} {pos p apos tpos cpos : Pos} {a b c e f o i : Expr} {es : List Expr} {ta tb to ti te tf : TEd} {t : TAd}
/-! ### order -/
/-- < (st) or <=, of ints, texts, tuples of ints (< alone) -/
def cmpD (st : Bool) (x y : D) (M : Mem) (Q : KD) : Prop := match x, y with
  | .int i, .int j => Q (.bl (if st then decide (i < j) else decide (i ≤ j))) M
  | .str u, .str w => Q (.bl (if st then decide (u.cps.toList < w.cps.toList) else !decide (w.cps.toList < u.cps.toList))) M
  | .tup xs, .tup ys => st = true ∧ ∃ ns ms, intsOf xs = some ns ∧ intsOf ys = some ms ∧ Q (.bl (HT.lexLt ns ms)) M
  | _, _ => False
def rLtH (X : Cx) : R2 := fun x y H Q => rI0 (fun i j => .bl (decide (i < j))) x y H Q ∨ (∃ i j, x = .str i ∧ y = .str j ∧ Q (.bl (decide (i.cps.toList < j.cps.toList))) H) ∨ rLtT X.K x y H Q
def rLeH : R2 := fun x y H Q => rI0 (fun i j => .bl (decide (i ≤ j))) x y H Q ∨ (∃ i j, x = .str i ∧ y = .str j ∧ Q (.bl (!decide (j.cps.toList < i.cps.toList))) H)
theorem op_ltH {k : Nat} (hr : Room k X.A) : OpR X (compareOp .Lt) (rLtH X) := op_lt.or (op_lt_str.or (op_ltT hr.units0))
theorem op_leH : OpR X (compareOp .LtE) rLeH := op_le.or op_le_str
theorem od_ltH : OpD X Ts (rLtH X) (cmpD true) := fun ρ M H x y v u Q Qd R sx sy h k => by
  cases sx with
  | int i => cases sy with
    | int j => exact .inl ⟨i, j, rfl, rfl, k.same R h (.bl _)⟩
    | _ => exact h.elim
  | str i => cases sy with
    | str j => exact .inr (.inl ⟨i, j, rfl, rfl, k.same R h (.bl _)⟩)
    | _ => exact h.elim
  | tup ha hs => cases sy with
    | tup hb ht =>
      obtain ⟨_, ns, ms, e1, e2, q⟩ := h
      have z1 := intsOf_shs e1 hs
      have z2 := intsOf_shs e2 ht
      subst z1 z2
      exact .inr (.inr ⟨_, _, ns, ms, rfl, rfl, ha, hb, k.same R q (.bl _)⟩)
    | _ => exact h.elim
  | _ => cases sy <;> exact h.elim
theorem od_leH : OpD X Ts rLeH (cmpD false) := fun ρ M H x y v u Q Qd R sx sy h k => by
  cases sx with
  | int i => cases sy with
    | int j => exact .inl ⟨i, j, rfl, rfl, k.same R h (.bl _)⟩
    | _ => exact h.elim
  | str i => cases sy with
    | str j => exact .inr ⟨i, j, rfl, rfl, k.same R h (.bl _)⟩
    | _ => exact h.elim
  | tup ha hs => cases sy with
    | tup hb ht => exact absurd h.1 (by decide)
    | _ => exact h.elim
  | _ => cases sy <;> exact h.elim
theorem od_gt : OpD X Ts (rI (fun _ _ => True) fun i j => V.bl (decide (j < i))) gtD := od_int fun _ _ _ _ => .bl _
theorem od_ge : OpD X Ts (rI (fun _ _ => True) fun i j => V.bl (decide (j ≤ i))) geD := od_int fun _ _ _ _ => .bl _
/-! ### {k: v, ..} -/
@[simp] def dPairs : List (TEd × TEd) → Sl → Mem → (List (D × D) → Mem → Prop) → KE' → Prop
  | [], _, M, Q, _ => Q [] M
  | (k, v) :: r, S, M, Q, E => k S M (fun x M1 => v S M1 (fun y M2 => dPairs r S M2 (fun ps M3 => Q ((x, y) :: ps) M3) E) E) E
inductive Sh2 (K : PySem.W.Frag) (ρ : Rho) (H : Hp) : List (D × D) → List (V × V) → Prop
  | nil : Sh2 K ρ H [] []
  | cons {d e : D} {v u : V} {ds : List (D × D)} {vs : List (V × V)} : Sh K ρ H d v → Sh K ρ H e u → Sh2 K ρ H ds vs → Sh2 K ρ H ((d, e) :: ds) ((v, u) :: vs)
theorem pairsRead {σ : L2.St} : ∀ {trs : List (TEd × TEd)} {ρ : Rho} {S : Sl} {M : Mem} {H : Hp} {Qd : List (D × D) → Mem → Prop} {Ed : KE'} {Q : List (V × V) → Hp → Prop}, Rl X.K Ts ρ M H → Sls X.K ρ H S σ → dPairs trs S M Qd Ed →
    (∀ ds M', Qd ds M' → ∀ ρ' H' vs, Grw ρ H ρ' H' → Rl X.K Ts ρ' M' H' → Sh2 X.K ρ' H' ds vs → Q vs H') → XOk X.K Ts ρ H Ed E → tPairs (trs.map fun q => (rdE X.K Ts E q.1, rdE X.K Ts E q.2)) σ H Q
  | [], ρ, S, M, H, Qd, Ed, Q, R, sl, h, k, x => k _ _ h ρ H [] (Grw.refl _ _) R .nil
  | (tk, tv) :: r, ρ, S, M, H, Qd, Ed, Q, R, sl, h, k, x => ⟨ρ, S, M, _, Ed, R, sl, h, fun d M1 h1 ρ1 H1 v g1 R1 s1 => ⟨ρ1, S, M1, _, Ed, R1, sl.grw g1, h1, fun y M2 h2 ρ2 H2 u g2 R2 s2 =>
      pairsRead (trs := r) R2 ((sl.grw g1).grw g2) h2 (fun ds M3 h3 ρ3 H3 vs g3 R3 s3 => k _ _ h3 ρ3 H3 _ ((g1.tr g2).tr g3) R3 (.cons (Sh.grw g3 _ _ (Sh.grw g2 _ _ s1)) (Sh.grw g3 _ _ s2) s3)) ((x.grw g1).grw g2), x.grw g1⟩, x⟩
def mergeKD (kvs more : List (Key × D)) : List (Key × D) := more.foldl (fun acc kv => putKD acc kv.1 kv.2) kvs
theorem sh2_keys {K : PySem.W.Frag} {ρ : Rho} {H : Hp} : ∀ {kvs : List (Key × D)} {vs : List (V × V)}, Sh2 K ρ H (kvs.map fun kv => (kyD kv.1, kv.2)) vs → ∃ ws : List (Key × V), vs = ws.map (fun kv => (kV kv.1, kv.2)) ∧ Shp K ρ H kvs ws
  | [], _, h => by cases h; exact ⟨[], rfl, .nil⟩
  | (k, d) :: r, _, h => by
    cases h with
    | cons h1 h2 h3 =>
      obtain ⟨ws, e, s⟩ := sh2_keys h3
      refine ⟨(k, _) :: ws, ?_, .cons h2 s⟩
      subst e
      cases k <;> cases h1 <;> rfl
theorem merge_sh {K : PySem.W.Frag} {ρ : Rho} {H : Hp} {more : List (Key × D)} {ms : List (Key × V)} (h : Shp K ρ H more ms) : ∀ {kvs : List (Key × D)} {vs : List (Key × V)}, Shp K ρ H kvs vs → Shp K ρ H (mergeKD kvs more) (mergeK vs ms) := by
  induction h with
  | nil => intro kvs vs h; exact h
  | cons h1 _ ih => intro kvs vs h; exact ih (h.putK h1)
@[simp] def dDisp (trs : List (TEd × TEd)) : TEd := fun S M Q E => dPairs trs S (M ++ [.dK []]) (fun ps M2 => M2[M.length]? = some (.dK []) ∧ ∃ kvs : List (Key × D), ps = kvs.map (fun kv => (kyD kv.1, kv.2)) ∧ kvs.length ≤ 15 ∧ Q (.obj M.length) (M2.set M.length (.dK (mergeKD [] kvs)))) E
theorem qe_disp {keys : List (Option Expr)} {values : List Expr} {trs : List (TEd × TEd)} (h : PPs X pos keys values (trs.map fun q => (rdE X.K Ts E q.1, rdE X.K Ts E q.2))) (hall : keys.all (·.isSome) = true := by rfl) (hl : keys.length = values.length := by rfl) (h0 : keys ≠ [] := by simp) (h15 : keys.length ≤ 15 := by decide) :
    QE X Ts E (.Dict keys values pos) (dDisp trs) := peLe (pe_disp h hall hl h0 h15) fun σ H Q ⟨ρ, S, M, Qd, Ed, R, sl, q, k, x⟩ p hp => by
  have g0 := grw_ext R (o := .dK []) hp
  have R0 := R.cellNew (c := .dK []) (o := .dK []) hp ⟨[], rfl, .nil⟩
  refine pairsRead R0 (sl.grw g0) q (fun ds M2 ⟨em, kvs, eds, hz, q2⟩ ρ2 H2 vs g2 R2 s2 => ?_) (x.grw g0)
  subst eds
  obtain ⟨ws, ev, sw⟩ := sh2_keys s2
  subst ev
  have rp : ρ2 M.length = some p := g2.r _ _ (by unfold ext; rw [if_pos rfl])
  obtain ⟨a', us, r1, h1, t1⟩ := R2.dict em
  rw [rp] at r1
  cases r1
  cases t1
  have hc : CSh X.K ρ2 H2 (.dK (mergeKD [] kvs)) (.dK (mergeK [] ws)) := ⟨_, rfl, merge_sh sw .nil⟩
  exact ⟨h1, ws, rfl, by rw [← sw.length]; exact hz, k _ _ q2 ρ2 _ _ ((g0.tr g2).tr (grw_set R2 em rp)) (R2.cellSet em rp hc) (.obj rp)⟩
/-! ### *x in a display -/
@[simp] def dStar (te : TEd) (t : TAd) : TAd := fun S M Q E => te S M (fun d M1 =>
  (∃ ds, d = .tup ds ∧ t S M1 (fun es M2 => Q (ds ++ es) M2) E) ∨ (∃ j ds, d = .obj j ∧ M1[j]? = some (.lst ds) ∧ t S M1 (fun es M2 => Q (ds ++ es) M2) E) ∨ ∃ z, d = .str z ∧ z.cps.size ≤ sizeLine ∧ t S M1 (fun es M2 => Q (sgD z ++ es) M2) E) E
def tStarA (K : PySem.W.Frag) (te : TE) (t : TA) : TA := fun σ H Q => te σ H fun x H1 => (∃ z : Str, x = .str z ∧ z.cps.size ≤ sizeLine ∧ t σ H1 fun ys H2 => Q (Zn.signs z ++ ys) H2) ∨ ∃ a xs, x = .ref a ∧ (SqT K H1 a xs ∨ SqL K H1 a xs) ∧ t σ H1 fun ys H2 => Q (xs ++ ys) H2
theorem pa_starA {te : TE} {t : TA} {p : Pos} (hc : X.A.handled = none) (he : PE X e te) (hr : PA X es t) (hs : starEach (.Starred e p :: es) X.env = (true, eval e X.env) :: starEach es X.env := by rfl) : PA X (.Starred e p :: es) (tStarA X.K te t) := by
  refine ⟨fun pos pins s σ H Q I h => ?_⟩
  refine PySem.W.items_star (thn (he.run pins s σ H _ I h) fun v s1 hv => ?_) hs
  obtain ⟨y, H1, I1, ry, hy⟩ := hv
  rcases hy with ⟨z, rfl, hz, q⟩ | ⟨a, xs, rfl, hq, q⟩
  · have z1 := (Zn.pa_starS (X := X) (e := .Constant (.str z) 0 p) (p := p) hc pe_str hr (by rfl)).run pos pins s1 σ H1 Q I1 ⟨z, rfl, hz, q⟩
    obtain ⟨tk, rfl⟩ := ry
    have main : wpAny (model X.prog X.w) X.A (collect (.str z tk)) (fun us s2 => wpAny (model X.prog X.w) X.A (spliced (backTo pos (starEach es X.env))) (fun ws s3 => AP X pins σ Q (us ++ ws) s3) X.xe s2) X.xe s1 := by
      refine wpAny_collect_str hc z tk (fun s' acc hk hg hd ho hacc => ?_) hz
      have J : Inv X pins σ H1 s' := by
        have := I1.kept (h' := s'.heap) (t' := s'.toks) hk
        rw [Zn.sh_all s1 s' hg hd ho] at this
        exact this
      exact thn (hr.run pos pins s' σ H1 _ J q) fun ws s3 hw => by
        obtain ⟨vs, H3, I3, r3, q3⟩ := hw
        exact ⟨Zn.signs z ++ vs, H3, I3, (Zn.vals_signs hacc).append r3, q3⟩
    unfold PySem.W.StarOf notIterableAtAll
    exact wpAny_bind (wpAny_specialOf (typeIs_str s1 z tk) PySem.F.slot_str_iter.lookup (wpAny_pure ⟨rfl, main⟩))
  · have ev : v = Value.ref a := ry
    subst ev
    unfold PySem.W.StarOf notIterableAtAll
    rcases hq with hq | hq
    · obtain ⟨its, rv, ⟨o, ho, hcl, n, hd⟩, hz⟩ := I1.tuple hq
      refine wpAny_bind (wpAny_specialOf ⟨o, ho, hcl⟩ PySem.F.slot_tuple_iter.lookup (wpAny_pure ⟨rfl, ?_⟩))
      refine wpAny_collect_seq a (.inr rfl) ho hcl hd (fun h' hk => ?_) (by rw [List.size_toArray, ← rv.length]; exact hz)
      exact thn (hr.run pos pins _ σ H1 _ (I1.kept (t' := s1.toks) hk) q) fun ws s3 ⟨vs, H3, I3, r3, q3⟩ => ⟨xs ++ vs, H3, I3, (by simpa using rv.append r3), q3⟩
    · obtain ⟨its, rv, ⟨o, n, ho, hcl, _, hd⟩, hz⟩ := I1.list hq
      refine wpAny_bind (wpAny_specialOf ⟨o, ho, hcl⟩ PySem.F.slot_list_iter.lookup (wpAny_pure ⟨rfl, ?_⟩))
      refine wpAny_collect_seq a (.inl rfl) ho hcl hd (fun h' hk => ?_) (by rw [List.size_toArray, ← rv.length]; exact hz)
      exact thn (hr.run pos pins _ σ H1 _ (I1.kept (t' := s1.toks) hk) q) fun ws s3 ⟨vs, H3, I3, r3, q3⟩ => ⟨xs ++ vs, H3, I3, (by simpa using rv.append r3), q3⟩
theorem qa_star {p : Pos} (hc : X.A.handled = none) (he : QE X Ts E e te) (hr : QA X Ts E es t) (hs : starEach (.Starred e p :: es) X.env = (true, eval e X.env) :: starEach es X.env := by rfl) : QA X Ts E (.Starred e p :: es) (dStar te t) := paLe (pa_starA hc he hr hs) fun σ H Q ⟨ρ, S, M, Qd, Ed, R, sl, q, k, x⟩ =>
  ⟨ρ, S, M, _, Ed, R, sl, q, fun d M1 q1 ρ1 H1 v g1 R1 s1 => by
    rcases q1 with ⟨ds, ed, q2⟩ | ⟨j, ds, ed, em, q2⟩ | ⟨z, ed, hz, q2⟩
    · subst ed
      cases s1 with
      | tup ha hs => exact .inr ⟨_, _, rfl, .inl ha, ρ1, S, M1, _, Ed, R1, sl.grw g1, q2, fun es M2 q3 ρ2 H2 vs g2 R2 s2 => k _ _ q3 ρ2 H2 _ (g1.tr g2) R2 ((Shs.grw g2 _ _ hs).append s2), x.grw g1⟩
    · subst ed
      obtain ⟨a', vs, r1, h1, t1⟩ := R1.lst em
      cases s1 with
      | obj ea =>
        rw [ea] at r1; cases r1
        exact .inr ⟨_, vs, rfl, .inr (SqL.of h1), ρ1, S, M1, _, Ed, R1, sl.grw g1, q2, fun es M2 q3 ρ2 H2 us g2 R2 s2 => k _ _ q3 ρ2 H2 _ (g1.tr g2) R2 ((Shs.grw g2 _ _ t1).append s2), x.grw g1⟩
    · subst ed
      cases s1
      exact .inl ⟨z, rfl, hz, ρ1, S, M1, _, Ed, R1, sl.grw g1, q2, fun es M2 q3 ρ2 H2 us g2 R2 s2 => k _ _ q3 ρ2 H2 _ (g1.tr g2) R2 ((shs_signs z).append s2), x.grw g1⟩, x⟩
end
end Dl
set_option Elab.async false
set_option linter.all false
set_option maxRecDepth 100000
set_option maxHeartbeats 4000000
/-! What the printed readings want besides. -/
namespace Dl
open PySem PySem.Spec PyProof.Rows L2 GxR Gn
section
variable {X : Cx} {Ts : List Addr} {E : XK} {pos p : Pos} {a b c e : Expr} {es : List Expr} {ta tb : TEd} {t : TAd}
def dNo0 : TEd := fun _ _ _ _ => False
theorem qe_never : QE X Ts E e dNo0 := ⟨fun pins s σ H Q I ⟨_, _, _, _, _, _, _, h, _⟩ => h.elim⟩
theorem takes0 : Takes X (fun c d _ H => X00 c d H) := fun _ _ ⟨_, _, _, _, _, _, _, _, _, _, _, _, _, _, _, _, h⟩ => h.elim
theorem qe_globI {x : Str} {n : Int} (hg : Gl X x) (hm : ∃ t, X.mg x = some (.int n t)) (hd : (x == ("__debug__" : Str)) = false := by decide) : QE X Ts E (.Name x p) (dC (.int n)) :=
  let ⟨t, h⟩ := hm; qe_glob (v := .int n) hg h ⟨t, rfl⟩ (fun _ _ => .int n) hd
@[simp] def shrD := intD (fun _ j => 0 ≤ j) fun i j => .int (i / 2 ^ j.toNat)
theorem qe_shr (ha : QE X Ts E a ta) (hb : QE X Ts E b tb) : QE X Ts E (.BinOp a .RShift b pos) (dOp shrD ta tb) := qe_op op_shr (od_int fun _ _ _ _ => .int _) ha hb
/-- one of two walks -/
theorem pi_or {tg it : Expr} {t u : TI} (h1 : PI X tg it t) (h2 : PI X tg it u) : PI X tg it (fun σ H R => t σ H R ∨ u σ H R) :=
  ⟨fun pins s σ H R I h => h.elim (h1.run pins s σ H R I) (h2.run pins s σ H R I)⟩
@[simp] def dEnumA (t : TAd) : TId := fun S M Q E => dEnumT t S M Q E ∨ dEnumL t S M Q E
theorem qi_enumA {elts : List Expr} {kk : Nat} {tpos : Pos} {t : TAd} (hg : Gl X "enumerate") (hm : X.mg "enumerate" = none) (h : QA X Ts E [a] t) (hs : starEach [a] X.env = [(false, eval a X.env)] := by rfl) : QI X Ts E (.Tuple elts kk tpos) (.Call (.Name "enumerate" p) [a] [] pos) (dEnumA t) :=
  piLe (pi_or (qi_enumT hg hm h hs) (qi_enumL hg hm h hs)) fun σ H R ⟨ρ, S, M, Qd, Ed, Rr, sl, q, k, x⟩ => q.elim (fun q => .inl ⟨ρ, S, M, Qd, Ed, Rr, sl, q, k, x⟩) fun q => .inr ⟨ρ, S, M, Qd, Ed, Rr, sl, q, k, x⟩
/-- a, b = x, y -/
@[simp] def dPar (i j : Nat) (t : TAd) : TSd := fun D E S M => t S M (fun ds M1 => ∃ d e, ds = [d, e] ∧ D.nx ((S.set i (some d)).set j (some e)) M1) E
theorem qs_par {i j : Nat} {x y : Str} {px py pt : Pos} {kt k2 pt2} (hc : X.calm = true) (hN : X.N.Nodup) (hi : X.N[i]? = some x) (hj : X.N[j]? = some y) (hij : i ≠ j)
    (hx : X.env.scope.names.lookup x = some .local) (hy : X.env.scope.names.lookup y = some .local) (ha : QA X Ts E [a, b] t)
    (hw : swappedStores [.Tuple [.Name x px, .Name y py] kt pt] (.Tuple [a, b] k2 pt2) X.env = pure (some [x, y]))
    (hs : swapsWithSole [.Tuple [.Name x px, .Name y py] kt pt] (.Tuple [a, b] k2 pt2) pos.line X.env = pure false := by rfl) :
    QS X Ts E (.Assign [.Tuple [.Name x px, .Name y py] kt pt] (.Tuple [a, b] k2 pt2) pos) (dPar i j t) := psLe (ps_par hc hN hi hj hij hx hy ha hw hs) fun D σ H ⟨ρ, S, M, Dd, Ed, R, sl, q, k, kr, kb, kc, x⟩ =>
  ⟨ρ, S, M, _, Ed, R, sl, q, fun ds M1 ⟨d, e, e1, q1⟩ ρ1 H1 vs g1 R1 s1 => by
    subst e1
    cases s1 with
    | cons h1 h2 =>
      cases h2 with
      | cons h2 h3 =>
        cases h3
        exact ⟨_, _, rfl, k _ _ q1 ρ1 H1 _ g1 R1 (((sl.grw g1).set i h1).set j h2)⟩, x⟩
end
/-! ### calls by names -/
section
variable {X : Cx} {Ts : List Addr} {k : Nat} {f : Addr} {fd : FuncData} {n : Nat} {ps ks : List Str} {sp : SpD} {E : XK} {x : Str} {p pos : Pos} {kws : List Keyword} {tk : TA} {t : TAd} {g : List Value → List Value → List Value} {gV : List V → List V → List V}
theorem callGW {sp : Sp} (F : FnG X.prog X.w X.K X.mg X.base k f fd n ps sp) (hr : RoomG k X.A) (hg : Gl X x) (hm : X.mg x = some (.ref f)) (kp : PySem.W.keepIn X.K (.ref f) = true) (hb : KBinds X.K fd ps ks g gV) (tk' : Takes X (fun c d _ H => E c d H)) (hkw : PK X kws tk)
    (hall : (backToKw pos (keywordEach kws X.env)).all (·.1.isSome) = true := by rfl) (hks : (backToKw pos (keywordEach kws X.env)).filterMap (·.1) = ks := by rfl) (hdb : (x == ("__debug__" : Str)) = false := by decide)
    (hpl : ((backTo pos (starEach [] X.env)).any (·.1) || (backToKw pos (keywordEach kws X.env)).any (·.1.isNone)) = false := by rfl) :
    PE X (.Call (.Name x p) [] kws pos) (fun σ H Q => tk σ H fun zs H1 => sp (gV [] zs) H1 Q E) := by
  constructor
  intro pins s σ H Q I h
  apply wpAny_Call_Name_kw
  apply ld_glob I hg hm _ hdb
  apply PySem.W.callWith_KW0 (h₀ := X.base) I.ok.mod.kin kp hall _ hpl
  refine thn (hkw.run pos pins s σ H _ I h) ?_
  rintro ws s2 ⟨zs, H2, I2, rz, q2⟩
  refine ⟨I2.kIn, ?_⟩
  rw [hks]
  have rr := hb.rel .nil rz
  have hl : (g [] ws).length = ps.length := by rw [← rr.length, F.cnt]; exact F.len _ _ _ _ q2
  refine wpAny_call (codeAny_mono (F.run X.A X.stack s2 H2 ⟨[], ks.zip ws⟩ _ _ Q E hr I2.env0 (hb.to s2 [] ws I2.kIn hl) rr q2) fun res s' hres => ?_)
  match res, hres with
  | .error u, hres => exact xe_of tk' I2 hres
  | .ok (.ret u), hres => exact I2.after hres
  | .ok .next, hres => exact False.elim hres
  | .ok .brk, hres => exact False.elim hres
  | .ok .cont, hres => exact False.elim hres
def pick {α : Type} (is : List Nat) (xs : List α) : List α := is.filterMap fun i => xs[i]?
def gP {α : Type} (is : List Nat) (us ws : List α) : List α := match us with
  | [] => if ws.length = is.length then pick is ws else []
  | _ => []
theorem vals_get : ∀ {vs : List V} {us : List Value} (i : Nat), Vals vs us → (vs[i]? = none ∧ us[i]? = none) ∨ ∃ v u, vs[i]? = some v ∧ us[i]? = some u ∧ RelV v u
  | [], _, i, h => by cases h; exact .inl ⟨by simp, by simp⟩
  | v :: vs, _, 0, h => by
    cases h with
    | cons h1 h2 => exact .inr ⟨v, _, rfl, rfl, h1⟩
  | v :: vs, _, i + 1, h => by
    cases h with
    | cons h1 h2 => simpa using vals_get i h2
theorem vals_pick {vs : List V} {us : List Value} (h : Vals vs us) : ∀ is : List Nat, Vals (pick is vs) (pick is us)
  | [] => .nil
  | i :: is => by
    unfold pick
    rcases vals_get i h with ⟨e1, e2⟩ | ⟨v, u, e1, e2, r⟩
    · rw [List.filterMap_cons_none e1, List.filterMap_cons_none e2]; exact vals_pick h is
    · rw [List.filterMap_cons_some e1, List.filterMap_cons_some e2]; exact .cons r (vals_pick h is)
theorem vals_gP {vs : List V} {us : List Value} {zs : List V} {ws : List Value} (is : List Nat) (r : Vals vs us) (rz : Vals zs ws) : Vals (gP is vs zs) (gP is us ws) := by
  cases r with
  | cons _ _ => exact .nil
  | nil =>
    unfold gP
    show Vals (if _ then _ else _) (if _ then _ else _)
    rw [rz.length]
    split
    · exact vals_pick rz is
    · exact .nil
theorem shs_pick {K : PySem.W.Frag} {ρ : Rho} {H : Hp} {ds : List D} {vs : List V} (h : Shs K ρ H ds vs) : ∀ is : List Nat, Shs K ρ H (pick is ds) (pick is vs)
  | [] => .nil
  | i :: is => by
    unfold pick
    cases e : vs[i]? with
    | none =>
      have : ds[i]? = none := by
        rw [List.getElem?_eq_none_iff] at e ⊢
        rw [h.length]; exact e
      rw [List.filterMap_cons_none e, List.filterMap_cons_none this]; exact shs_pick h is
    | some v =>
      obtain ⟨d, e2, s⟩ := h.get e
      rw [List.filterMap_cons_some e, List.filterMap_cons_some e2]; exact .cons s (shs_pick h is)
theorem kb_two {K : PySem.W.Frag} {x qual : Str} {st : Stmt} {f : Addr} {fd : FuncData} (F : Fun K x qual st f fd) {ps ks : List Str} {is : List Nat} (hi : is.length = 2 := by rfl) (hp : ps.length = 2 := by rfl)
    (h : ∀ (kV doc pm : Value) (an : Option Addr) (cdv ct u v : Value), bindArgs (PySem.W.fnOf x qual (defArgs st) (defBody st) (defScope st) .none kV doc pm an cdv ct) ⟨[], ks.zip [u, v]⟩ = pure (ps.zip (pick is [u, v])) := by intros; rfl) : KBinds K fd ps ks (gP is) (gP is) := by
  obtain ⟨oc, od, kV, doc, pm, an, cdv, ct, osl, rfl, lk, hcd⟩ := F.ex
  refine ⟨fun s us ws hk hl => ?_, fun r rz => vals_gP is r rz⟩
  cases us with
  | cons _ _ => rw [hp] at hl; exact absurd hl (by show ¬ 0 = 2; decide)
  | nil =>
    have e : ws.length = 2 := by
      by_cases z : ws.length = is.length
      · rw [z, hi]
      · unfold gP at hl
        simp only [if_neg z, hp] at hl
        exact absurd hl (by decide)
    match ws, e with
    | [u, v], _ =>
      have : gP is [] [u, v] = pick is [u, v] := by unfold gP; exact if_pos (by rw [hi]; rfl)
      rw [this]
      exact .of_eq (h kV doc pm an cdv ct u v)
theorem kb_three {K : PySem.W.Frag} {x qual : Str} {st : Stmt} {f : Addr} {fd : FuncData} (F : Fun K x qual st f fd) {ps ks : List Str} {is : List Nat} (hi : is.length = 3 := by rfl) (hp : ps.length = 3 := by rfl)
    (h : ∀ (kV doc pm : Value) (an : Option Addr) (cdv ct u v w : Value), bindArgs (PySem.W.fnOf x qual (defArgs st) (defBody st) (defScope st) .none kV doc pm an cdv ct) ⟨[], ks.zip [u, v, w]⟩ = pure (ps.zip (pick is [u, v, w])) := by intros; rfl) : KBinds K fd ps ks (gP is) (gP is) := by
  obtain ⟨oc, od, kV, doc, pm, an, cdv, ct, osl, rfl, lk, hcd⟩ := F.ex
  refine ⟨fun s us ws hk hl => ?_, fun r rz => vals_gP is r rz⟩
  cases us with
  | cons _ _ => rw [hp] at hl; exact absurd hl (by show ¬ 0 = 3; decide)
  | nil =>
    have e : ws.length = 3 := by
      by_cases z : ws.length = is.length
      · rw [z, hi]
      · unfold gP at hl
        simp only [if_neg z, hp] at hl
        exact absurd hl (by decide)
    match ws, e with
    | [u, v, w], _ =>
      have : gP is [] [u, v, w] = pick is [u, v, w] := by unfold gP; exact if_pos (by rw [hi]; rfl)
      rw [this]
      exact .of_eq (h kV doc pm an cdv ct u v w)
abbrev QK (X : Cx) (Ts : List Addr) (E : XK) (kws : List Keyword) (t : TAd) : Prop := PK X kws (rdA X.K Ts E t)
theorem pkLe {X : Cx} {kws : List Keyword} {t t' : TA} (h : PK X kws t) (i : ∀ σ H Q, t' σ H Q → t σ H Q) : PK X kws t' := ⟨fun p pins s σ H Q I q => h.run p pins s σ H Q I (i σ H Q q)⟩
theorem qk_nil : QK X Ts E [] dNil := pkLe pk_nil fun σ H Q ⟨ρ, S, M, Qd, Ed, R, sl, q, k, x⟩ => k _ _ q ρ H [] (Grw.refl _ _) R .nil
theorem qk_cons {e : Expr} {nm : Option Str} {kpos : Pos} {ta : TEd} {t : TAd} (ha : QE X Ts E e ta) (hr : QK X Ts E kws t) : QK X Ts E (⟨nm, e, kpos⟩ :: kws) (dCons ta t) := pkLe (pk_cons ha hr) fun σ H Q ⟨ρ, S, M, Qd, Ed, R, sl, q, k, x⟩ =>
  ⟨ρ, S, M, _, Ed, R, sl, q, fun d M1 q1 ρ1 H1 v g1 R1 s1 => ⟨ρ1, S, M1, _, Ed, R1, sl.grw g1, q1, fun ds M2 q2 ρ2 H2 vs g2 R2 s2 => k _ _ q2 ρ2 H2 _ (g1.tr g2) R2 (.cons (Sh.grw g2 _ _ s1) s2), x.grw g1⟩, x⟩
@[simp] def dCallW (n : Nat) (is : List Nat) (sp : SpD) (t : TAd) : TEd := fun S M Q E => t S M (fun ds M1 => ds.length = n ∧ is.length = n ∧ (pick is ds).length = n ∧ sp (pick is ds) M1 Q E) E
theorem qe_callW {is : List Nat} (F : FnD X.prog X.w X.K X.mg X.base Ts k f fd n ps sp) (hr : RoomG k X.A) (hg : Gl X x) (hm : X.mg x = some (.ref f)) (kp : PySem.W.keepIn X.K (.ref f) = true) (hb : KBinds X.K fd ps ks (gP is) (gP is)) (tk' : Takes X (fun c d _ H => E c d H)) (hkw : QK X Ts E kws t)
    (hall : (backToKw pos (keywordEach kws X.env)).all (·.1.isSome) = true := by rfl) (hks : (backToKw pos (keywordEach kws X.env)).filterMap (·.1) = ks := by rfl) (hdb : (x == ("__debug__" : Str)) = false := by decide)
    (hpl : ((backTo pos (starEach [] X.env)).any (·.1) || (backToKw pos (keywordEach kws X.env)).any (·.1.isNone)) = false := by rfl) :
    QE X Ts E (.Call (.Name x p) [] kws pos) (dCallW n is sp t) := peLe (callGW F hr hg hm kp hb tk' hkw hall hks hdb hpl) fun σ H Q ⟨ρ, S, M, Qd, Ed, R, sl, q, kk, xx⟩ =>
  ⟨ρ, S, M, _, Ed, R, sl, q, fun ds M1 ⟨h1, h2, h3, q1⟩ ρ1 H1 vs g1 R1 s1 => by
    have e : gP is [] vs = pick is vs := by unfold gP; exact if_pos (by rw [← s1.length, h1, h2])
    show spOf X.K Ts n sp (gP is [] vs) H1 Q E
    rw [e]
    have sp' := shs_pick s1 is
    exact ⟨sp'.length.symm.trans h3, ρ1, M1, _, Qd, Ed, R1, sp', q1, kk.grw g1, xx.grw g1⟩, xx⟩
end
end Dl
set_option Elab.async false
set_option linter.all false
set_option maxRecDepth 100000
set_option maxHeartbeats 4000000
/-! What the printed texts name. -/
namespace Dl
open PySem PySem.Spec PyProof.Rows L2 GxR Gn
/-- a def of the top, called by its parameters -/
structure Df (K : PySem.W.Frag) (mg : Str → Option Value) (x : Str) (st : Stmt) (ps : List Str) (f : Addr) (fd : FuncData) : Prop where
  F : Fun K x x st f fd
  g : mg x = some (.ref f)
  b : Binds K fd ps []
theorem Df.kp {K : PySem.W.Frag} {mg : Str → Option Value} {x : Str} {st : Stmt} {ps : List Str} {f : Addr} {fd : FuncData} (D : Df K mg x st ps f fd) : PySem.W.keepIn K (.ref f) = true := D.F.kp
/-- the code of a def with a generator expression, and its table -/
structure Tb (mg : Str → Option Value) (base : Heap) (fd : FuncData) (c P : Addr) : Prop where
  code : fd.code = .ref c
  tab : TabB base mg c P
theorem bt_len : bootBuiltins "len" = some (.builtin "len") := by decide +kernel
theorem bt_isinstance : bootBuiltins "isinstance" = some (.builtin "isinstance") := by decide +kernel
theorem bt_repr : bootBuiltins "repr" = some (.builtin "repr") := by decide +kernel
theorem bt_sum : bootBuiltins "sum" = some (.builtin "sum") := by decide +kernel
theorem bt_max : bootBuiltins "max" = some (.builtin "max") := by decide +kernel
theorem bt_min : bootBuiltins "min" = some (.builtin "min") := by decide +kernel
theorem bt_int : bootBuiltins "int" = some (.type "int") := by decide +kernel
theorem bt_tuple : bootBuiltins "tuple" = some (.type "tuple") := by decide +kernel
theorem bt_list : bootBuiltins "list" = some (.type "list") := by decide +kernel
section
variable {X : Cx} {Ts : List Addr} {E : XK} {pos : Pos}
theorem qg_tupA {es : List Expr} {k : Nat} {t : TGsd} {n : Nat} (hc : X.calm = true) (h : QGs X Ts es t) (hl : es.length = n := by rfl) (hn : (assignEach es X.env).length = n := by rfl) (hst : (assignEach es X.env).findIdx? (·.1) = none := by rfl) : QG X Ts (.Tuple es k pos) (dGTup n t) :=
  qg_tup hc h hl (pg_tup hc h hn hst)
/-! sums and greatest of tuples -/
theorem iter_intTup {A : Around} {E' : Value → Shared → Prop} {prog : Program} {w : World} {s : Shared} {l : Addr} {xs : Array (Int × Tok)} {Q : Value → Shared → Prop} (hl : s.heap.IsTuple l (intItems xs))
    (h : ∀ s₂ : Shared, s₂ = { s with heap := s.heap.push { cls := .type "tuple_iterator", data := .fields #[.ref l, .int 0 0] } } →
      (s₂.heap.IsTupleIter s.heap.objs.size l 0 ∧ s₂.heap.IsTuple l (intItems xs)) → (∀ b ∈ [s.heap.objs.size, l], b < s₂.heap.objs.size) → l ≠ s.heap.objs.size → Q (.ref s.heap.objs.size) s₂) :
    wpAny (model prog w) A (pyIter (.ref l)) Q E' s := by
  have hlt : l < s.heap.objs.size := by obtain ⟨_, e, _⟩ := hl; exact Heap.lt_size e
  refine wpAny_pyIter_tuple hl (h _ rfl ⟨⟨_, Heap.get?_push_size _ rfl, rfl, rfl⟩, hl.push _⟩ (fun b hb => ?_) (Nat.ne_of_lt hlt))
  show b < (s.heap.push _).objs.size
  rw [Heap.size_push]
  rcases List.mem_cons.mp hb with rfl | hb
  · exact Nat.lt_succ_self _
  · rcases List.mem_cons.mp hb with rfl | hb
    · exact Nat.lt_succ_of_lt hlt
    · cases hb
theorem kept_tup {s : Shared} {l : Addr} {h' : Heap} (hk : ∀ b o, b ∉ [s.heap.objs.size] → (s.heap.push { cls := .type "tuple_iterator", data := .fields #[.ref l, .int 0 0] }).get? b = some o → h'.get? b = some o) :
    ∀ b o, s.heap.get? b = some o → h'.get? b = some o := fun b o e => by
  refine hk b o (fun hm => ?_) (Heap.get?_push_of_some _ e)
  rcases List.mem_cons.mp hm with e1 | hm
  · exact absurd (e1 ▸ Heap.lt_size e) (Nat.lt_irrefl _)
  · cases hm
theorem sum_tupG {A : Around} {E' : Value → Shared → Prop} {prog : Program} {w : World} {s : Shared} {l : Addr} {xs : Array (Int × Tok)} {Q : Value → Shared → Prop} (hh : A.handled = none) (hl : s.heap.IsTuple l (intItems xs))
    (h : ∀ h' tk t', (∀ b o, s.heap.get? b = some o → h'.get? b = some o) → Q (.int (preSum (numAt xs) xs.size) t') { s with heap := h', toks := tk }) :
    wpAny (model prog w) A (call (.builtin "sum") [.ref l]) Q E' s := by
  refine PySem.call_sum_walkG (iter_intTup hl fun s₂ e st hfp hlI => ?_)
  subst e
  refine ⟨_, _, _, _, _, _, numAt xs, rfl, Walks.tuple (A := A.in1) hh _ l hlI (intItems xs), st, hfp, (fun _ _ => intItems_at), fun h' tk t' hk => ?_⟩
  have := h h' tk t' (kept_tup hk)
  simpa [intItems] using this
def rSumT (K : PySem.W.Frag) : List V → Hp → VK → Prop := fun vs H Q => ∃ (a : Addr) (ns : List Int), vs = [V.ref a] ∧ SqT K H a (ns.map V.int) ∧ Q (.int ns.sum) H
theorem cr_sumT (hc : X.calm = true) : CallR X (.builtin "sum") (rSumT X.K) := by
  intro pins s σ H vs us Q I r h
  obtain ⟨a, ns, rfl, hs, q⟩ := h
  obtain ⟨its, rv, hl, _⟩ := I.tuple hs
  rw [Vals.ref1 r]
  have hi := rv.ints
  obtain ⟨xs, e⟩ := hi.allInts.items
  have hn : numsOf (intItems xs).toList = ns := by rw [← e]; exact hi.numsOf
  rw [nums_intItems] at hn
  rw [e] at hl
  refine sum_tupG (I.ok.hd hc) hl fun h' tk t' hk => ?_
  refine ⟨.int ns.sum, H, I.kept hk, ⟨t', ?_⟩, q⟩
  rw [preSum_eq, List.take_of_length_le (by simp), hn]
def rSumH (X : Cx) : List V → Hp → VK → Prop := fun vs H Q => rSum X.K vs H Q ∨ rSumT X.K vs H Q
def sumHD : List D → Mem → KD → Prop
  | [.obj i], M, Q => ∃ ds ns, M[i]? = some (.lst ds) ∧ intsOf ds = some ns ∧ Q (.int ns.sum) M
  | [.tup ds], M, Q => ∃ ns, intsOf ds = some ns ∧ Q (.int ns.sum) M
  | _, _, _ => False
theorem cr_sumH (hc : X.calm = true) : CallR X (.builtin "sum") (rSumH X) := (cr_sum hc).or (cr_sumT hc)
theorem cd_sumH : CallD X Ts (rSumH X) sumHD := fun ρ M H ds vs Q Qd R s h k => by
  cases s with
  | nil => exact h.elim
  | cons s1 s2 =>
    cases s2 with
    | cons _ _ => cases s1 <;> exact h.elim
    | nil =>
      cases s1 with
      | @obj i a ea => exact .inl (cd_sumL ρ M H [.obj i] [.ref a] Q Qd R (.cons (.obj ea) .nil) h k)
      | @tup a xs ds ha hs =>
        obtain ⟨ns, e, q⟩ := h
        have := intsOf_shs e hs
        subst this
        exact .inr ⟨a, ns, rfl, ha, k.same R q (.int _)⟩
      | _ => exact h.elim
theorem max_tupG {A : Around} {E' : Value → Shared → Prop} {prog : Program} {w : World} {s : Shared} {l : Addr} {xs : Array (Int × Tok)} {Q : Value → Shared → Prop} (hh : A.handled = none) (hl : s.heap.IsTuple l (intItems xs)) (hne : 0 < xs.size)
    (h : ∀ v h' tk, (intItems xs)[argBest (fun i j => decide (numAt xs i > numAt xs j)) (xs.size - 1)]? = some v → (∀ b o, s.heap.get? b = some o → h'.get? b = some o) → Q v { s with heap := h', toks := tk }) :
    wpAny (model prog w) A (call (.builtin "max") [.ref l]) Q E' s := by
  refine PySem.call_max_walk (iter_intTup hl fun s₂ e st hfp hlI => ?_)
  subst e
  refine ⟨_, _, _, _, _, _, _, rfl, Walks.tuple (A := A.in1) hh _ l hlI (intItems xs), st, hfp, by simpa [intItems] using hne, CmpOf.ints_gt (numAt xs) (fun _ _ => intItems_at), fun v h' tk hP hk => ?_⟩
  exact h v h' tk (by simpa [intItems] using hP) (kept_tup hk)
def rMaxT (K : PySem.W.Frag) : List V → Hp → VK → Prop := fun vs H Q => ∃ (a : Addr) (ns : List Int), vs = [V.ref a] ∧ SqT K H a (ns.map V.int) ∧ 0 < ns.length ∧ ∀ m, m ∈ ns → (∀ y, y ∈ ns → y ≤ m) → Q (.int m) H
theorem cr_maxT (hc : X.calm = true) : CallR X (.builtin "max") (rMaxT X.K) := by
  intro pins s σ H vs us Q I r h
  obtain ⟨a, ns, rfl, hs, hne, q⟩ := h
  obtain ⟨its, rv, hl, _⟩ := I.tuple hs
  rw [Vals.ref1 r]
  have hi := rv.ints
  obtain ⟨xs, e⟩ := hi.allInts.items
  have hn : numsOf (intItems xs).toList = ns := by rw [← e]; exact hi.numsOf
  rw [nums_intItems] at hn
  subst hn
  rw [e] at hl
  have hsz : 0 < xs.size := by simpa using hne
  refine max_tupG (I.ok.hd hc) hl hsz fun v h' tk hv hk => ?_
  obtain ⟨t, rfl⟩ := intItems_at hv
  obtain ⟨h1, h2⟩ := argBest_gt (numAt xs) (xs.size - 1)
  refine ⟨.int _, H, I.kept hk, ⟨t, rfl⟩, q _ ?_ fun a ha => ?_⟩
  · rw [numAt_eq]; exact PySem.getD_mem (by rw [List.length_map, Array.length_toList]; omega)
  · obtain ⟨j, hj, rfl⟩ := mem_getD ha
    rw [← numAt_eq]
    exact h2 j (by simp at hj; omega)
def maxHD : List D → Mem → KD → Prop
  | [.obj i], M, Q => ∃ ds ns, M[i]? = some (.lst ds) ∧ intsOf ds = some ns ∧ 0 < ns.length ∧ ∀ m, m ∈ ns → (∀ y, y ∈ ns → y ≤ m) → Q (.int m) M
  | [.tup ds], M, Q => ∃ ns, intsOf ds = some ns ∧ 0 < ns.length ∧ ∀ m, m ∈ ns → (∀ y, y ∈ ns → y ≤ m) → Q (.int m) M
  | _, _, _ => False
def rMaxH (X : Cx) : List V → Hp → VK → Prop := fun vs H Q => rMax X.K vs H Q ∨ rMaxT X.K vs H Q
theorem cr_maxH (hc : X.calm = true) : CallR X (.builtin "max") (rMaxH X) := (cr_max hc).or (cr_maxT hc)
theorem cd_maxH : CallD X Ts (rMaxH X) maxHD := fun ρ M H ds vs Q Qd R s h k => by
  cases s with
  | nil => exact h.elim
  | cons s1 s2 =>
    cases s2 with
    | cons _ _ => cases s1 <;> exact h.elim
    | nil =>
      cases s1 with
      | @obj i a ea =>
        obtain ⟨ds, ns, em, e, hp, q⟩ := h
        obtain ⟨a', vs, r1, g1, t1⟩ := R.lst em
        rw [ea] at r1; cases r1
        have := intsOf_shs e t1
        subst this
        exact .inl ⟨_, ns, rfl, .inl (.inl g1), hp, fun m h1 h2 => k.same R (q m h1 h2) (.int m)⟩
      | @tup a xs ds ha hs =>
        obtain ⟨ns, e, hp, q⟩ := h
        have := intsOf_shs e hs
        subst this
        exact .inr ⟨a, ns, rfl, ha, hp, fun m h1 h2 => k.same R (q m h1 h2) (.int m)⟩
      | _ => exact h.elim
theorem qs_putA {k : Nat} {tpos : Pos} {o i e : Expr} {to ti te : TEd} (hr : Room k X.A) (ho : QE X Ts E o to) (hi : QE X Ts E i ti) (he : QE X Ts E e te) (hs : swapsWithSole [.Subscript o i tpos] e pos.line X.env = pure false := by rfl) (hw : swappedStores [.Subscript o i tpos] e X.env = pure none := by rfl) (h1 : (assignEach [.Subscript o i tpos] X.env).map (·.2) = [assign (.Subscript o i tpos) X.env] := by rfl)
    (ha : ∀ v, assign (.Subscript o i tpos) X.env v = (do
      let ov ← holding [v] (eval o X.env)
      let iv ← holding [v, ov] (eval i X.env)
      standAt tpos
      holding [v, ov, iv] (setItem ov iv v)
      release [v, ov, iv] []) := by intro _; rfl) : QS X Ts E (.Assign [.Subscript o i tpos] e pos) (dPut to ti te) :=
  qs_put hr ho hi he hs hw h1 (pg_sub ho hi (set_any (by have := hr.units; omega)) ha)
theorem cr_reprG {k : Nat} (hr : RoomG k X.A) : CallR X (.builtin "repr") (Zn.rRepr X.K) := Zn.cr_repr hr.g (by have := hr.r.units; omega)
end
end Dl
set_option Elab.async false
set_option linter.all false
set_option maxRecDepth 100000
set_option maxHeartbeats 4000000
/-! The end of a law by data: its call stands at the caller alone, where no guard is held. -/
namespace Dl
open PySem PySem.Spec PyProof.Rows L2 GxR Gn
theorem small_le {n : Nat} (h : n ≤ 1000) : n ≤ sizeLine := by rw [sizeLine_eq]; omega
/-- what the walk tracks at first: the tables, and the script where the top has not written it -/
def hp0 (K : PySem.W.Frag) (Ts : List Addr) (a : Addr) (u : HO) : Hp := fun b => if b ∈ Ts then some (.tbl #[]) else if b = a ∧ K.lookup a = none then some u else none
theorem hp0_cases {K : PySem.W.Frag} {Ts : List Addr} {a b : Addr} {u o : HO} (h : hp0 K Ts a u b = some o) : (b ∈ Ts ∧ o = .tbl #[]) ∨ (b = a ∧ K.lookup a = none ∧ o = u) := by
  unfold hp0 at h
  split at h
  · rename_i m
    exact .inl ⟨m, (Option.some.inj h).symm⟩
  · split at h
    · rename_i m
      exact .inr ⟨m.1, m.2, (Option.some.inj h).symm⟩
    · cases h
/-- the law's promise, told of its run at the caller -/
def RunD (P : Program) (w : World) (K : PySem.W.Frag) (mg : Str → Option Value) (Ts : List Addr) (fa : Addr) : Prop :=
  ∀ (base : Heap) (s : Shared) (H : Hp) (a : Addr) (ns : List Int), K.In base → base.Ns mainGlobals mg → (∀ p ∈ Ts, base.BuiltinsAt mg p ∧ mainGlobals ≠ p) → Env0 P w K mg base callerA [] s H → (∀ p ∈ Ts, TabG H p) → FrL K H a (ns.map V.int) → ns.length ≤ 63 →
    codeAny (model P w) callerA (.call (.ref fa) ⟨[.ref a], []⟩) (CR (L2.CX P w) [] P w H s (fun v _ => v = .bl true) X00) s
theorem end_at {P : Program} {w : World} {K : PySem.W.Frag} {mg mb : Str → Option Value} {Ts : List Addr} {fa a : Addr} {s1 : Shared} {vs : List Value} {ns : List Int} (inK : K.In s1.heap) (glob : s1.heap.Ns mainGlobals mg) (blt : s1.heap.Ns builtinsNs mb)
    (boot : ∀ x : Str, x ≠ "__name__" → mb x = bootBuiltins x) (lim : s1.heap.NoLimit) (gens : s1.gens = #[]) (tabs : ∀ p ∈ Ts, s1.heap.get? p = some { cls := .none, data := .fields #[] }) (out : ∀ p ∈ Ts, K.lookup p = none) (kinds : ∀ p ∈ Ts, isCodeTable s1.heap p)
    (main : ∃ (bm : Addr) (ob : Obj), mg "__builtins__" = some (.ref bm) ∧ bm ≠ builtinsNs ∧ s1.heap.get? bm = some ob ∧ ob.cls = .type "module" ∧ ob.dict = some builtinsNs ∧ ob.data = .plain)
    (script : s1.heap.get? a = some { cls := .type "list", data := .seq vs.toArray }) (numbers : IntsAre vs ns) (short : ns.length ≤ 63) (R : RunD P w K mg Ts fa) :
    codeAny (model P w) callerA (.call (.ref fa) ⟨[.ref a], []⟩) (fun r s' => r = .ok (.ret (.bool true)) ∧ OldK s1.heap s'.heap ∧ s'.os = s1.os ∧ AllBare s'.gens) s1 := by
  obtain ⟨H, eH⟩ : ∃ H, H = hp0 K Ts a (.frz { cls := .type "list", data := .seq vs.toArray } (.lst (ns.map V.int))) := ⟨_, rfl⟩
  have split : ∀ {b : Addr} {o : HO}, H b = some o → (b ∈ Ts ∧ o = .tbl #[]) ∨ (b = a ∧ K.lookup a = none ∧ o = .frz { cls := .type "list", data := .seq vs.toArray } (.lst (ns.map V.int))) := fun {b o} h => hp0_cases (eH ▸ h)
  have small : (ns.map V.int).length ≤ sizeLine := by
    rw [List.length_map]
    exact small_le (by omega)
  have onTab : ∀ {p : Addr}, p ∈ Ts → H p = some (.tbl #[]) := fun {p} m => by
    rw [eH]
    exact if_pos m
  have aNot : a ∉ Ts := fun m => by
    have q := tabs a m
    rw [script] at q
    exact Data.noConfusion (congrArg Obj.data (Option.some.inj q))
  -- what is neither a sequence nor a table is not tracked
  have free : ∀ {b : Addr} {o : Obj}, s1.heap.get? b = some o → (∀ v n, o.data ≠ .seq v n) → o.data ≠ .fields #[] → H b = none := fun {b o} e n1 n2 => by
    cases q : H b with
    | none => rfl
    | some u =>
      exfalso
      rcases split q with ⟨m, _⟩ | ⟨z, _⟩
      · rw [tabs b m] at e
        cases e
        exact n2 rfl
      · rw [z, script] at e
        cases e
        exact n1 _ _ rfl
  have lay : ∀ {b : Addr} {o : Obj}, s1.heap.get? b = some o → H b = none → (hidT s1.heap H).get? b = some o := fun e n => hidT_get e n
  have names : ∀ {b : Addr} {m : Str → Option Value}, s1.heap.Ns b m → (hidT s1.heap H).Ns b m := by
    rintro b m ⟨o, es, ep, e, hd, rest⟩
    refine ⟨o, es, ep, lay e (free e (fun v n z => ?_) fun z => ?_), hd, rest⟩
    · rw [hd] at z; cases z
    · rw [hd] at z; cases z
  have kin : K.In (hidT s1.heap H) := fun b o e => by
    refine lay (inK b o e) ?_
    cases q : H b with
    | none => rfl
    | some u =>
      exfalso
      rcases split q with ⟨m, _⟩ | ⟨z, n, _⟩
      · rw [out b m] at e; cases e
      · rw [z, n] at e; cases e
  have limB : (hidT s1.heap H).NoLimit := by
    obtain ⟨m, x, y⟩ := lim
    exact ⟨m, names x, y⟩
  have bAt : ∀ p ∈ Ts, (hidT s1.heap H).BuiltinsAt mg p ∧ mainGlobals ≠ p := fun p m => by
    have hp := tabs p m
    obtain ⟨bm, ob, q1, q2, q3, q4, q5, q6⟩ := main
    obtain ⟨og, es, ep, g1, g2, _⟩ := id glob
    refine ⟨⟨bm, ob, q1, q2, fun z => ?_, fun z => ?_, lay q3 (free q3 (fun v n z => ?_) fun z => ?_), q4, q5, q6⟩, fun z => ?_⟩
    · rw [z, g1] at q3; cases q3; rw [g2] at q6; cases q6
    · rw [z, hp] at q3; cases q3; cases q6
    · rw [q6] at z; cases z
    · rw [q6] at z; cases z
    · rw [z, hp] at g1; cases g1; cases g2
  have held : HOk P w H s1.heap := fun b u q => by
    rcases split q with ⟨m, rfl⟩ | ⟨rfl, _, rfl⟩
    · exact tabs b m
    · exact ⟨script, small, vs, _, vals_ints numbers, script⟩
  have env0 : Env0 P w K mg (hidT s1.heap H) callerA [] s1 H :=
    { frames := rfl, mod := ⟨kin, names glob, ⟨mb, names blt, boot⟩, limB⟩, bs := fun b o e => of_hidT e, bsz := Nat.le_of_eq (hidT_size _ _), funs := trivial, frf := fun b m => absurd (show b ∈ ([] : List Addr) from m) (by simp), hok := held, bare := .of_eq gens }
  have seq : FrL K H a (ns.map V.int) := by
    cases q : K.lookup a with
    | none =>
      refine .inl ⟨{ cls := .type "list", data := .seq vs.toArray }, ?_⟩
      rw [eH]
      exact (if_neg aNot).trans (if_pos ⟨rfl, q⟩)
    | some o =>
      have e := inK a o q
      rw [script] at e
      cases e
      refine .inr ⟨_, vs.toArray, _, q, rfl, rfl, rfl, ?_, by simpa using vals_ints numbers⟩
      have := numbers.length
      rw [List.size_toArray]
      exact small_le (by omega)
  have tok : ∀ p ∈ Ts, TabG H p := fun p m => ⟨#[], onTab m, trivial⟩
  refine codeAny_mono (R _ s1 H a ns kin (names glob) bAt env0 tok seq short) ?_
  rintro (e | fl) s' h
  · obtain ⟨_, _, _, _, _, _, _, _, _, _, _, _, hE⟩ := h
    exact hE.elim
  cases fl with
  | next => exact h.elim
  | brk => exact h.elim
  | cont => exact h.elim
  | ret u =>
    obtain ⟨v, H', os, bare, un, after, rel, rfl⟩ := h
    obtain rfl : u = Value.bool true := rel
    -- every object but the tables is as it was
    have stay : ∀ b o, b ∉ Ts → s1.heap.get? b = some o → s'.heap.get? b = some o := fun b o n e => by
      cases q : H b with
      | none => exact un.keep b o e q (fun z => by cases z) fun z => by cases z
      | some x =>
        rcases split q with ⟨m, _⟩ | ⟨rfl, _, rfl⟩
        · exact absurd m n
        · rw [script] at e
          cases e
          exact (after _ _ (un.frzs _ _ _ q)).1
    have more : ∀ p, p ∈ Ts → ∃ ps : Array Value, s'.heap.get? p = some { cls := .none, data := .fields ps } := fun p m => by
      obtain ⟨ps, z⟩ := un.tbls p #[] (onTab m)
      exact ⟨_, after p _ z⟩
    refine ⟨rfl, ⟨fun b o e => ?_, fun b o e => ?_⟩, os, bare⟩
    · by_cases m : b ∈ Ts
      · obtain ⟨ps, z⟩ := more b m
        rw [tabs b m] at e
        cases e
        exact .inr (.inl ⟨kinds b m, rfl, #[], ps, rfl, by rw [Array.empty_append]; exact z⟩)
      · exact .inl (stay b o m e)
    · by_cases m : b ∈ Ts
      · obtain ⟨ps, z⟩ := more b m
        exact ⟨_, z⟩
      · exact ⟨o, stay b o m e⟩
/-- the walk of the law's row -/
theorem walk_at {l : PySem.W.OpenLaw} {q : Program} {loose : List Str} {XP : (Str → Option Value) → Heap → Prop} {YP : World → Heap → Prop} {d : DefRec} {K : Params → PySem.W.Frag} (names : List Str) (most : l.most = some 63) (plain : d.params.defaults = [])
    (recs : (names.all fun x => (recsOf q).any fun e => e.name == x) = true) (inK : ∀ (w : World) (h : Heap), YP w h → (K w.params).In h)
    (F : ∀ (w : World) (mg : Str → Option Value) (fa : Addr) (h : Heap), (K w.params).In h → h.Ns mainGlobals mg → mg d.name = some (.ref fa) → (∀ x ∈ names, ∀ f, mg x = some (.ref f) → LamX.OwnTab (K w.params) f h) →
      ∃ Ts : List Addr, (∀ p ∈ Ts, h.get? p = some { cls := .none, data := .fields #[] } ∧ isCodeTable h p ∧ (K w.params).lookup p = none) ∧ RunD l.prog w (K w.params) mg Ts fa) :
    PySem.W.WalkO q loose XP YP l.row.toRowW d [] (fun f vs => PySem.call f vs) := by
  apply Att.attach_callB most plain
  intro w s0 s1 mg mb fa o pm cd doc a vs ns G Y _ _ _ atFa script numbers short _ gens
  have kin := inK w _ Y
  have own : ∀ x ∈ names, ∀ f, mg x = some (.ref f) → LamX.OwnTab (K w.params) f s1.heap := by
    intro x hx f hf c p o1 fd e dd us sl k1 k2 k3 k4 k5
    obtain ⟨r, hr, same⟩ := List.any_eq_true.mp (List.all_eq_true.mp recs x hx)
    obtain ⟨f', o', fd', c', p', m1, m2, m3, m4, _, ⟨⟨oc, uc, y1, _, y3, y4⟩, tab⟩⟩ := G.T.tab r hr
    rw [beq_iff_eq.mp same, hf] at m1
    cases m1
    rw [kin _ _ k1] at m2
    cases m2
    rw [k2] at m3
    cases m3
    rw [k3] at m4
    cases m4
    rw [kin _ _ k4] at y1
    cases y1
    cases y3
    rw [k5] at y4
    cases y4
    exact tab
  obtain ⟨Ts, hT, R⟩ := F w mg fa _ kin G.T.g atFa own
  exact end_at kin G.T.g G.T.b G.T.builtins G.T.nolimit gens (fun p m => (hT p m).1) (fun p m => (hT p m).2.2) (fun p m => (hT p m).2.1) G.T.bmain script numbers short R
theorem rl0 {K : PySem.W.Frag} {Ts : List Addr} {H : Hp} (tk : ∀ p ∈ Ts, TabG H p) : Rl K Ts (fun _ => none) [] H where
  inj := fun i j a h _ => by cases h
  dom := fun i a h => by cases h
  cell := fun i c h => by simp at h
  tab := tk
/-- the run at the caller, by the reading of the law -/
theorem run_top {P : Program} {w : World} {K : PySem.W.Frag} {mg : Str → Option Value} {base : Heap} {Ts : List Addr} {k : Nat} {fa a : Addr} {fd : FuncData} {sp : SpD} {s : Shared} {H : Hp} {ns : List Int} (F : FnD P w K mg base Ts k fa fd 1 ["script"] sp) (room : Room k callerA) (b : Binds K fd ["script"] [])
    (e0 : Env0 P w K mg base callerA [] s H) (kb : K.In base) (tk : ∀ p ∈ Ts, TabG H p) (sq : FrL K H a (ns.map V.int)) (hl : sp [.scr ns] [] (fun d _ => d = .bl true) E00) :
    codeAny (model P w) callerA (.call (.ref fa) ⟨[.ref a], []⟩) (CR (L2.CX P w) [] P w H s (fun v _ => v = .bl true) X00) s := by
  have inS : K.In s.heap := fun b o e => (e0.bs b o (kb b o e)).1
  refine F.run callerA [] s H ⟨[.ref a], []⟩ [.ref a] [.ref a] _ _ ⟨room, rfl⟩ e0 (by simpa using b s [.ref a] inS rfl) (.cons rfl .nil) ⟨rfl, fun _ => none, [], [.scr ns], _, E00, rl0 tk, .cons (.scr sq) .nil, hl, fun d M' e ρ' H' v g R sh => ?_, xok0⟩
  subst e
  cases sh
  rfl
end Dl
set_option Elab.async false
set_option linter.all false
set_option maxRecDepth 100000
set_option maxHeartbeats 4000000
/-! Reckoning with readings: what a printed promise says of given data. -/
namespace Dl
open PySem PySem.Spec PyProof.Rows L2 GxR Gn
section
variable {M : Mem} {Q : KD} {d e : D} {ds es : List D} {i j : Int} {n m : Nat} {x y : Str} {a b : Bool}
@[simp] theorem intD_int {C : Int → Int → Prop} {g : Int → Int → D} : Dl.intD C g (.int i) (.int j) M Q ↔ C i j ∧ Q (g i j) M := Iff.rfl
@[simp] theorem addD_int : addD (.int i) (.int j) M Q ↔ Q (.int (i + j)) M := Iff.rfl
@[simp] theorem addD_str : addD (.str x) (.str y) M Q ↔ x.length + y.length ≤ sizeLine ∧ Q (.str (x ++ y)) M := Iff.rfl
@[simp] theorem addD_tup : addD (.tup ds) (.tup es) M Q ↔ ds.length + es.length ≤ sizeLine ∧ Q (.tup (ds ++ es)) M := Iff.rfl
@[simp] theorem addD_obj : addD (.obj n) (.obj m) M Q ↔ ∃ xs ys, M[n]? = some (.lst xs) ∧ M[m]? = some (.lst ys) ∧ xs.length + ys.length ≤ sizeLine ∧ Q (.obj M.length) (M ++ [.lst (xs ++ ys)]) := Iff.rfl
@[simp] theorem mulD_int : mulD (.int i) (.int j) M Q ↔ CMulW i j ∧ Q (.int (i * j)) M := Iff.rfl
@[simp] theorem mulD_tup : mulD (.tup ds) (.int j) M Q ↔ ds ≠ [] ∧ 2 ≤ j ∧ j ≤ 1000 ∧ ds.length ≤ 1000 ∧ Q (.tup (List.replicate j.toNat ds).flatten) M := Iff.rfl
@[simp] theorem cmpD_int {st : Bool} : cmpD st (.int i) (.int j) M Q ↔ Q (.bl (if st then decide (i < j) else decide (i ≤ j))) M := Iff.rfl
@[simp] theorem cmpD_str {st : Bool} : cmpD st (.str x) (.str y) M Q ↔ Q (.bl (if st then decide (x.cps.toList < y.cps.toList) else !decide (y.cps.toList < x.cps.toList))) M := Iff.rfl
@[simp] theorem kindD_int : kindD (.int i) M = some "int" := rfl
@[simp] theorem kindD_bl : kindD (.bl a) M = some "bool" := rfl
@[simp] theorem kindD_non : kindD .non M = some "NoneType" := rfl
@[simp] theorem kindD_str : kindD (.str x) M = some "str" := rfl
@[simp] theorem kindD_tup : kindD (.tup ds) M = some "tuple" := rfl
@[simp] theorem kindD_obj : kindD (.obj n) M = match M[n]? with
    | some (.lst _) => some "list"
    | some (.dK _) => some "dict"
    | _ => none := rfl
@[simp] theorem isiD_two {T : String} : isiD [d, .ty T] M Q ↔ ∃ k b, kindD d M = some k ∧ kitB k T = some b ∧ Q (.bl b) M := Iff.rfl
@[simp] theorem intOfD_int : intOfD [.int i] M Q ↔ Q (.int i) M := Iff.rfl
@[simp] theorem intOfD_bl : intOfD [.bl a] M Q ↔ Q (.int (if a then 1 else 0)) M := Iff.rfl
@[simp] theorem tupOfD_tup : tupOfD [.tup ds] M Q ↔ Q (.tup ds) M := Iff.rfl
@[simp] theorem tupOfD_obj : tupOfD [.obj n] M Q ↔ ∃ ds, M[n]? = some (.lst ds) ∧ Q (.tup ds) M := Iff.rfl
@[simp] theorem lstOfD_tup : lstOfD [.tup ds] M Q ↔ Q (.obj M.length) (M ++ [.lst ds]) := Iff.rfl
@[simp] theorem lstOfD_obj : lstOfD [.obj n] M Q ↔ ∃ ds, M[n]? = some (.lst ds) ∧ Q (.obj M.length) (M ++ [.lst ds]) := Iff.rfl
@[simp] theorem lstOfD_str : lstOfD [.str x] M Q ↔ x.cps.size ≤ sizeLine ∧ Q (.obj M.length) (M ++ [.lst (sgD x)]) := Iff.rfl
@[simp] theorem lenD_tup : lenD [.tup ds] M Q ↔ Q (.int (ds.length : Nat)) M := Iff.rfl
@[simp] theorem lenD_str : lenD [.str x] M Q ↔ x.length ≤ sizeLine ∧ Q (.int (x.length : Nat)) M := Iff.rfl
@[simp] theorem lenD_obj : lenD [.obj n] M Q ↔ (∃ ds, M[n]? = some (.lst ds) ∧ Q (.int (ds.length : Nat)) M) ∨ ∃ kvs, M[n]? = some (.dK kvs) ∧ Q (.int (kvs.length : Nat)) M := Iff.rfl
@[simp] theorem max2D_int {mx : Bool} : max2D mx [.int i, .int j] M Q ↔ Q (.int (if mx then (if j > i then j else i) else (if j < i then j else i))) M := Iff.rfl
@[simp] theorem ixA_tup : ixA (.tup ds) (.int j) M Q ↔ ∃ v, atI ds j = some v ∧ Q v M := Iff.rfl
@[simp] theorem ixA_str : ixA (.str x) (.int j) M Q ↔ ∃ c, x.length ≤ sizeLine ∧ atI x.cps.toList j = some c ∧ Q (.str ⟨#[c]⟩) M := Iff.rfl
@[simp] theorem ixA_objS : ixA (.obj n) (.str x) M Q ↔ match M[n]? with
    | some (.dK kvs) => ∃ v, valD kvs (.inr x) = some v ∧ Q v M
    | _ => False := by
  show (match M[n]? with | some (.dK kvs) => ∃ k v, keyOf (.str x) = some k ∧ valD kvs k = some v ∧ Q v M | _ => ixD (.obj n) (.str x) M Q) ↔ _
  cases M[n]? with
  | none => exact Iff.rfl
  | some c =>
    cases c with
    | dK kvs => exact ⟨fun ⟨k, v, e, h⟩ => by cases e; exact ⟨v, h⟩, fun ⟨v, h⟩ => ⟨_, v, rfl, h⟩⟩
    | _ => exact Iff.rfl
@[simp] theorem ixA_objI {xs : List D} (h : M[n]? = some (.lst xs)) : ixA (.obj n) (.int j) M Q ↔ ∃ v, atI xs j = some v ∧ Q v M := by
  show (match M[n]? with | some (.dK kvs) => ∃ k v, keyOf (.int j) = some k ∧ valD kvs k = some v ∧ Q v M | _ => ixD (.obj n) (.int j) M Q) ↔ _
  rw [h]
  exact ⟨fun ⟨ds, v, e, h2⟩ => by rw [h] at e; cases e; exact ⟨v, h2⟩, fun ⟨v, h2⟩ => ⟨_, v, h, h2⟩⟩
@[simp] theorem slD_tup {lo hi : Option Int} : slD (.tup ds) lo hi M Q ↔ Q (.tup (cutL ds lo hi)) M := Iff.rfl
@[simp] theorem slD_obj {lo hi : Option Int} : slD (.obj n) lo hi M Q ↔ ∃ ds, M[n]? = some (.lst ds) ∧ Q (.obj M.length) (M ++ [.lst (cutL ds lo hi)]) := Iff.rfl
@[simp] theorem slD_str {lo hi : Option Int} : slD (.str x) lo hi M Q ↔ x.length ≤ sizeLine ∧ Q (.str (cutS x lo hi)) M := Iff.rfl
@[simp] theorem slD_scr {ns : List Int} {lo hi : Option Int} : slD (.scr ns) lo hi M Q ↔ Q (.obj M.length) (M ++ [.lst (cutL (ns.map D.int) lo hi)]) := Iff.rfl
@[simp] theorem seqD_tup {Q : List D → (Mem → Prop) → Mem → Prop} : seqD (.tup ds) M Q ↔ Q ds (fun _ => True) M := Iff.rfl
@[simp] theorem seqD_obj {Q : List D → (Mem → Prop) → Mem → Prop} : seqD (.obj n) M Q ↔ ∃ ds, M[n]? = some (.lst ds) ∧ Q ds (fun M => M[n]? = some (.lst ds)) M := Iff.rfl
@[simp] theorem seqD_str {Q : List D → (Mem → Prop) → Mem → Prop} : seqD (.str x) M Q ↔ Q (sgD x) (fun _ => True) M := Iff.rfl
@[simp] theorem sumHD_obj : sumHD [.obj n] M Q ↔ ∃ ds ns, M[n]? = some (.lst ds) ∧ intsOf ds = some ns ∧ Q (.int ns.sum) M := Iff.rfl
@[simp] theorem sumHD_tup : sumHD [.tup ds] M Q ↔ ∃ ns, intsOf ds = some ns ∧ Q (.int ns.sum) M := Iff.rfl
@[simp] theorem maxHD_obj : maxHD [.obj n] M Q ↔ ∃ ds ns, M[n]? = some (.lst ds) ∧ intsOf ds = some ns ∧ 0 < ns.length ∧ ∀ m, m ∈ ns → (∀ y, y ∈ ns → y ≤ m) → Q (.int m) M := Iff.rfl
@[simp] theorem maxHD_tup : maxHD [.tup ds] M Q ↔ ∃ ns, intsOf ds = some ns ∧ 0 < ns.length ∧ ∀ m, m ∈ ns → (∀ y, y ∈ ns → y ≤ m) → Q (.int m) M := Iff.rfl
@[simp] theorem truD_bl : truD (.bl a) M = some a := rfl
@[simp] theorem truD_int : truD (.int i) M = some (decide (i ≠ 0)) := rfl
@[simp] theorem truD_tup : truD (.tup ds) M = some (!ds.isEmpty) := rfl
@[simp] theorem truD_non : truD .non M = some false := rfl
@[simp] theorem keyOf_int : keyOf (.int i) = some (.inl i) := rfl
@[simp] theorem keyOf_str : keyOf (.str x) = some (.inr x) := rfl
end
@[simp] theorem kit_ii : kitB "int" "int" = some true := by decide +kernel
@[simp] theorem kit_ib : kitB "int" "bool" = some false := by decide +kernel
@[simp] theorem kit_bi : kitB "bool" "int" = some true := by decide +kernel
@[simp] theorem kit_bb : kitB "bool" "bool" = some true := by decide +kernel
@[simp] theorem kit_tt : kitB "tuple" "tuple" = some true := by decide +kernel
@[simp] theorem kit_st : kitB "str" "tuple" = some false := by decide +kernel
@[simp] theorem kit_it : kitB "int" "tuple" = some false := by decide +kernel
@[simp] theorem kit_ss : kitB "str" "str" = some true := by decide +kernel
@[simp] theorem kit_ts : kitB "tuple" "str" = some false := by decide +kernel
/-- all over a walk whose elements read alone -/
theorem allD_pure {gd : TGd} {te : TEd} {vs : List Nat} {alive : Mem → Prop} {Q : KD} {S : Sl} (p : D → Bool) : ∀ (ds : List D) (M : Mem), (∀ G, alive (M ++ G)) →
    (∀ d ∈ ds, ∀ (G : Mem) (Q' : KD), (∀ G', Q' (.bl (p d)) (M ++ G ++ G')) → gd d (wipeD S vs) (M ++ G) fun S1 M1 => te S1 M1 Q' E00) → (∀ G, Q (.bl (ds.all p)) (M ++ G)) → ∀ G, allD gd te vs alive Q S ds (M ++ G)
  | [], M, al, _, h, G => ⟨al G, by simpa using h G⟩
  | d :: ds, M, al, el, h, G => by
    refine ⟨al G, el d (by simp) G _ fun G' => ⟨p d, rfl, ?_⟩⟩
    cases hp : p d with
    | false => simpa [hp] using h (G ++ G')
    | true =>
      simp only [if_true]
      rw [List.append_assoc]
      exact allD_pure p ds M al (fun d hd => el d (List.mem_cons_of_mem _ hd)) (fun G => by simpa [hp] using h G) (G ++ G')
/-- a comprehension whose elements read alone -/
theorem lcD_pure {gd : TGd} {te : TEd} {vs : List Nat} {alive : Mem → Prop} {Q : KD} {S : Sl} (f : D → D) : ∀ (ds acc : List D) (M : Mem), (∀ G, alive (M ++ G)) →
    (∀ d ∈ ds, ∀ (G : Mem) (Q' : KD), (∀ G', Q' (f d) (M ++ G ++ G')) → gd d (wipeD S vs) (M ++ G) fun S1 M1 => te S1 M1 Q' E00) → acc.length + ds.length ≤ sizeLine → (∀ G, Q (.obj M.length) (M ++ .lst (acc ++ ds.map f) :: G)) →
    ∀ G, lcD gd dYes te vs M.length alive Q S ds (M ++ .lst acc :: G)
  | [], acc, M, al, _, _, h, G => ⟨al _, by simpa using h G⟩
  | d :: ds, acc, M, al, el, hz, h, G => by
    refine ⟨al _, ?_⟩
    simp only [dYes, if_true]
    refine el d (by simp) (.lst acc :: G) _ fun G' => ⟨acc, by simp, by simp at hz; omega, ?_⟩
    have e : (M ++ .lst acc :: G ++ G').set M.length (.lst (acc ++ [f d])) = M ++ .lst (acc ++ [f d]) :: (G ++ G') := by simp
    rw [e]
    exact lcD_pure f ds (acc ++ [f d]) M al (fun d hd => el d (List.mem_cons_of_mem _ hd)) (by simp at hz ⊢; omega) (fun G => by simpa using h G) (G ++ G')
end Dl
set_option Elab.async false
set_option linter.all false
set_option maxRecDepth 100000
set_option maxHeartbeats 4000000
/-! Further rules by data: all of a list, sorted ints, extend, augmented assignment. -/
namespace Dl
open PySem PySem.Spec PyProof.Rows L2 GxR Gn
@[simp] theorem intsOf_map : ∀ ns : List Int, intsOf (ns.map D.int) = some ns
  | [] => rfl
  | n :: ns => by
    show intsOf (D.int n :: ns.map D.int) = some (n :: ns)
    unfold intsOf
    rw [intsOf_map ns]
    rfl
theorem shs_bools {K : PySem.W.Frag} {ρ : Rho} {H : Hp} : ∀ {bs : List Bool} {vs : List V}, Shs K ρ H (bs.map D.bl) vs → vs = bs.map V.bl
  | [], _, h => by cases h; rfl
  | b :: bs, _, h => by
    cases h with
    | cons h1 h2 =>
      cases h1
      rw [shs_bools h2]
      rfl
theorem shs_ints' {K : PySem.W.Frag} {ρ : Rho} {H : Hp} : ∀ {ns : List Int} {vs : List V}, Shs K ρ H (ns.map D.int) vs → vs = ns.map V.int
  | [], _, h => by cases h; rfl
  | b :: bs, _, h => by
    cases h with
    | cons h1 h2 =>
      cases h1
      rw [shs_ints' h2]
      rfl
theorem bt_all : bootBuiltins "all" = some (.builtin "all") := by decide +kernel
theorem bt_sorted : bootBuiltins "sorted" = some (.builtin "sorted") := by decide +kernel
theorem bt_any : bootBuiltins "any" = some (.builtin "any") := by decide +kernel
section
variable {X : Cx} {Ts : List Addr} {E : XK} {pos p apos cpos : Pos} {o e : Expr} {es : List Expr} {to ta : TEd} {t : TAd}
def allLD : List D → Mem → KD → Prop
  | [.obj i], M, Q => ∃ bs : List Bool, M[i]? = some (.lst (bs.map D.bl)) ∧ Q (.bl (bs.all id)) M
  | _, _, _ => False
theorem cd_allL : CallD X Ts (rAll X.K) allLD := fun ρ M H ds vs Q Qd R s h k => by
  cases s with
  | nil => exact h.elim
  | cons s1 s2 =>
    cases s2 with
    | cons _ _ => cases s1 <;> exact h.elim
    | nil =>
      cases s1 with
      | @obj i a ea =>
        obtain ⟨bs, em, q⟩ := h
        obtain ⟨a', vs, r1, g1, t1⟩ := R.lst em
        rw [ea] at r1; cases r1
        have := shs_bools t1
        subst this
        exact ⟨_, bs, rfl, .inl (.inl g1), k.same R q (.bl _)⟩
      | _ => exact h.elim
def sortID : List D → Mem → KD → Prop
  | [.obj i], M, Q => ∃ ns : List Int, M[i]? = some (.lst (ns.map D.int)) ∧ ∀ ns' : List Int, ns'.Perm ns → ns'.Pairwise (· ≤ ·) → Q (.obj M.length) (M ++ [.lst (ns'.map D.int)])
  | _, _, _ => False
theorem cd_sortI : CallD X Ts (rSortedI X.K) sortID := fun ρ M H ds vs Q Qd R s h k => by
  cases s with
  | nil => exact h.elim
  | cons s1 s2 =>
    cases s2 with
    | cons _ _ => cases s1 <;> exact h.elim
    | nil =>
      cases s1 with
      | @obj i a ea =>
        obtain ⟨ns, em, q⟩ := h
        obtain ⟨a', vs, r1, g1, t1⟩ := R.lst em
        rw [ea] at r1; cases r1
        have := shs_ints' t1
        subst this
        exact ⟨_, ns, rfl, .inl (.inl g1), fun ns' p h1 h2 hp => newLst R (shs_ints ns') k (q ns' h1 h2) hp⟩
      | _ => exact h.elim
@[simp] def extendD (o : D) (ds : List D) (M : Mem) (Q : KD) : Prop := ∃ i j xs ys, o = .obj i ∧ ds = [.obj j] ∧ M[i]? = some (.lst xs) ∧ M[j]? = some (.lst ys) ∧ xs.length + ys.length ≤ sizeLine ∧ Q .non (M.set i (.lst (xs ++ ys)))
theorem md_extend : MtD X Ts rExtend extendD := fun ρ M H o ds v vs Q Qd R so sd ⟨i, j, xs, ys, e, e2, em, en, hz, q⟩ k => by
  subst e
  subst e2
  cases so with
  | @obj _ a ea =>
    cases sd with
    | cons s1 s2 =>
      cases s2
      cases s1 with
      | @obj _ b eb =>
        obtain ⟨a', ws, r1, g1, t1⟩ := R.lst em
        rw [ea] at r1; cases r1
        obtain ⟨b', zs, r2, g2, t2⟩ := R.lst en
        rw [eb] at r2; cases r2
        exact ⟨_, _, ws, zs, rfl, rfl, g1, g2, by rw [← t1.length, ← t2.length]; exact hz, setCell (c' := .lst (xs ++ ys)) (o := .lst (ws ++ zs)) R em ea ⟨_, rfl, t1.append t2⟩ k .non q⟩
theorem qe_extend (ho : QE X Ts E o to) (ha : QA X Ts E (e :: es) t) (hbase : attributeBase o "extend" X.env (eval o X.env) = eval o X.env := by rfl)
    (hfew : ((backTo cpos (starEach (e :: es) X.env)).all (fun x => !x.1) && (backToKw cpos (keywordEach [] X.env)).all (fun x => x.1.isSome)
      && decide ((e :: es).length + ([] : List Keyword).length + (if ([] : List Keyword).isEmpty then 0 else 1) < 30)) = true := by rfl)
    (hline : (apos.endLine == cpos.line) = true := by rfl) (hs : starEach (e :: es) X.env = (false, eval e X.env) :: starEach es X.env := by rfl) (hplain : (backTo cpos (starEach es X.env)).any (·.1) = false := by rfl) :
    QE X Ts E (.Call (.Attribute o "extend" apos) (e :: es) [] cpos) (dBM isLst extendD to t) := peLe (pe_bm PySem.F.plainAttrs_list PySem.F.slot_list_extend PySem.F.type_list_extend mt_extend ho ha hbase hfew hline hs hplain) fun σ H Q h => bmRead ty_lst md_extend h
theorem iop_addT : OpR X (inplaceOp .Add) (rI (fun _ _ => True) fun i j => .int (i + j)) := op_rI0 iop_add
theorem iop_subT : OpR X (inplaceOp .Sub) (rI (fun _ _ => True) fun i j => .int (i - j)) := op_rI0 iop_sub
/-- == and != of any data -/
def eqA (neg : Bool) (x y : D) (M : Mem) (Q : KD) : Prop := match x, y with
  | .str i, .str j => Q (.bl (if neg then !decide (i = j) else decide (i = j))) M
  | .int i, .int j => Q (.bl (if neg then !decide (i = j) else decide (i = j))) M
  | x, y => eqD neg x y M Q
def rEqA (X : Cx) : R2 := fun x y H Q => rEq x y H Q ∨ rEqD X.K x y H Q
def rNeA (X : Cx) : R2 := fun x y H Q => rNe x y H Q ∨ rNeD X.K x y H Q
theorem op_eqA {k : Nat} (hr : Room k X.A) : OpR X (compareOp .Eq) (rEqA X) := op_eq.or (op_eqD hr.units)
theorem op_neA {k : Nat} (hr : Room k X.A) : OpR X (compareOp .NotEq) (rNeA X) := op_ne.or (op_neD hr.units)
theorem od_eqA : OpD X Ts (rEqA X) (eqA false) := fun ρ M H x y v u Q Qd R sx sy h k => by
  have sx' := sx
  have sy' := sy
  cases sx <;> cases sy <;> first
    | exact .inr (od_eq ρ M H _ _ _ _ Q Qd R sx' sy' h k)
    | (refine .inl ⟨rfl, k.same R ?_ (.bl _)⟩; simpa [eqA] using h)
theorem od_neA : OpD X Ts (rNeA X) (eqA true) := fun ρ M H x y v u Q Qd R sx sy h k => by
  have sx' := sx
  have sy' := sy
  cases sx <;> cases sy <;> first
    | exact .inr (od_ne ρ M H _ _ _ _ Q Qd R sx' sy' h k)
    | (refine .inl ⟨rfl, k.same R ?_ (.bl _)⟩; simpa [eqA] using h)
section
variable {M : Mem} {Q : KD} {i j : Int} {n : Nat} {x y : Str} {neg : Bool}
@[simp] theorem eqA_int : eqA neg (.int i) (.int j) M Q ↔ Q (.bl (if neg then !decide (i = j) else decide (i = j))) M := Iff.rfl
@[simp] theorem eqA_str : eqA neg (.str x) (.str y) M Q ↔ Q (.bl (if neg then !decide (x = y) else decide (x = y))) M := Iff.rfl
@[simp] theorem eqA_tup {ds es : List D} : eqA neg (.tup ds) (.tup es) M Q ↔ eqD neg (.tup ds) (.tup es) M Q := Iff.rfl
@[simp] theorem eqA_obj {m : Nat} : eqA neg (.obj n) (.obj m) M Q ↔ eqD neg (.obj n) (.obj m) M Q := Iff.rfl
@[simp] theorem allLD_obj : allLD [.obj n] M Q ↔ ∃ bs : List Bool, M[n]? = some (.lst (bs.map D.bl)) ∧ Q (.bl (bs.all id)) M := Iff.rfl
@[simp] theorem sortID_obj : sortID [.obj n] M Q ↔ ∃ ns : List Int, M[n]? = some (.lst (ns.map D.int)) ∧ ∀ ns' : List Int, ns'.Perm ns → ns'.Pairwise (· ≤ ·) → Q (.obj M.length) (M ++ [.lst (ns'.map D.int)]) := Iff.rfl
end
end
end Dl
set_option Elab.async false
set_option linter.all false
set_option maxRecDepth 100000
set_option maxHeartbeats 4000000
/-! Loops that only read, over the pictures of a list. -/
namespace Dl
open PySem PySem.Spec PyProof.Rows L2 GxR Gn
theorem allD_of {α : Type} {gd : TGd} {te : TEd} {vs : List Nat} {alive : Mem → Prop} {Q : KD} {S : Sl} (dd : α → D) (p : α → Bool) : ∀ (as : List α) (M : Mem), (∀ G, alive (M ++ G)) →
    (∀ a ∈ as, ∀ (G : Mem) (Q' : KD), (∀ G', Q' (.bl (p a)) (M ++ G ++ G')) → gd (dd a) (wipeD S vs) (M ++ G) fun S1 M1 => te S1 M1 Q' E00) → (∀ G, Q (.bl (as.all p)) (M ++ G)) → ∀ G, allD gd te vs alive Q S (as.map dd) (M ++ G)
  | [], M, al, _, h, G => ⟨al G, by simpa using h G⟩
  | a :: as, M, al, el, h, G => by
    refine ⟨al G, el a (by simp) G _ fun G' => ⟨p a, rfl, ?_⟩⟩
    cases hp : p a with
    | false => simpa [hp] using h (G ++ G')
    | true =>
      simp only [if_true]
      rw [List.append_assoc]
      exact allD_of dd p as M al (fun a ha => el a (List.mem_cons_of_mem _ ha)) (fun G => by simpa [hp] using h G) (G ++ G')
theorem lcD_go {α : Type} {gd : TGd} {te : TEd} {vs : List Nat} {alive : Mem → Prop} {Q : KD} {S : Sl} (dd f : α → D) : ∀ (as : List α) (acc : List D) (M : Mem), (∀ G, alive (M ++ G)) →
    (∀ a ∈ as, ∀ (G : Mem) (Q' : KD), (∀ G', Q' (f a) (M ++ G ++ G')) → gd (dd a) (wipeD S vs) (M ++ G) fun S1 M1 => te S1 M1 Q' E00) → acc.length + as.length ≤ sizeLine → (∀ G, Q (.obj M.length) (M ++ .lst (acc ++ as.map f) :: G)) →
    ∀ G, lcD gd dYes te vs M.length alive Q S (as.map dd) (M ++ .lst acc :: G)
  | [], acc, M, al, _, _, h, G => ⟨al _, by simpa using h G⟩
  | a :: as, acc, M, al, el, hz, h, G => by
    refine ⟨al _, ?_⟩
    simp only [dYes, if_true]
    refine el a (by simp) (.lst acc :: G) _ fun G' => ⟨acc, by simp, by simp at hz; omega, ?_⟩
    have e : (M ++ .lst acc :: G ++ G').set M.length (.lst (acc ++ [f a])) = M ++ .lst (acc ++ [f a]) :: (G ++ G') := by simp
    rw [e]
    exact lcD_go dd f as (acc ++ [f a]) M al (fun a ha => el a (List.mem_cons_of_mem _ ha)) (by simp at hz ⊢; omega) (fun G => by simpa using h G) (G ++ G')
/-- a whole comprehension that only reads -/
theorem lcD_of {α : Type} {gd : TGd} {te : TEd} {vs : List Nat} {alive : Mem → Prop} {Q : KD} {S : Sl} (dd f : α → D) (as : List α) (M : Mem) (al : ∀ G, alive (M ++ G))
    (el : ∀ a ∈ as, ∀ (G : Mem) (Q' : KD), (∀ G', Q' (f a) (M ++ G ++ G')) → gd (dd a) (wipeD S vs) (M ++ G) fun S1 M1 => te S1 M1 Q' E00) (hz : as.length ≤ sizeLine) (h : ∀ G, Q (.obj M.length) (M ++ .lst (as.map f) :: G)) :
    lcD gd dYes te vs M.length alive Q S (as.map dd) (M ++ [.lst []]) := lcD_go dd f as [] M al el (by simpa using hz) (by simpa using h) []
theorem at_end {M G : Mem} {c : Cell} : (M ++ c :: G)[M.length]? = some c := by simp
theorem zipD_map {xs ys : List Int} : zipD (xs.map D.int) (ys.map D.int) = (xs.zip ys).map fun p => D.tup [.int p.1, .int p.2] := by
  unfold zipD
  induction xs generalizing ys with
  | nil => rfl
  | cons x xs ih => cases ys with
    | nil => rfl
    | cons y ys => simp [ih]
def vI (ns : List Int) : D := .tup (ns.map D.int)
def mI (rows : List (List Int)) : D := .tup (rows.map vI)
def Bd (B : Int) (ns : List Int) : Prop := ∀ n ∈ ns, -B ≤ n ∧ n ≤ B
def dotI (xs ys : List Int) : Int := ((xs.zip ys).map fun p => p.1 * p.2).sum
theorem cmul_of {i j B C : Int} (h1 : -B ≤ i ∧ i ≤ B) (h2 : -C ≤ j ∧ j ≤ C) (hB : B ≤ 2 ^ 40 := by decide) (hC : C ≤ 2 ^ 40 := by decide) : CMulW i j := by
  refine wide_mul (a := 41) (b := 41) ?_ ?_ (by decide) (by decide) (by decide)
  · have : (2 : Int) ^ 40 = 1099511627776 := by decide
    have : (2 : Nat) ^ 41 = 2199023255552 := by decide
    omega
  · have : (2 : Int) ^ 40 = 1099511627776 := by decide
    have : (2 : Nat) ^ 41 = 2199023255552 := by decide
    omega
end Dl
set_option Elab.async false
set_option linter.all false
set_option maxRecDepth 100000
set_option maxHeartbeats 4000000
/-! Equality of data. -/
namespace Dl
open PySem PySem.Spec PyProof.Rows L2 GxR Gn
/-- the datum is p whatever the memory -/
def Pu (d : D) (p : PyData) : Prop := ∀ M n, pyM M n d = some p
theorem Pu.non : Pu .non .none := fun M n => by rw [pyM]
theorem Pu.bl (b : Bool) : Pu (.bl b) (.bool b) := fun M n => by rw [pyM]
theorem Pu.int (i : Int) : Pu (.int i) (.int i) := fun M n => by rw [pyM]
theorem Pu.str (x : Str) : Pu (.str x) (.str x) := fun M n => by rw [pyM]
def Pus (ds : List D) (ps : List PyData) : Prop := ∀ M n, pyMs M n ds = some ps
theorem Pus.nil : Pus [] [] := fun M n => by rw [pyMs]
theorem Pus.cons {d : D} {p : PyData} {ds : List D} {ps : List PyData} (h : Pu d p) (hs : Pus ds ps) : Pus (d :: ds) (p :: ps) := fun M n => by rw [pyMs, h M n, hs M n]
theorem Pu.tup {ds : List D} {ps : List PyData} (h : Pus ds ps) : Pu (.tup ds) (.tuple ps) := fun M n => by rw [pyM, h M n]; rfl
theorem Pus.map {α : Type} {f : α → D} {g : α → PyData} : ∀ {as : List α}, (∀ a ∈ as, Pu (f a) (g a)) → Pus (as.map f) (as.map g)
  | [], _ => Pus.nil
  | a :: as, h => Pus.cons (h a (by simp)) (Pus.map fun b hb => h b (List.mem_cons_of_mem _ hb))
theorem Pu.vI (ns : List Int) : Pu (vI ns) (.tuple (ns.map .int)) := Pu.tup (Pus.map fun a _ => Pu.int a)
theorem eqD_of {neg : Bool} {x y : D} {p q : PyData} {M : Mem} {Q : KD} (h1 : Pu x p) (h2 : Pu y q) (s1 : SeqAt.shaped p = true) (s2 : SeqAt.shaped q = true) (h : Q (.bl (if neg then !PyData.eqv p q else PyData.eqv p q)) M) : eqD neg x y M Q :=
  ⟨0, p, q, h1 M 0, h2 M 0, s1, s2, h⟩
/-- data that may be compared -/
structure Pn (k : Nat) (p : PyData) : Prop where
  lay : p.canLay0 = true
  dep : p.depth ≤ k
theorem Pn.int (k : Nat) (i : Int) : Pn k (.int i) := ⟨by rw [PyData.canLay0], by rw [PyData.depth]; omega⟩
theorem Pn.bl (k : Nat) (i : Bool) : Pn k (.bool i) := ⟨by rw [PyData.canLay0], by rw [PyData.depth]; omega⟩
theorem pn_all {k : Nat} : ∀ ps : List PyData, (∀ p ∈ ps, Pn k p) → PyData.canLayAll0 ps = true ∧ PyData.depthAll ps ≤ k
  | [], _ => ⟨by rw [PyData.canLayAll0], by rw [PyData.depthAll]; omega⟩
  | p :: ps, h => by
    obtain ⟨a, b⟩ := pn_all ps fun q hq => h q (List.mem_cons_of_mem _ hq)
    have q := h p List.mem_cons_self
    exact ⟨by rw [PyData.canLayAll0, q.lay, a]; rfl, by rw [PyData.depthAll]; exact Nat.max_le.mpr ⟨q.dep, b⟩⟩
theorem Pn.tup {k : Nat} {ps : List PyData} (h : ∀ p ∈ ps, Pn k p) : Pn (k + 1) (.tuple ps) := by
  obtain ⟨a, b⟩ := pn_all ps h
  exact ⟨by rw [PyData.canLay0]; exact a, by rw [PyData.depth]; omega⟩
theorem Pn.sh {k : Nat} {p : PyData} (h : Pn k p) (hk : k ≤ 64) : SeqAt.shaped p = true := by
  unfold SeqAt.shaped
  rw [h.lay, decide_eq_true (Nat.le_trans h.dep hk)]
  rfl
def pI (ns : List Int) : PyData := .tuple (ns.map .int)
def pM (rows : List (List Int)) : PyData := .tuple (rows.map pI)
theorem Pn.pI (ns : List Int) : Pn 1 (pI ns) := Pn.tup fun p hp => by
  obtain ⟨n, _, rfl⟩ := List.mem_map.mp hp
  exact Pn.int 0 n
theorem Pn.pM (rows : List (List Int)) : Pn 2 (pM rows) := Pn.tup fun p hp => by
  obtain ⟨n, _, rfl⟩ := List.mem_map.mp hp
  exact Pn.pI n
theorem Pu.mI (rows : List (List Int)) : Pu (mI rows) (pM rows) := Pu.tup (Pus.map fun a _ => Pu.vI a)
/-- is it the empty tuple? -/
theorem eqD_empty {neg : Bool} {ds : List D} {ps : List PyData} {k : Nat} {M : Mem} {Q : KD} (h1 : Pus ds ps) (h2 : Pn k (.tuple ps)) (hk : k ≤ 64) (h : Q (.bl (if neg then !ds.isEmpty else ds.isEmpty)) M) : eqD neg (.tup ds) (.tup []) M Q := by
  refine eqD_of (Pu.tup h1) (Pu.tup Pus.nil) (h2.sh hk) ((Pn.tup (k := 0) (ps := []) (by simp)).sh (by decide)) ?_
  have e : PyData.eqv (.tuple ps) (.tuple []) = ds.isEmpty := by
    rw [PyData.eqv]
    have l := h1 [] 0
    cases ds with
    | nil =>
      rw [pyMs] at l; cases l
      rw [PyData.eqvAll]; rfl
    | cons d ds =>
      cases ps with
      | nil =>
        rw [pyMs] at l
        cases e1 : pyM [] 0 d <;> cases e2 : pyMs [] 0 ds <;> rw [e1, e2] at l <;> cases l
      | cons p ps => rw [PyData.eqvAll]; rfl
  rw [e]
  exact h
theorem pyMs_ints (M : Mem) (n : Nat) : ∀ ns : List Int, pyMs M n (ns.map D.int) = some (ns.map .int) := fun ns => (Pus.map fun a _ => Pu.int a) M n
/-- a list of ints and the empty list -/
theorem eqD_lst0 {neg : Bool} {a b : Nat} {ns : List Int} {M : Mem} {Q : KD} (ha : M[a]? = some (.lst (ns.map D.int))) (hb : M[b]? = some (.lst [])) (h : Q (.bl (if neg then !ns.isEmpty else ns.isEmpty)) M) : eqD neg (.obj a) (.obj b) M Q := by
  have s : ∀ ps : List PyData, (∀ p ∈ ps, Pn 0 p) → SeqAt.shaped (.list ps) = true := fun ps h => by
    obtain ⟨x, y⟩ := pn_all ps h
    unfold SeqAt.shaped
    rw [PyData.canLay0, PyData.depth, x, decide_eq_true (by omega)]
    rfl
  refine ⟨1, .list (ns.map .int), .list [], ?_, ?_, s _ fun p hp => ?_, s [] (by simp), ?_⟩
  · rw [pyM, ha]
    show (pyMs M 0 (ns.map D.int)).map PyData.list = _
    rw [pyMs_ints]
    rfl
  · rw [pyM, hb]
    show (pyMs M 0 []).map PyData.list = _
    rw [pyMs]
    rfl
  · obtain ⟨n, _, rfl⟩ := List.mem_map.mp hp
    exact Pn.int 0 n
  · have e : PyData.eqv (.list (ns.map .int)) (.list []) = ns.isEmpty := by
      rw [PyData.eqv]
      cases ns with
      | nil => rw [List.map_nil, PyData.eqvAll]; rfl
      | cons n ns => rw [List.map_cons, PyData.eqvAll]; rfl
    rw [e]
    exact h
end Dl
set_option Elab.async false
set_option linter.all false
set_option maxRecDepth 100000
set_option maxHeartbeats 4000000
/-! tuple * int with a factor of one, or none. -/
namespace Dl
open PySem PySem.Spec PyProof.Rows L2 GxR Gn
theorem tuple_mul1 (l : Addr) (items : Array Value) (n : Nat) (sl : Array (Option Value)) (dd : Option Addr) (x : Int) (u : Tok) (c0 : (decide (x < -(2 ^ 63)) || decide (x ≥ 2 ^ 63)) = false) (c1 : (items.isEmpty || x == 1) = true) :
    Meets (Builtin.«tuple.__mul__» ⟨[.ref l, .int x u], []⟩) (fun _ R s => s.heap.get? l = some { cls := .type "tuple", dict := dd, data := .seq items n, slots := sl } ∧
      R (.ok (.ret (Value.ref l))) s) :=
  .of_wp fun prog w A R s h => by
    obtain ⟨hp, g, d, tk, os⟩ := s
    obtain ⟨hl, h⟩ := h
    have f1 := AutoSeq1.idx_int
    wp_walk using wpAny_loadPart' hl
    refine wpAny_ite_false (decide_eq_false (by rw [c0]; exact Bool.false_ne_true)) ?_
    wp_walk using wpAny_loadPart' hl
    exact ⟨_, rfl, h⟩
theorem tuple_mul0 (l : Addr) (items : Array Value) (n : Nat) (sl : Array (Option Value)) (dd : Option Addr) (x : Int) (u : Tok) (c0 : (decide (x < -(2 ^ 63)) || decide (x ≥ 2 ^ 63)) = false) (c1 : (items.isEmpty || x == 1) = false) (c2 : (decide (x ≤ 0) || items.isEmpty) = true) :
    Meets (Builtin.«tuple.__mul__» ⟨[.ref l, .int x u], []⟩) (fun _ R s => s.heap.get? l = some { cls := .type "tuple", dict := dd, data := .seq items n, slots := sl } ∧
      R (.ok (.ret (Value.ref s.heap.objs.size))) { s with heap := s.heap.push { cls := Value.type "tuple", data := Data.seq #[] }, toks := s.toks }) :=
  .of_wp fun prog w A R s h => by
    obtain ⟨hp, g, d, tk, os⟩ := s
    obtain ⟨hl, h⟩ := h
    have f1 := AutoSeq1.idx_int
    wp_walk using wpAny_loadPart' hl
    refine wpAny_ite_false (decide_eq_false (by rw [c0]; exact Bool.false_ne_true)) ?_
    wp_walk using wpAny_loadPart' hl
    repeat (first
      | (refine wpAny_ite_false (decide_eq_false (by rw [c1]; exact Bool.false_ne_true)) ?_; wp_walk using wpAny_loadPart' hl)
      | (refine wpAny_ite_true (decide_eq_true c2) ?_; wp_walk using wpAny_loadPart' hl))
    exact ⟨_, rfl, h⟩
def rRep1 (K : PySem.W.Frag) : R2 := fun x y H Q => ∃ l k xs, x = .ref l ∧ y = .int k ∧ SqT K H l xs ∧ ((k = 1 ∧ Q (.ref l) H) ∨ (xs ≠ [] ∧ k ≤ 0 ∧ -1000 ≤ k ∧ ∀ p, H p = none → Q (.ref p) (upd H p (.tup []))))
theorem op_rep1 {X : Cx} : OpR X (binaryOp .Mult) (rRep1 X.K) := by
  intro pins s σ H x y v u Q I rx ry h
  obtain ⟨l, k, xs, rfl, rfl, hT, q⟩ := h
  cases rx
  obtain ⟨t, rfl⟩ := ry
  obtain ⟨its, r, ⟨⟨cls, dd, data, sl⟩, ho, hc, n, hd⟩, hs⟩ := I.tuple hT
  simp only at hc hd
  subst hc hd
  rcases q with ⟨rfl, q⟩ | ⟨hne, h1, h2, q⟩
  · have c1 : (its.toArray.isEmpty || (1 : Int) == 1) = true := by simp
    exact wpAny_binaryOp_repeat_ref (T := "tuple") (U := "int") (by decide) ⟨_, ho, rfl⟩ (fun s' => typeIs_int s' 1 t) noFill_tuple_mul F.fills_int_mul F.slot_int_rmul repeat_tuple F.slot_int_index.lookup
      (call_meets F.slot_int_rmul (typeIs_int s 1 t) F.entry_int_rmul (F.args_int_rmul_2 _ _) (int_rmul_tuple 1 t l its.toArray n dd sl)
        ⟨ho, rfl, ⟨_, ho, rfl⟩, call_meets F.slot_tuple_mul ⟨_, ho, rfl⟩ F.entry_tuple_mul (F.args_tuple_mul_2 _ _) (tuple_mul1 l its.toArray n sl dd 1 t (by decide) c1) ⟨ho, ⟨.ref l, H, I, rfl, q⟩⟩⟩)
  · have hle : its.length = xs.length := r.length.symm
    have hn : its ≠ [] := fun e => hne (by
      rw [e] at hle
      exact List.eq_nil_of_length_eq_zero hle.symm)
    have hi : its.toArray.isEmpty = false := by
      cases its with
      | nil => exact absurd rfl hn
      | cons a b => rfl
    have c0 : (decide (k < -(2 ^ 63)) || decide (k ≥ 2 ^ 63)) = false := by
      rw [decide_eq_false (by omega), decide_eq_false (by omega)] <;> rfl
    have c1 : (its.toArray.isEmpty || k == 1) = false := by
      rw [hi, Bool.false_or]
      exact beq_eq_false_iff_ne.mpr (by omega)
    have c2 : (decide (k ≤ 0) || its.toArray.isEmpty) = true := by rw [decide_eq_true h1]; rfl
    refine wpAny_binaryOp_repeat_ref (T := "tuple") (U := "int") (by decide) ⟨_, ho, rfl⟩ (fun s' => typeIs_int s' k t) noFill_tuple_mul F.fills_int_mul F.slot_int_rmul repeat_tuple F.slot_int_index.lookup
      (call_meets F.slot_int_rmul (typeIs_int s k t) F.entry_int_rmul (F.args_int_rmul_2 _ _) (int_rmul_tuple k t l its.toArray n dd sl)
        ⟨ho, rfl, ⟨_, ho, rfl⟩, call_meets F.slot_tuple_mul ⟨_, ho, rfl⟩ F.entry_tuple_mul (F.args_tuple_mul_2 _ _) (tuple_mul0 l its.toArray n sl dd k t c0 c1 c2) ⟨ho, ?_⟩⟩)
    refine ⟨.ref s.heap.objs.size, _, I.laid (t' := s.toks) (o := .tup []) (fun b ob q => Heap.get?_push_of_some _ q) (Nat.le_refl _) ?_, rfl, q _ (I.hok.fresh (Nat.le_refl _))⟩
    exact ⟨by simp, [], .nil, IsTup.new _ _⟩
/-- times, of anything that the laws multiply -/
def mulA (x y : D) (M : Mem) (Q : KD) : Prop := match x, y with
  | .tup ds, .int k => (k = 1 ∧ Q (.tup ds) M) ∨ (ds ≠ [] ∧ k ≤ 0 ∧ -1000 ≤ k ∧ Q (.tup []) M) ∨ mulD (.tup ds) (.int k) M Q
  | x, y => mulD x y M Q
@[simp] theorem mulA_int {i j : Int} {M : Mem} {Q : KD} : mulA (.int i) (.int j) M Q ↔ CMulW i j ∧ Q (.int (i * j)) M := Iff.rfl
theorem mulA_tup {ds : List D} {k : Int} {M : Mem} {Q : KD} (h0 : ds ≠ []) (h1 : -1000 ≤ k) (h2 : k ≤ 1000) (h3 : ds.length ≤ 1000) (h : Q (.tup (List.replicate k.toNat ds).flatten) M) : mulA (.tup ds) (.int k) M Q := by
  by_cases e1 : k = 1
  · subst e1
    refine .inl ⟨rfl, ?_⟩
    simpa using h
  · by_cases e2 : k ≤ 0
    · refine .inr (.inl ⟨h0, e2, h1, ?_⟩)
      have : k.toNat = 0 := by omega
      rw [this] at h
      simpa using h
    · exact .inr (.inr ⟨h0, by omega, h2, h3, h⟩)
section
variable {X : Cx} {Ts : List Addr} {E : XK} {pos : Pos} {a b : Expr} {ta tb : TEd}
def rMulA (X : Cx) : R2 := fun x y H Q => rMulH X.K x y H Q ∨ rRep1 X.K x y H Q
theorem op_mulA : OpR X (binaryOp .Mult) (rMulA X) := op_mulH.or op_rep1
theorem od_mulA : OpD X Ts (rMulA X) mulA := fun ρ M H x y v u Q Qd R sx sy h k => by
  have sx' := sx
  have sy' := sy
  cases sx <;> cases sy <;> first
    | exact .inl (od_mul ρ M H _ _ _ _ Q Qd R sx' sy' h k)
    | skip
  rename_i a xs ds ha hs j
  rcases h with ⟨e, q⟩ | ⟨h0, h1, h2, q⟩ | h
  · exact .inr ⟨a, j, xs, rfl, rfl, ha, .inl ⟨e, k.same R q sx'⟩⟩
  · exact .inr ⟨a, j, xs, rfl, rfl, ha, .inr ⟨fun e => h0 ((shs_nil hs).mp e), h1, h2, fun p hp => newTup R .nil k q hp⟩⟩
  · exact .inl (od_mul ρ M H _ _ _ _ Q Qd R sx' sy' h k)
theorem qe_mulA (ha : QE X Ts E a ta) (hb : QE X Ts E b tb) : QE X Ts E (.BinOp a .Mult b pos) (dOp mulA ta tb) := qe_op op_mulA od_mulA ha hb
end
end Dl
set_option Elab.async false
set_option linter.all false
set_option maxRecDepth 100000
set_option maxHeartbeats 4000000
/-! repr of data of numbers: how long its text is. -/
namespace Dl
open PySem PySem.Spec PyProof.Rows L2 GxR Gn
/-- data whose text is short -/
structure Sz (n d : Nat) (p : PyData) : Prop where
  sh : PyData.showable p = true
  nd : p.hasDict = false
  dp : p.depth ≤ d
  ln : p.shown.length ≤ n
theorem Sz.mono {n n' d d' : Nat} {p : PyData} (h : Sz n d p) (hn : n ≤ n') (hd : d ≤ d') : Sz n' d' p := ⟨h.sh, h.nd, Nat.le_trans h.dp hd, Nat.le_trans h.ln hn⟩
theorem str_app_len (a b : Str) : (a ++ b).length = a.length + b.length := by
  show (a.cps ++ b.cps).size = _
  rw [Array.size_append]
  rfl
theorem join_le {k : Nat} : ∀ ts : List Str, (∀ t ∈ ts, t.length ≤ k) → (Str.join ", " ts).length ≤ ts.length * (k + 2)
  | [], _ => Nat.zero_le _
  | [x], h => by
    have := h x List.mem_cons_self
    show x.length ≤ 1 * (k + 2)
    omega
  | x :: y :: r, h => by
    have h1 := h x List.mem_cons_self
    have h2 := join_le (y :: r) fun t ht => h t (List.mem_cons_of_mem _ ht)
    show (x ++ ", " ++ Str.join ", " (y :: r)).length ≤ (r.length + 1 + 1) * (k + 2)
    rw [str_app_len, str_app_len]
    have e : ((", " : Str)).length = 2 := rfl
    rw [e, Nat.succ_mul]
    have h3 : (Str.join ", " (y :: r)).length ≤ (r.length + 1) * (k + 2) := h2
    omega
theorem sz_all {k d : Nat} : ∀ ps : List PyData, (∀ p ∈ ps, Sz k d p) → PyData.showableAll ps = true ∧ PyData.hasDictAll ps = false ∧ PyData.depthAll ps ≤ d ∧ (PyData.shownAll ps).length = ps.length ∧ ∀ t ∈ PyData.shownAll ps, t.length ≤ k
  | [], _ => ⟨by simp [PyData.showableAll], by simp [PyData.hasDictAll], by simp [PyData.depthAll], by simp [PyData.shownAll], by simp [PyData.shownAll]⟩
  | p :: r, h => by
    obtain ⟨a, b, c, e, f⟩ := sz_all r fun x hx => h x (List.mem_cons_of_mem _ hx)
    have q := h p List.mem_cons_self
    rw [PyData.showableAll, PyData.hasDictAll, PyData.depthAll, PyData.shownAll, q.sh, q.nd, a, b]
    refine ⟨rfl, rfl, Nat.max_le.mpr ⟨q.dp, c⟩, by rw [List.length_cons, List.length_cons, e], fun t ht => ?_⟩
    rcases List.mem_cons.mp ht with rfl | ht
    · exact q.ln
    · exact f t ht
theorem Sz.tup {k d m : Nat} {ps : List PyData} (h : ∀ p ∈ ps, Sz k d p) (hm : ps.length ≤ m) : Sz (m * (k + 2) + 3) (d + 1) (.tuple ps) := by
  obtain ⟨a, b, c, e, f⟩ := sz_all ps h
  refine ⟨by rw [PyData.showable]; exact a, by rw [PyData.hasDict]; exact b, by rw [PyData.depth]; omega, ?_⟩
  rw [PyData.shown]
  unfold tupleText
  rw [str_app_len, str_app_len]
  have h1 := join_le _ f
  rw [e] at h1
  have h2 : ((if (PyData.shownAll ps).length == 1 then ",)" else ")" : String) : Str).length ≤ 2 := by split <;> decide
  have h3 : ((("(" : Str))).length = 1 := rfl
  have h4 : ps.length * (k + 2) ≤ m * (k + 2) := Nat.mul_le_mul_right _ hm
  omega
theorem Sz.int {i : Int} (h : i.natAbs < 100000000) : Sz 10 0 (.int i) := by
  refine ⟨?_, rfl, by rw [PyData.depth]; decide, ?_⟩
  · rw [PyData.showable]
    refine decide_eq_true ?_
    show (Int.natAbs i).log2 < 1920
    by_cases h0 : i.natAbs = 0
    · rw [h0]; decide
    · exact (Nat.log2_lt h0).mpr (Nat.lt_trans h (by decide))
  · rw [PyData.shown]
    have := int_text_length_le10 (a := i) (k := 8) (by decide) h
    show (Str.ofString (toString i)).length ≤ 10
    rw [PySem.ofString_length]
    omega
theorem Sz.pI {ns : List Int} {m : Nat} (h : ∀ n ∈ ns, n.natAbs < 100000000) (hm : ns.length ≤ m) : Sz (m * 12 + 3) 1 (pI ns) :=
  Sz.tup (k := 10) (d := 0) (fun p hp => by
    obtain ⟨n, hn, rfl⟩ := List.mem_map.mp hp
    exact Sz.int (h n hn)) (by rw [List.length_map]; exact hm)
/-- repr of a tuple -/
theorem repr_tup {n d : Nat} {ds : List D} {p : PyData} {M : Mem} {Q : KD} (hp : Pu (.tup ds) p) (hs : Sz n d p) (hn : n ≤ 1000) (hd : d ≤ 60) (q : Q (.str p.shown) M) : reprD [.tup ds] M Q :=
  ⟨0, p, hp M 0, hs.sh, hs.nd, Nat.le_trans hs.dp hd, small_le (Nat.le_trans hs.ln hn), trivial, q⟩
/-- repr of a longer one -/
theorem repr_tupL {n d : Nat} {ds : List D} {p : PyData} {M : Mem} {Q : KD} (hp : Pu (.tup ds) p) (hs : Sz n d p) (hn : n ≤ sizeLine) (hd : d ≤ 60) (q : Q (.str p.shown) M) : reprD [.tup ds] M Q :=
  ⟨0, p, hp M 0, hs.sh, hs.nd, Nat.le_trans hs.dp hd, Nat.le_trans hs.ln hn, trivial, q⟩
end Dl
set_option Elab.async false
set_option linter.all false
set_option maxRecDepth 100000
set_option maxHeartbeats 4000000
/-! zip(*xs) of many tuples into a name: the zip's own tuple may be held by that name, so it stands in either state. -/
namespace Zn
open PySem PySem.Spec PyProof.Rows L2 GxR
/-- so many cells, one after the other -/
def refs (b n : Nat) : List Value := (List.range' b n).map Value.ref
theorem refs_succ (b m : Nat) : refs b (m + 1) = Value.ref b :: refs (b + 1) m := rfl
theorem refs_length (b n : Nat) : (refs b n).length = n := by unfold refs; simp
/-- a zip of many tuples ahead of its turn i: the iterators stand at b, b + 1, .., behind them their tuple, the own tuple, the zip -/
structure ZMany (h : Heap) (b : Nat) (as : List Addr) (i : Nat) : Prop where
  lt : ∀ a ∈ as, a < b
  z : ZipAny h (b + as.length + 2) (b + as.length) (b + as.length + 1)
  ti : h.get? (b + as.length) = some { cls := .type "tuple", data := .seq (refs b as.length).toArray }
  own : ∃ old : Array Value, old.size = as.length ∧ h.get? (b + as.length + 1) = some { cls := .type "tuple", data := .seq old }
  it : ∀ (k : Nat) (a : Addr), as[k]? = some a → h.IsTupleIter (b + k) a i
/-- amid a turn: the iterators below ki have turned, the own tuple is filled below ka -/
structure ZMid (hp h' : Heap) (b : Nat) (as : List Addr) (us : List Value) (i ki ka : Nat) (zo : Obj) : Prop where
  sz : h'.objs.size = hp.objs.size
  it : ∀ (j : Nat) (a : Addr), as[j]? = some a → h'.IsTupleIter (b + j) a (if j < ki then i + 1 else i)
  zO : h'.get? (b + as.length + 2) = some zo
  ti : h'.get? (b + as.length) = some { cls := .type "tuple", data := .seq (refs b as.length).toArray }
  own : ∃ arr : Array Value, arr.size = as.length ∧ h'.get? (b + as.length + 1) = some { cls := .type "tuple", data := .seq arr } ∧ ∀ j, j < ka → arr[j]? = us[j]?
  kp : ∀ c o, (c < b ∨ b + as.length + 2 < c) → hp.get? c = some o → h'.get? c = some o
theorem ZMid.turn {hp h1 h2 : Heap} {b : Nat} {as : List Addr} {us : List Value} {i k ka : Nat} {zo : Obj} {a : Addr} (m : ZMid hp h1 b as us i k ka zo) (ha : as[k]? = some a) (h : h2.IsTupleIter (b + k) a (i + 1)) (sb : Heap.SameBut (b + k) h1 h2) : ZMid hp h2 b as us i (k + 1) ka zo := by
  have hk : k < as.length := (List.getElem?_eq_some_iff.mp ha).1
  have up : ∀ c o, c ≠ b + k → h1.get? c = some o → h2.get? c = some o := fun c o hc e => sb.extBut c o hc e
  refine ⟨by rw [sb.1, m.sz], fun j a' hj => ?_, up _ _ (by omega) m.zO, up _ _ (by omega) m.ti, ?_, fun c o hc e => up c o (by omega) (m.kp c o hc e)⟩
  · by_cases e : j = k
    · subst e
      rw [ha] at hj
      cases hj
      rw [if_pos (Nat.lt_succ_self _)]
      exact h
    · have ne : b + j ≠ b + k := fun q => e (Nat.add_left_cancel q)
      have := (m.it j a' hj).at fun o q => up (b + j) o ne q
      have e2 : (if j < k + 1 then i + 1 else i) = (if j < k then i + 1 else i) := by
        by_cases h1 : j < k
        · rw [if_pos h1, if_pos (show j < k + 1 by omega)]
        · rw [if_neg h1, if_neg (show ¬ j < k + 1 by omega)]
      rw [e2]
      exact this
  · obtain ⟨arr, h1', h2', h3'⟩ := m.own
    exact ⟨arr, h1', up _ _ (by omega) h2', h3'⟩
theorem ZMid.fill {hp h1 h2 : Heap} {b : Nat} {as : List Addr} {us : List Value} {i ki k : Nat} {zo : Obj} {arr : Array Value} {u : Value} (m : ZMid hp h1 b as us i ki k zo) (hk : k < as.length) (hu : us[k]? = some u) (hs : arr.size = as.length) (ho : ∀ j, j < k → arr[j]? = us[j]?)
    (h : h2.get? (b + as.length + 1) = some { cls := .type "tuple", data := .seq (arr.setIfInBounds k u) }) (sb : Heap.SameBut (b + as.length + 1) h1 h2) : ZMid hp h2 b as us i ki (k + 1) zo := by
  have up : ∀ c o, c ≠ b + as.length + 1 → h1.get? c = some o → h2.get? c = some o := fun c o hc e => sb.extBut c o hc e
  refine ⟨by rw [sb.1, m.sz], fun j a' hj => (m.it j a' hj).at fun o q => up (b + j) o (by have := (List.getElem?_eq_some_iff.mp hj).1; omega) q, up _ _ (by omega) m.zO, up _ _ (by omega) m.ti, ⟨_, ?_, h, fun j hj => ?_⟩, fun c o hc e => up c o (by omega) (m.kp c o hc e)⟩
  · simpa using hs
  · by_cases e : j = k
    · subst e
      rw [hu]
      simp [hs, hk]
    · rw [Array.getElem?_setIfInBounds_ne (by omega)]
      exact ho j (by omega)
section
variable {prog : Program} {w : World} {A : Around} {E : Value → Shared → Prop} {s : Shared} {b i : Nat} {as : List Addr} {us : List Value}
theorem ZMid.tuple {hp h1 : Heap} {ki ka : Nat} {zo : Obj} {a : Addr} {its : Array Value} (m : ZMid hp h1 b as us i ki ka zo) (hlt : a < b) (h : hp.IsTuple a its) : h1.IsTuple a its := h.at fun o e => m.kp a o (.inl hlt) e
theorem updSeq_tup {T : Addr} {arr : Array Value} {x : Value} {k : Nat} {Q : Unit → Shared → Prop} (hT : s.heap.get? T = some { cls := .type "tuple", data := .seq arr }) (hsz : arr.size ≤ sizeLine)
    (h : ∀ h', h'.get? T = some { cls := .type "tuple", data := .seq (arr.setIfInBounds k x) } → Heap.SameBut T s.heap h' → Q () { s with heap := h' }) : wpAny (model prog w) A (updateSeq T (·.setIfInBounds k x)) Q E s := by
  refine wpAny_updateSeq hT rfl (h _ ?_ (Heap.SameBut.update ..)) hsz (by rw [Array.size_setIfInBounds]; omega)
  rw [Heap.get?_update_self _ hT rfl]
  simp [Obj.mapSeq]
theorem zipN_item {Q : Value → Shared → Prop} (Z : ZMany s.heap b as i) (hu : us.length = as.length) (hsm : as.length ≤ sizeLine) (hne : as ≠ []) (hk : ∀ (k : Nat) (a : Addr) (u : Value), as[k]? = some a → us[k]? = some u → ∃ its : Array Value, s.heap.IsTuple a its ∧ its[i]? = some u)
    (hQ : ∀ h' tk, ZMany h' b as (i + 1) → h'.get? s.heap.objs.size = some { cls := .type "tuple", data := .seq us.toArray } → h'.objs.size = s.heap.objs.size + 1 → (∀ c o, (c < b ∨ b + as.length + 2 < c) → s.heap.get? c = some o → h'.get? c = some o) → Q (.ref s.heap.objs.size) { s with heap := h', toks := tk }) :
    wpAny (model prog w) A (Builtin.«zip.__next__» ⟨[.ref (b + as.length + 2)], []⟩) (fun fin s' => ∃ v, fin = .done (.ret v) ∧ Q v s') E s := by
  obtain ⟨hp, g, d, tk0, os⟩ := s
  obtain ⟨own, fl, hz, ho⟩ := Z.z
  have hlt0 : b + as.length + 2 < hp.objs.size := Heap.lt_size hz
  show wpAny _ _ (field (.ref (b + as.length + 2)) 2 >>= _) _ _ _
  refine wpAny_bind (wpAny_field hz rfl (x := .bool false) rfl ?_)
  show wpAny _ _ (field (.ref (b + as.length + 2)) 3 >>= _) _ _ _
  refine wpAny_bind (wpAny_field hz rfl (x := .ref (b + as.length)) rfl (wpAny_bind (wpAny_seqItems Z.ti rfl ?_)))
  have hemp : (refs b as.length).toArray.isEmpty = false := by
    cases as with
    | nil => exact absurd rfl hne
    | cons a r => simp [refs, List.range'_succ]
  simp only [hemp, Bool.false_eq_true, if_false]
  refine wpAny_bind (own_free hz ho fun bb fl' f0 hzf sf => ?_)
  replace sf : Heap.SameBut (b + as.length + 2) hp f0 := sf
  have up0 : ∀ c o, c ≠ b + as.length + 2 → hp.get? c = some o → f0.get? c = some o := fun c o hc e => sf.extBut c o hc e
  cases bb with
  | true =>
    simp only [if_true]
    refine wpAny_bind (wpAny_rule (wpAny_bind (wpAny_field hzf rfl (x := .ref (b + as.length + 1)) rfl ?_)))
    refine wpAny_bind (wpAny_setField_rec hzf (by simp) fun g0 hz0 hs0 => ?_)
    replace hz0 : g0.get? (b + as.length + 2) = some { cls := .type "zip", data := .fields #[.ellipsis, .bool fl', .bool false, .ref (b + as.length), .ref (b + as.length + 1)] } := hz0
    replace hs0 : Heap.SameBut (b + as.length + 2) f0 g0 := hs0
    have up1 : ∀ c o, c ≠ b + as.length + 2 → hp.get? c = some o → g0.get? c = some o := fun c o hc e => hs0.extBut c o hc (up0 c o hc e)
    have m0 : ZMid hp g0 b as us i 0 0 { cls := .type "zip", data := .fields #[.ellipsis, .bool fl', .bool false, .ref (b + as.length), .ref (b + as.length + 1)] } := by
      obtain ⟨old, o1, o2⟩ := Z.own
      refine ⟨by rw [hs0.1, sf.1], fun j a hj => ?_, hz0, up1 _ _ (by omega) Z.ti, ⟨old, o1, up1 _ _ (by omega) o2, fun j hj => absurd hj (Nat.not_lt_zero _)⟩, fun c o hc e => up1 c o (by omega) e⟩
      rw [if_neg (Nat.not_lt_zero _)]
      exact (Z.it j a hj).at fun o q => up1 (b + j) o (by have := (List.getElem?_eq_some_iff.mp hj).1; omega) q
    refine wpAny_bind (wpAny_forIn_list _ (fun rest st s' => st.1 = none ∧ ∃ k h' tk, s' = ⟨h', g, d, tk, os⟩ ∧ k ≤ as.length ∧ rest = (refs (b + k) (as.length - k)).zipIdx k ∧ ZMid hp h' b as us i k k { cls := .type "zip", data := .fields #[.ellipsis, .bool fl', .bool false, .ref (b + as.length), .ref (b + as.length + 1)] }) _ ?_ ?_ _ _ ?_)
    · rintro x rest st s' ⟨hst, k, h', tk, rfl, hkl, hr, m⟩
      by_cases hk1 : k < as.length
      · obtain ⟨r, hr1⟩ : ∃ r, as.length - k = r + 1 := ⟨as.length - k - 1, by omega⟩
        rw [hr1, refs_succ, List.zipIdx_cons] at hr
        obtain ⟨rfl, rfl⟩ := List.cons.inj hr
        have ha : as[k]? = some as[k] := List.getElem?_eq_getElem hk1
        have hk2 : k < us.length := by omega
        have hu1 : us[k]? = some us[k] := List.getElem?_eq_getElem hk2
        obtain ⟨its, ht, hx⟩ := hk k _ _ ha hu1
        refine wpAny_bind (wpAny_onRaise ?_)
        show wpAny _ _ (Builtin.SmallTypes.nextOf (.ref (b + k)) >>= _) _ _ ⟨h', g, d, tk, os⟩
        have hit : h'.IsTupleIter (b + k) as[k] i := by
          have := m.it k _ ha
          rw [if_neg (Nat.lt_irrefl _)] at this
          exact this
        refine wpAny_bind (wpAny_nextOf_tuple_item (s := ⟨h', g, d, tk, os⟩) hit (m.tuple (Z.lt _ (List.getElem_mem hk1)) ht) hx fun p1 hi1 hs1 => wpAny_pure ?_)
        replace hs1 : Heap.SameBut (b + k) h' p1 := hs1
        have m1 := m.turn ha hi1 hs1
        obtain ⟨arr, a1, a2, a3⟩ := m1.own
        refine wpAny_bind (wpAny_seqItems (s := ⟨p1, g, d, tk, os⟩) a2 rfl (wpAny_bind (updSeq_tup (s := ⟨p1, g, d, tk, os⟩) a2 (by rw [a1]; exact hsm) fun g1 hT1 hs2 => ?_)))
        replace hs2 : Heap.SameBut (b + as.length + 1) p1 g1 := hs2
        have m2 := m1.fill hk1 hu1 a1 a3 hT1 hs2
        refine wpAny_bind (wpAny_letGo (wpAny_pure ?_))
        refine ⟨rfl, k + 1, g1, tk, rfl, hk1, ?_, m2⟩
        have e : as.length - (k + 1) = r := by omega
        rw [e]
        rfl
      · have e : as.length - k = 0 := by omega
        rw [e] at hr
        cases hr
    · rintro st s' ⟨hst, k, h', tk, rfl, hkl, hr, m⟩
      have hkn : k = as.length := by
        by_cases hk1 : k < as.length
        · obtain ⟨r, hr1⟩ : ∃ r, as.length - k = r + 1 := ⟨as.length - k - 1, by omega⟩
          rw [hr1, refs_succ, List.zipIdx_cons] at hr
          cases hr
        · omega
      subst hkn
      obtain ⟨st1, st2⟩ := st
      replace hst : st1 = none := hst
      subst hst
      obtain ⟨arr, a1, a2, a3⟩ := m.own
      have ea : arr = us.toArray := by
        apply Array.ext_getElem?
        intro j
        by_cases hj : j < as.length
        · rw [a3 j hj]; simp
        · have h1 : arr[j]? = none := by simp; omega
          have h2 : us.toArray[j]? = none := by simp; omega
          rw [h1, h2]
      subst ea
      refine wpAny_bind (wpAny_seqItems (s := ⟨h', g, d, tk, os⟩) a2 rfl (wpAny_bind (wpAny_newTuple ?_ (by simp; omega))))
      have hsz : h'.objs.size = hp.objs.size := m.sz
      show wpAny _ _ (Builtin.SmallTypes.ownedTupleHandOut (.ref (b + as.length + 2)) (.ref h'.objs.size) >>= _) _ _ ⟨h'.push { cls := .type "tuple", data := .seq us.toArray.toList.toArray }, g, d, tk, os⟩
      have euu : us.toArray.toList.toArray = us.toArray := by simp
      rw [euu]
      refine wpAny_bind ?_
      unfold Builtin.SmallTypes.ownedTupleHandOut
      have hz6 : (h'.push { cls := .type "tuple", data := .seq us.toArray }).get? (b + as.length + 2) = some { cls := .type "zip", data := .fields #[.ellipsis, .bool fl', .bool false, .ref (b + as.length), .ref (b + as.length + 1)] } := Heap.get?_push_of_some _ m.zO
      refine wpAny_bind (wpAny_setField_rec hz6 (by simp) fun h7 hz7 hs7 => ?_)
      replace hz7 : h7.get? (b + as.length + 2) = some { cls := .type "zip", data := .fields #[rawInt h'.objs.size, .bool fl', .bool false, .ref (b + as.length), .ref (b + as.length + 1)] } := hz7
      refine wpAny_setField_rec hz7 (by simp) fun h8 hz8 hs8 => ?_
      replace hz8 : h8.get? (b + as.length + 2) = some { cls := .type "zip", data := .fields #[rawInt h'.objs.size, .bool false, .bool false, .ref (b + as.length), .ref (b + as.length + 1)] } := hz8
      replace hs7 : Heap.SameBut (b + as.length + 2) (h'.push { cls := .type "tuple", data := .seq us.toArray }) h7 := hs7
      replace hs8 : Heap.SameBut (b + as.length + 2) h7 h8 := hs8
      have up : ∀ c o, c ≠ b + as.length + 2 → h'.get? c = some o → h8.get? c = some o := fun c o c1 e => hs8.extBut _ _ c1 (hs7.extBut _ _ c1 (Heap.get?_push_of_some _ e))
      have hzl : b + as.length + 2 < h'.objs.size := Heap.lt_size m.zO
      have nez : h'.objs.size ≠ b + as.length + 2 := Nat.ne_of_gt hzl
      have hT8 : h8.get? h'.objs.size = some { cls := .type "tuple", data := .seq us.toArray } := hs8.extBut _ _ nez (hs7.extBut _ _ nez (Heap.get?_push_size _ rfl))
      have hz9 : h8.objs.size = h'.objs.size + 1 := by rw [hs8.1, hs7.1, Heap.size_push]
      rw [hsz] at hz8 hT8 hz9
      refine wpAny_pure ⟨_, rfl, ?_⟩
      show Q (.ref h'.objs.size) ⟨h8, g, d, tk, os⟩
      rw [hsz]
      refine hQ h8 tk ⟨Z.lt, ⟨_, _, hz8, .inr ⟨_, rfl⟩⟩, up _ _ (by omega) m.ti, ⟨_, a1, up _ _ (by omega) a2⟩, fun j a hj => ?_⟩ hT8 hz9 fun c o hc e => up c o (by omega) (m.kp c o hc e)
      have hjl := (List.getElem?_eq_some_iff.mp hj).1
      have := m.it j a hj
      rw [if_pos hjl] at this
      exact this.at fun o q => up (b + j) o (by omega) q
    · refine ⟨rfl, 0, g0, tk0, rfl, Nat.zero_le _, ?_, m0⟩
      simp
  | false =>
    simp only [Bool.false_eq_true, if_false]
    obtain ⟨old, o1, o2⟩ := Z.own
    have m0 : ZMid hp f0 b as us i 0 0 { cls := .type "zip", data := .fields #[own, .bool fl', .bool false, .ref (b + as.length), .ref (b + as.length + 1)] } := by
      refine ⟨sf.1, fun j a hj => ?_, hzf, up0 _ _ (by omega) Z.ti, ⟨old, o1, up0 _ _ (by omega) o2, fun j hj => absurd hj (Nat.not_lt_zero _)⟩, fun c o hc e => up0 c o (by omega) e⟩
      rw [if_neg (Nat.not_lt_zero _)]
      exact (Z.it j a hj).at fun o q => up0 (b + j) o (by have := (List.getElem?_eq_some_iff.mp hj).1; omega) q
    refine wpAny_bind (MeetsSeq2.wpAny_forIn_array _ (fun rest st s' => st.1 = none ∧ ∃ k h' tk, s' = ⟨h', g, d, tk, os⟩ ∧ k ≤ as.length ∧ rest = refs (b + k) (as.length - k) ∧ st.2 = (us.take k).toArray ∧ ZMid hp h' b as us i k 0 { cls := .type "zip", data := .fields #[own, .bool fl', .bool false, .ref (b + as.length), .ref (b + as.length + 1)] }) _ ?_ ?_ _ _ ?_)
    · rintro x rest st s' ⟨hst, k, h', tk, rfl, hkl, hr, hs2, m⟩
      obtain ⟨st1, st2⟩ := st
      replace hst : st1 = none := hst
      replace hs2 : st2 = (us.take k).toArray := hs2
      subst hst hs2
      by_cases hk1 : k < as.length
      · obtain ⟨r, hr1⟩ : ∃ r, as.length - k = r + 1 := ⟨as.length - k - 1, by omega⟩
        rw [hr1, refs_succ] at hr
        obtain ⟨rfl, rfl⟩ := List.cons.inj hr
        have ha : as[k]? = some as[k] := List.getElem?_eq_getElem hk1
        have hk2 : k < us.length := by omega
        have hu1 : us[k]? = some us[k] := List.getElem?_eq_getElem hk2
        obtain ⟨its, ht, hx⟩ := hk k _ _ ha hu1
        refine wpAny_bind (wpAny_holding ?_)
        show wpAny _ _ (Builtin.SmallTypes.nextOf (.ref (b + k)) >>= _) _ _ ⟨h', g, d, tk, os⟩
        have hit : h'.IsTupleIter (b + k) as[k] i := by
          have := m.it k _ ha
          rw [if_neg (Nat.lt_irrefl _)] at this
          exact this
        refine wpAny_bind (wpAny_nextOf_tuple_item (s := ⟨h', g, d, tk, os⟩) hit (m.tuple (Z.lt _ (List.getElem_mem hk1)) ht) hx fun p1 hi1 hs1 => wpAny_pure (wpAny_pure ?_))
        replace hs1 : Heap.SameBut (b + k) h' p1 := hs1
        refine ⟨rfl, k + 1, p1, tk, rfl, hk1, ?_, ?_, m.turn ha hi1 hs1⟩
        · have e : as.length - (k + 1) = r := by omega
          rw [e]
          rfl
        · show (us.take k).toArray.push us[k] = (us.take (k + 1)).toArray
          rw [List.take_add_one, hu1]
          simp
      · have e : as.length - k = 0 := by omega
        rw [e] at hr
        cases hr
    · rintro st s' ⟨hst, k, h', tk, rfl, hkl, hr, hs2, m⟩
      obtain ⟨st1, st2⟩ := st
      replace hst : st1 = none := hst
      replace hs2 : st2 = (us.take k).toArray := hs2
      subst hst hs2
      have hkn : k = as.length := by
        by_cases hk1 : k < as.length
        · obtain ⟨r, hr1⟩ : ∃ r, as.length - k = r + 1 := ⟨as.length - k - 1, by omega⟩
          rw [hr1, refs_succ] at hr
          cases hr
        · omega
      subst hkn
      have eu : us.take as.length = us := List.take_of_length_le (by omega)
      rw [eu]
      refine wpAny_bind (wpAny_newTuple ?_ (by simp; omega))
      have euu : us.toArray.toList.toArray = us.toArray := by simp
      rw [euu]
      show wpAny _ _ (ret (.ref h'.objs.size)) _ _ ⟨h'.push { cls := .type "tuple", data := .seq us.toArray }, g, d, tk, os⟩
      have hsz : h'.objs.size = hp.objs.size := m.sz
      have up : ∀ c o, h'.get? c = some o → (h'.push { cls := .type "tuple", data := .seq us.toArray }).get? c = some o := fun c o e => Heap.get?_push_of_some _ e
      have hT : (h'.push { cls := .type "tuple", data := .seq us.toArray }).get? h'.objs.size = some { cls := .type "tuple", data := .seq us.toArray } := Heap.get?_push_size _ rfl
      have hsz2 : (h'.push { cls := .type "tuple", data := .seq us.toArray }).objs.size = hp.objs.size + 1 := by rw [Heap.size_push, hsz]
      rw [hsz] at hT
      refine wpAny_pure ⟨_, rfl, ?_⟩
      show Q (.ref h'.objs.size) _
      rw [hsz]
      obtain ⟨arr, a1, a2, _⟩ := m.own
      refine hQ _ tk ⟨Z.lt, ⟨_, _, up _ _ m.zO, ho⟩, up _ _ m.ti, ⟨_, a1, up _ _ a2⟩, fun j a hj => ?_⟩ hT hsz2 fun c o hc e => up c o (m.kp c o hc e)
      have hjl := (List.getElem?_eq_some_iff.mp hj).1
      have := m.it j a hj
      rw [if_pos hjl] at this
      exact this.at fun o q => up (b + j) o q
    · refine ⟨rfl, 0, f0, tk0, rfl, Nat.zero_le _, ?_, ?_, m0⟩
      · simp
      · simp
end
end Zn
set_option Elab.async false
set_option linter.all false
set_option maxRecDepth 100000
set_option maxHeartbeats 4000000
/-! zip(*xs): its end, its turns as an iterator, the call. -/
namespace Zn
open PySem PySem.Spec PyProof.Rows L2 GxR
section
variable {prog : Program} {w : World} {A : Around} {E : Value → Shared → Prop} {s : Shared} {b i : Nat} {as : List Addr} {us : List Value}
theorem zipN_end {Q : Fin → Shared → Prop} {a : Addr} {its : Array Value} (hh : A.handled = none) (Z : ZMany s.heap b as i) (ha : as[0]? = some a) (ht : s.heap.IsTuple a its) (hx : its[i]? = none)
    (hE : ∀ h' tk e, (∀ c o, (c < b ∨ b + as.length + 2 < c) → s.heap.get? c = some o → h'.get? c = some o) → (∃ o, h'.get? e = some o ∧ o.cls = .type "StopIteration") → E (.ref e) { s with heap := h', toks := tk }) :
    wpAny (model prog w) A (Builtin.«zip.__next__» ⟨[.ref (b + as.length + 2)], []⟩) Q E s := by
  obtain ⟨hp, g, d, tk0, os⟩ := s
  obtain ⟨own, fl, hz, ho⟩ := Z.z
  have hpos : 0 < as.length := (List.getElem?_eq_some_iff.mp ha).1
  obtain ⟨r, hr⟩ : ∃ r, as.length = r + 1 := ⟨as.length - 1, by omega⟩
  have hab0 : a < b := Z.lt a (List.mem_of_getElem? ha)
  have hab : a ≠ b + as.length + 2 := Nat.ne_of_lt (Nat.lt_of_lt_of_le hab0 (by omega))
  have hbz : b ≠ b + as.length + 2 := by omega
  show wpAny _ _ (field (.ref (b + as.length + 2)) 2 >>= _) _ _ _
  refine wpAny_bind (wpAny_field hz rfl (x := .bool false) rfl ?_)
  show wpAny _ _ (field (.ref (b + as.length + 2)) 3 >>= _) _ _ _
  refine wpAny_bind (wpAny_field hz rfl (x := .ref (b + as.length)) rfl (wpAny_bind (wpAny_seqItems Z.ti rfl ?_)))
  have hemp : (refs b as.length).toArray.isEmpty = false := by
    rw [hr]
    simp [refs, List.range'_succ]
  simp only [hemp, Bool.false_eq_true, if_false]
  refine wpAny_bind (own_free hz ho fun bb fl' f0 hzf sf => ?_)
  replace sf : Heap.SameBut (b + as.length + 2) hp f0 := sf
  have up0 : ∀ c o, c ≠ b + as.length + 2 → hp.get? c = some o → f0.get? c = some o := fun c o hc e => sf.extBut c o hc e
  have hit0 : hp.IsTupleIter b a i := Z.it 0 a ha
  cases bb with
  | true =>
    simp only [if_true]
    refine wpAny_bind (wpAny_rule (wpAny_bind (wpAny_field hzf rfl (x := .ref (b + as.length + 1)) rfl ?_)))
    refine wpAny_bind (wpAny_setField_rec hzf (by simp) fun g0 hz0 hs0 => ?_)
    replace hz0 : g0.get? (b + as.length + 2) = some { cls := .type "zip", data := .fields #[.ellipsis, .bool fl', .bool false, .ref (b + as.length), .ref (b + as.length + 1)] } := hz0
    replace hs0 : Heap.SameBut (b + as.length + 2) f0 g0 := hs0
    have up1 : ∀ c o, c ≠ b + as.length + 2 → hp.get? c = some o → g0.get? c = some o := fun c o hc e => hs0.extBut c o hc (up0 c o hc e)
    have el : (refs b as.length).toArray.toList.zipIdx = (Value.ref b, 0) :: (refs (b + 1) r).zipIdx 1 := by rw [hr, refs_succ]; rfl
    rw [el]
    refine wpAny_bind ?_
    rw [List.forIn_cons]
    refine wpAny_bind (wpAny_bind (wpAny_onRaise ?_))
    show wpAny _ _ (Builtin.SmallTypes.nextOf (.ref b) >>= _) _ _ ⟨g0, g, d, tk0, os⟩
    refine wpAny_bind (wpAny_nextOf_tuple_end (s := ⟨g0, g, d, tk0, os⟩) hh (hit0.at fun o q => up1 b o hbz q) (ht.at fun o q => up1 a o hab q) hx fun q e hq he => ?_)
    replace hq : Heap.ExtBut b g0 q := hq
    obtain ⟨oe, hoe, hce⟩ := he
    replace hoe : q.get? e = some oe := hoe
    have hzq : q.get? (b + as.length + 2) = some { cls := .type "zip", data := .fields #[.ellipsis, .bool fl', .bool false, .ref (b + as.length), .ref (b + as.length + 1)] } := hq _ _ hbz.symm hz0
    have hez : e ≠ b + as.length + 2 := fun x => by subst x; rw [hzq] at hoe; cases hoe; simp at hce
    refine wpAny_setField_rec (s := ⟨q, g, d, tk0, os⟩) hzq (by simp) fun q' _ hq' => ?_
    replace hq' : Heap.SameBut (b + as.length + 2) q q' := hq'
    exact hE q' tk0 e (fun c o hc x => hq'.extBut c o (show (c : Nat) ≠ b + as.length + 2 by omega) (hq c o (show (c : Nat) ≠ b by omega) (up1 c o (by omega) x))) ⟨oe, hq'.extBut _ _ hez hoe, hce⟩
  | false =>
    simp only [Bool.false_eq_true, if_false]
    refine wpAny_bind ?_
    rw [← Array.forIn_toList]
    have el : (refs b as.length).toArray.toList = Value.ref b :: refs (b + 1) r := by rw [hr, refs_succ]
    rw [el, List.forIn_cons]
    refine wpAny_bind (wpAny_bind (wpAny_holding ?_))
    show wpAny _ _ (Builtin.SmallTypes.nextOf (.ref b) >>= _) _ _ ⟨f0, g, d, tk0, os⟩
    refine wpAny_bind (wpAny_nextOf_tuple_end (s := ⟨f0, g, d, tk0, os⟩) hh (hit0.at fun o q => up0 b o hbz q) (ht.at fun o q => up0 a o hab q) hx fun q e hq he => ?_)
    replace hq : Heap.ExtBut b f0 q := hq
    exact hE q tk0 e (fun c o hc x => hq c o (show (c : Nat) ≠ b by omega) (up0 c o (by omega) x)) he
theorem pyNext_zipN_item {Q : Option Value → Shared → Prop} (Z : ZMany s.heap b as i) (hu : us.length = as.length) (hsm : as.length ≤ sizeLine) (hne : as ≠ []) (hk : ∀ (k : Nat) (a : Addr) (u : Value), as[k]? = some a → us[k]? = some u → ∃ its : Array Value, s.heap.IsTuple a its ∧ its[i]? = some u)
    (hQ : ∀ h' tk, ZMany h' b as (i + 1) → h'.get? s.heap.objs.size = some { cls := .type "tuple", data := .seq us.toArray } → h'.objs.size = s.heap.objs.size + 1 → (∀ c o, (c < b ∨ b + as.length + 2 < c) → s.heap.get? c = some o → h'.get? c = some o) → Q (some (.ref s.heap.objs.size)) { s with heap := h', toks := tk }) :
    wpAny (model prog w) A (pyNext (.ref (b + as.length + 2))) Q E s := by
  obtain ⟨own, fl, hz, ho⟩ := id Z.z
  have hT : s.TypeIs (.ref (b + as.length + 2)) "zip" := ⟨_, hz, rfl⟩
  unfold pyNext
  exact wpAny_bind (wpAny_attempt (wpAny_callSpecial?_slot (name := Str.ofString "__next__") hT F.slot_zip_next
    (wpAny_call_entry F.slot_zip_next hT F.entry_zip_next
      (zipN_item Z hu hsm hne hk fun h' tk y1 y2 b1 b2 => wpAny_pure (hQ h' tk y1 y2 b1 b2)) (F.args_zip_next_1 _))))
theorem pyNext_zipN_end {Q : Option Value → Shared → Prop} {a : Addr} {its : Array Value} (hh : A.handled = none) (Z : ZMany s.heap b as i) (ha : as[0]? = some a) (ht : s.heap.IsTuple a its) (hx : its[i]? = none)
    (hQ : ∀ h' tk, (∀ c o, (c < b ∨ b + as.length + 2 < c) → s.heap.get? c = some o → h'.get? c = some o) → Q none { s with heap := h', toks := tk }) :
    wpAny (model prog w) A (pyNext (.ref (b + as.length + 2))) Q E s := by
  obtain ⟨own, fl, hz, ho⟩ := id Z.z
  have hT : s.TypeIs (.ref (b + as.length + 2)) "zip" := ⟨_, hz, rfl⟩
  unfold pyNext
  refine wpAny_bind (wpAny_attempt (wpAny_callSpecial?_slot (name := Str.ofString "__next__") hT F.slot_zip_next
    (wpAny_call_entry F.slot_zip_next hT F.entry_zip_next (zipN_end (A := A.in1) hh Z ha ht hx fun h' tk e hk he => ?_) (F.args_zip_next_1 _))))
  obtain ⟨o, ho, hc⟩ := he
  refine wpAny_bind (wpAny_isInstance (T := "StopIteration") (b := true) ⟨o, ho, hc⟩ isSubtype_stop ?_)
  exact wpAny_pure (hQ _ _ hk)
end
/-- many tuples as they stand at each turn: their items in a new tuple -/
def ItzN (K : PySem.W.Frag) (as : List Addr) : It :=
  ⟨fun i H => ∃ xs : List V, xs.length = as.length ∧ ∀ (k : Nat) (a : Addr) (x : V), as[k]? = some a → xs[k]? = some x → ∃ ys, SqT K H a ys ∧ ys[i]? = some x,
    fun i H v H' => ∃ T xs, v = .ref T ∧ H T = none ∧ H' = upd H T (.tup xs) ∧ xs.length = as.length ∧ ∀ (k : Nat) (a : Addr) (x : V) (ys : List V), as[k]? = some a → xs[k]? = some x → SqT K H a ys → ys[i]? = some x,
    fun i H => ∃ a ys, as[0]? = some a ∧ SqT K H a ys ∧ ys.length ≤ i⟩
theorem gather {X : Cx} {pins : List (Addr × Obj)} {σ : L2.St} {H : Hp} {s : Shared} {i : Nat} (I : Inv X pins σ H s) : ∀ {as : List Addr} {xs : List V}, xs.length = as.length → (∀ (k : Nat) (a : Addr) (x : V), as[k]? = some a → xs[k]? = some x → ∃ ys, SqT X.K H a ys ∧ ys[i]? = some x) →
    ∃ us : List Value, Vals xs us ∧ us.length = as.length ∧ ∀ (k : Nat) (a : Addr) (u : Value), as[k]? = some a → us[k]? = some u → ∃ its : Array Value, s.heap.IsTuple a its ∧ its[i]? = some u
  | [], [], _, _ => ⟨[], .nil, rfl, fun k a u h => by cases k <;> cases h⟩
  | a :: as, x :: xs, hl, h => by
    obtain ⟨us, h1, h2, h3⟩ := gather (i := i) I (as := as) (xs := xs) (by simpa using hl) fun k a' x' e1 e2 => h (k + 1) a' x' (by simpa using e1) (by simpa using e2)
    obtain ⟨ys, hq, hy⟩ := h 0 a x rfl rfl
    obtain ⟨its, rv, p, _⟩ := I.tuple hq
    obtain ⟨u, hu, ru⟩ := rv.get hy
    refine ⟨u :: us, .cons ru h1, by simp [h2], fun k a' u' e1 e2 => ?_⟩
    cases k with
    | zero =>
      cases e1
      cases e2
      exact ⟨its.toArray, p, by simpa using hu⟩
    | succ k => exact h3 k a' u' (by simpa using e1) (by simpa using e2)
theorem mem_run {b n c : Nat} : c ∈ List.range' b n ↔ b ≤ c ∧ c < b + n := by rw [List.mem_range'_1]
theorem turn_zipN {P : Program} {w : World} {K : PySem.W.Frag} {x : Str} {p : Pos} {b : Nat} {as : List Addr} (hne : as ≠ []) (hsm : as.length ≤ sizeLine) :
    Turn P w K (.Name x p) (ItzN K as) (List.range' b (as.length + 3)) (b + as.length + 2) (fun i h => ZMany h b as i) where
  mem := mem_run.mpr ⟨by omega, by omega⟩
  obj := fun i h st c hc => by
    obtain ⟨h1, h2⟩ := mem_run.mp hc
    obtain ⟨own, fl, hz, _⟩ := st.z
    obtain ⟨old, _, ho⟩ := st.own
    obtain ⟨k, rfl⟩ := Nat.exists_eq_add_of_le h1
    by_cases e1 : k = as.length + 2
    · subst e1; exact ⟨_, hz, fun v q => nomatch q⟩
    by_cases e2 : k = as.length + 1
    · subst e2; exact ⟨_, ho, fun v q => nomatch q⟩
    by_cases e3 : k = as.length
    · subst e3; exact ⟨_, st.ti, fun v q => nomatch q⟩
    have hk : k < as.length := by omega
    obtain ⟨o, e4, _, d⟩ := st.it k _ (List.getElem?_eq_getElem hk)
    exact ⟨o, e4, fun v q => by rw [d] at q; cases q⟩
  keep := fun i h h' st k => by
    obtain ⟨own, fl, hz, ho⟩ := st.z
    obtain ⟨old, o1, o2⟩ := st.own
    exact ⟨st.lt, ⟨own, fl, k _ (mem_run.mpr ⟨by omega, by omega⟩) _ hz, ho⟩, k _ (mem_run.mpr ⟨by omega, by omega⟩) _ st.ti, ⟨old, o1, k _ (mem_run.mpr ⟨by omega, by omega⟩) _ o2⟩,
      fun j a hj => (st.it j a hj).at fun o q => k _ (mem_run.mpr ⟨by omega, by have := (List.getElem?_eq_some_iff.mp hj).1; omega⟩) o q⟩
  item := by
    intro X hP hw hK hc i pins s σ H E I hf st hg
    subst hP hw hK
    obtain ⟨xs, hl, hx⟩ := hg
    obtain ⟨us, rv, hul, hk⟩ := gather I hl hx
    obtain ⟨own, fl, hz, _⟩ := id st.z
    have hzl : b + as.length + 2 < s.heap.objs.size := Heap.lt_size hz
    refine pyNext_zipN_item st hul hsm hne hk fun h' tk Z' hT hsz hkp => ?_
    refine ⟨_, rfl, wpAny_pure ?_⟩
    have new : ObjOk X.prog X.w (upd H s.heap.objs.size (.tup xs)) h' s.heap.objs.size (.tup xs) := ⟨by rw [hl]; exact hsm, us, rv, ⟨_, hT, rfl, _, rfl⟩⟩
    have I1 : Inv X pins σ (upd H s.heap.objs.size (.tup xs)) { s with heap := h', toks := tk } :=
      I.turnedNew (t' := tk) (ch := List.range' b (as.length + 3)) (fun c o hb q => hkp c o (by rw [mem_run] at hb; omega) q) hf (Nat.le_refl _) new
    refine ⟨.ref s.heap.objs.size, _, I1, rfl, ⟨_, xs, rfl, I.hok.fresh (Nat.le_refl _), rfl, hl, fun k a x ys e1 e2 hq => ?_⟩, Z', fun c hcm => ?_⟩
    · obtain ⟨ys', hq', hy⟩ := hx k a x e1 e2
      rw [I.tuple_inj hq hq']
      exact hy
    · have q : (c : Nat) < s.heap.objs.size := Nat.lt_of_lt_of_le (mem_run.mp hcm).2 hzl
      rw [upd_ne (Nat.ne_of_lt q)]
      exact (hf c hcm).1
  done := by
    intro X hP hw hK hc i pins s σ H E I hf st hg
    subst hP hw hK
    obtain ⟨a, ys, ha, hq, hend⟩ := hg
    obtain ⟨its, rv, p, _⟩ := I.tuple hq
    have l1 := rv.length
    exact pyNext_zipN_end (I.ok.hd hc) st ha (show s.heap.IsTuple a its.toArray from p) (by simp; omega) fun h' tk hk => ⟨rfl, I.turnedL (t' := tk) (ch := List.range' b (as.length + 3)) (fun c o hb q => hk c o (by rw [mem_run] at hb; omega) q) hf⟩
  self := fun A i s Q E st h => by
    obtain ⟨own, fl, hz, _⟩ := id st.z
    have hT : s.TypeIs (.ref (b + as.length + 2)) "zip" := ⟨_, hz, rfl⟩
    refine wpAny_pyIter_slot hT F.slot_zip_iter (wpAny_call_entry F.slot_zip_iter hT F.entry_zip_iter ?_ (F.args_zip_iter_1 _))
    show wpAny _ _ (ret (.ref (b + as.length + 2))) _ _ s
    exact wpAny_pure ⟨_, rfl, "zip", _, hT, F.slot_zip_next.lookup, h⟩
end Zn
set_option Elab.async false
set_option linter.all false
set_option maxRecDepth 100000
set_option maxHeartbeats 4000000
/-! zip(*xs): the call. -/
namespace Zn
open PySem PySem.Spec PyProof.Rows L2 GxR
theorem typeCall_zipN (vs : List Value) : checkTypeCall "zip" ⟨vs, []⟩ = pure () := by kernel_rfl
theorem newCall_zipN : ∀ vs : List Value, checkBuiltinCall "zip.__new__" ⟨.type "zip" :: vs, []⟩ = pure ()
  | [] => by kernel_rfl
  | v :: vs => by kernel_rfl
theorem args_initN (obj : Value) (vs : List Value) : argsOk "object.__init__" ⟨obj :: vs, []⟩ := by
  unfold argsOk; rw [signature?_of (id := "object.__init__") (n := ['_', '_', 't', 'i', 'n', 'i', '_', '_']) (o := ['t', 'c', 'e', 'j', 'b', 'o']) (by kernel_rfl) F.owner_object]; kernel_rfl
/-- amid the making of the iterators: those of the first k are there -/
structure ZMake (hp h' : Heap) (as : List Addr) (k : Nat) : Prop where
  sz : h'.objs.size = hp.objs.size + k
  it : ∀ (j : Nat) (a : Addr), j < k → as[j]? = some a → h'.IsTupleIter (hp.objs.size + j) a 0
  kp : ∀ c o, hp.get? c = some o → h'.get? c = some o
theorem meets_zip_newN (as : List Addr) (hsm : as.length ≤ sizeLine) : Meets (Builtin.«zip.__new__» ⟨.type "zip" :: as.map Value.ref, []⟩) (fun _ R s => (∀ a ∈ as, ∃ its : Array Value, s.heap.IsTuple a its) ∧
      ∀ h', ZMany h' s.heap.objs.size as 0 → h'.objs.size = s.heap.objs.size + as.length + 3 → (∀ c o, s.heap.get? c = some o → h'.get? c = some o) → R (.ok (.ret (.ref (s.heap.objs.size + as.length + 2)))) { s with heap := h' }) :=
  .of_wp fun prog w A R s h => by
    obtain ⟨hp, g, d, tk, os⟩ := s
    obtain ⟨ht, h⟩ := h
    have hsub := sub_zip
    have q1 : ∀ {A' : Around} {E : Value → Shared → Prop} {Q : List Value → Shared → Prop}, (∀ h', ZMake hp h' as as.length → Q (refs hp.objs.size as.length) ⟨h', g, d, tk, os⟩) → wpAny (model prog w) A' (Builtin.SmallTypes.iterAll (as.map Value.ref)) Q E ⟨hp, g, d, tk, os⟩ := by
      intro A' E Q hQ
      unfold Builtin.SmallTypes.iterAll
      refine wpAny_bind (wpAny_forIn_list _ (fun rest st s' => ∃ k h', s' = ⟨h', g, d, tk, os⟩ ∧ k ≤ as.length ∧ rest = (as.drop k).map Value.ref ∧ st = (refs hp.objs.size k).toArray ∧ ZMake hp h' as k) _ ?_ ?_ _ _ ?_)
      · rintro x rest st s' ⟨k, h', rfl, hkl, hr, rfl, m⟩
        by_cases hk1 : k < as.length
        · rw [List.drop_eq_getElem_cons hk1, List.map_cons] at hr
          obtain ⟨rfl, rfl⟩ := List.cons.inj hr
          obtain ⟨its, hit⟩ := ht _ (List.getElem_mem hk1)
          have hit' : h'.IsTuple as[k] its := hit.at fun o e => m.kp _ o e
          refine wpAny_bind (wpAny_holding (wpAny_pyIter_tuple (s := ⟨h', g, d, tk, os⟩) hit' (wpAny_pure ?_)))
          refine ⟨k + 1, _, rfl, hk1, rfl, ?_, ?_, fun j a hj ha => ?_, fun c o e => Heap.get?_push_of_some _ (m.kp c o e)⟩
          · show (refs hp.objs.size k).toArray.push (Value.ref h'.objs.size) = (refs hp.objs.size (k + 1)).toArray
            rw [m.sz]
            unfold refs
            rw [List.range'_concat]
            simp
          · show (h'.push _).objs.size = _
            rw [Heap.size_push, m.sz]
            omega
          · by_cases e : j = k
            · subst e
              rw [List.getElem?_eq_getElem hk1] at ha
              cases ha
              rw [← m.sz]
              exact ⟨_, Heap.get?_push_size _ rfl, rfl, rfl⟩
            · exact (m.it j a (by omega) ha).at fun o q => Heap.get?_push_of_some _ q
        · rw [List.drop_of_length_le (by omega)] at hr
          cases hr
      · rintro st s' ⟨k, h', rfl, hkl, hr, rfl, m⟩
        have hkn : k = as.length := by
          by_cases hk1 : k < as.length
          · rw [List.drop_eq_getElem_cons hk1] at hr
            cases hr
          · omega
        subst hkn
        refine wpAny_pure ?_
        simpa using hQ h' m
      · exact ⟨0, hp, rfl, Nat.zero_le _, rfl, rfl, rfl, fun j a hj => absurd hj (Nat.not_lt_zero _), fun _ _ e => e⟩
    wp_walk using q1
    intro h1 m
    have hrl : (refs hp.objs.size as.length).length = as.length := refs_length _ _
    refine wpAny_bind (wpAny_newTuple ?_ (by rw [hrl]; exact hsm))
    refine wpAny_bind (wpAny_newTuple ?_ (by rw [List.length_map, hrl]; exact hsm))
    refine wpAny_bind ?_
    unfold Builtin.SmallTypes.newRecord
    refine wpAny_newObj_type ?_ (by show 5 ≤ sizeLine + 2; decide)
    refine wpAny_pure ⟨_, rfl, ?_⟩
    have z1 : h1.objs.size = hp.objs.size + as.length := m.sz
    obtain ⟨t1, ht1⟩ : ∃ t1 : Obj, t1 = { cls := .type "tuple", data := .seq (refs hp.objs.size as.length).toArray } := ⟨_, rfl⟩
    obtain ⟨t2, ht2⟩ : ∃ t2 : Obj, t2 = { cls := .type "tuple", data := .seq ((refs hp.objs.size as.length).map fun _ => Value.none).toArray } := ⟨_, rfl⟩
    have z2 : (h1.push t1).objs.size = hp.objs.size + as.length + 1 := by rw [Heap.size_push, z1]
    have z3 : ((h1.push t1).push t2).objs.size = hp.objs.size + as.length + 2 := by rw [Heap.size_push, z2]
    obtain ⟨t3, ht3⟩ : ∃ t3 : Obj, t3 = { cls := .type "zip", data := .fields #[.none, .bool false, .bool false, .ref (hp.objs.size + as.length), .ref (hp.objs.size + as.length + 1)] } := ⟨_, rfl⟩
    have z4 : (((h1.push t1).push t2).push t3).objs.size = hp.objs.size + as.length + 3 := by rw [Heap.size_push, z3]
    have g1 : (((h1.push t1).push t2).push t3).get? (hp.objs.size + as.length) = some t1 := by
      rw [← z1]
      exact Heap.get?_push_of_some _ (Heap.get?_push_of_some _ (Heap.get?_push_size _ (by rw [ht1]; rfl)))
    have g2 : (((h1.push t1).push t2).push t3).get? (hp.objs.size + as.length + 1) = some t2 := by
      rw [← z2]
      exact Heap.get?_push_of_some _ (Heap.get?_push_size _ (by rw [ht2]; rfl))
    have g3 : (((h1.push t1).push t2).push t3).get? (hp.objs.size + as.length + 2) = some t3 := by
      rw [← z3]
      exact Heap.get?_push_size _ (by rw [ht3]; rfl)
    have up : ∀ c o, h1.get? c = some o → (((h1.push t1).push t2).push t3).get? c = some o := fun c o e => Heap.get?_push_of_some _ (Heap.get?_push_of_some _ (Heap.get?_push_of_some _ e))
    have := h (((h1.push t1).push t2).push t3) ⟨fun a ha => ?_, ⟨.none, false, g3.trans (congrArg some ht3), .inl rfl⟩, g1.trans (congrArg some ht1), ⟨_, ?_, g2.trans (congrArg some ht2)⟩, fun j a hj => (m.it j a (List.getElem?_eq_some_iff.mp hj).1 hj).at fun o q => up _ o q⟩ z4 fun c o e => up c o (m.kp c o e)
    · rw [ht1, ht2, ht3] at this
      rw [ht1] at z2
      rw [ht1, ht2] at z3
      show R (.ok (.ret (.ref ((h1.push _).push _).objs.size))) ⟨((h1.push _).push _).push _, g, d, tk, os⟩
      rw [z3]
      have e3 : (#[Value.none, .bool false, .bool false, .ref h1.objs.size, .ref (h1.push { cls := .type "tuple", data := .seq (refs hp.objs.size as.length).toArray }).objs.size] : Array Value) = #[.none, .bool false, .bool false, .ref (hp.objs.size + as.length), .ref (hp.objs.size + as.length + 1)] := by rw [z1, z2]
      rw [← e3] at this
      exact this
    · obtain ⟨its, hit⟩ := ht a ha
      obtain ⟨o, ho, _⟩ := hit
      exact Heap.lt_size ho
    · simp [hrl]
/-- zip of many tuples: its new cells -/
theorem zip_beginsN {prog : Program} {w : World} {A : Around} {E : Value → Shared → Prop} {s : Shared} {as : List Addr} {Q : Value → Shared → Prop} (hsm : as.length ≤ sizeLine) (ht : ∀ a ∈ as, ∃ its : Array Value, s.heap.IsTuple a its)
    (h : ∀ h', ZMany h' s.heap.objs.size as 0 → h'.objs.size = s.heap.objs.size + as.length + 3 → (∀ c o, s.heap.get? c = some o → h'.get? c = some o) → Q (.ref (s.heap.objs.size + as.length + 2)) { s with heap := h' }) :
    wpAny (model prog w) A (call (.type "zip") (as.map Value.ref)) Q E s := by
  refine callType_new F.called_zip (by decide) (typeCall_zipN _) (newCall_zipN _) (fun obj => args_initN obj _) F.entry_zip_new (meets_zip_newN as hsm) ⟨ht, fun h' Z hz hk => ?_⟩
  obtain ⟨own, fl, g, _⟩ := id Z.z
  exact ⟨⟨_, g, rfl⟩, h h' Z hz hk⟩
theorem vals_refs : ∀ {as : List Addr} {us : List Value}, Vals (as.map V.ref) us → us = as.map Value.ref
  | [], _, .nil => rfl
  | a :: as, _, .cons r t => by
    cases r
    rw [vals_refs t]
    rfl
/-- zip(*e) into a name -/
def iZipN (K : PySem.W.Frag) (te : TE) : TI := fun σ H R => te σ H fun x H1 => ∃ (l : Addr) (as : List Addr), x = V.ref l ∧ (SqT K H1 l (as.map V.ref) ∨ SqL K H1 l (as.map V.ref)) ∧ as ≠ [] ∧ as.length ≤ sizeLine ∧ (∀ a ∈ as, ∃ ys, SqT K H1 a ys) ∧ R (ItzN K as) H1
theorem pi_zipN {X : Cx} {e : Expr} {te : TE} {x : Str} {p p2 p3 pos : Pos} (hg : Gl X "zip") (hm : X.mg "zip" = none) (he : PE X e te) : PI X (.Name x p) (.Call (.Name "zip" p2) [.Starred e p3] [] pos) (iZipN X.K te) := by
  refine ⟨fun pins s σ H R I h => ?_⟩
  refine Call_ (ld_blt I hg hm PyProof.Rows.boot_zip ?_)
  refine PySem.W.ks_call (P := fun _ => True) rfl (fun h _ => ⟨.machine, .inr (.inl rfl), PySem.W.Looks.now⟩) (PySem.W.ks_lone (thn (he.run pins s σ H _ I h) fun v s1 hv => ?_))
  obtain ⟨y, H1, I1, ry, l, as, rfl, hq, hne, hsm, ht, q⟩ := hv
  cases ry
  refine StX.star_any I1 hq fun us s2 I2 rv => ⟨trivial, ?_⟩
  obtain rfl := vals_refs rv
  have ht2 : ∀ a ∈ as, ∃ its : Array Value, s2.heap.IsTuple a its := fun a ha => by
    obtain ⟨ys, hy⟩ := ht a ha
    obtain ⟨its, _, pt, _⟩ := I2.tuple hy
    exact ⟨_, pt⟩
  refine zip_beginsN hsm ht2 fun h' Z hsz hk => ?_
  have T := turn_zipN (P := X.prog) (w := X.w) (K := X.K) (x := x) (p := p) (b := s2.heap.objs.size) hne hsm
  refine T.self X.A 0 { s2 with heap := h' } _ _ Z ?_
  have I3 : Inv X pins σ H1 { s2 with heap := h' } := I2.kept (t' := s2.toks) hk
  exact ⟨_, _, _, _, H1, rfl, I3, T, Z, fun c hc => I2.fpOk (mem_run.mp hc).1 (I2.hok.fresh (mem_run.mp hc).1), q⟩
end Zn
set_option Elab.async false
set_option linter.all false
set_option maxRecDepth 100000
set_option maxHeartbeats 4000000
/-! zip(*xs) of many tuples, by data. -/
namespace Dl
open PySem PySem.Spec PyProof.Rows L2 GxR Gn
section
variable {K : PySem.W.Frag} {Ts : List Addr} {ρ : Rho} {M : Mem} {H : Hp}
/-- the columns of rows of one width -/
def colsD (rows : List (List D)) (w : Nat) : List D := (List.range w).map fun i => D.tup (rows.map fun r => r.getD i .non)
/-- the tuples of rows -/
def TupsAt (K : PySem.W.Frag) (ρ : Rho) (H : Hp) (as : List Addr) (rows : List (List D)) : Prop := as.length = rows.length ∧ ∀ (k : Nat) (a : Addr) (r : List D), as[k]? = some a → rows[k]? = some r → ∃ zs, SqT K H a zs ∧ Shs K ρ H r zs
theorem TupsAt.grw {ρ' : Rho} {H' : Hp} {as : List Addr} {rows : List (List D)} (g : Grw ρ H ρ' H') (h : TupsAt K ρ H as rows) : TupsAt K ρ' H' as rows := ⟨h.1, fun k a r e1 e2 => by
  obtain ⟨zs, h1, h2⟩ := h.2 k a r e1 e2
  exact ⟨zs, SqT.grw g h1, Shs.grw g _ _ h2⟩⟩
theorem tups_of : ∀ {rows : List (List D)} {vs : List V}, Shs K ρ H (rows.map D.tup) vs → ∃ as : List Addr, vs = as.map V.ref ∧ TupsAt K ρ H as rows
  | [], _, h => by
    cases h
    exact ⟨[], rfl, rfl, fun k a r e => by cases k <;> cases e⟩
  | r :: rows, _, h => by
    cases h with
    | cons h1 h2 =>
      obtain ⟨as, rfl, h3, h4⟩ := tups_of (rows := rows) h2
      cases h1 with
      | tup ha hs =>
        refine ⟨_ :: as, rfl, by simp [h3], fun k a r e1 e2 => ?_⟩
        cases k with
        | zero =>
          cases e1
          cases e2
          exact ⟨_, ha, hs⟩
        | succ k => exact h4 k a r (by simpa using e1) (by simpa using e2)
theorem tups_col {n w : Nat} (hn : n < w) : ∀ {rows : List (List D)} {as : List Addr}, TupsAt K ρ H as rows → (∀ r ∈ rows, r.length = w) → ∃ xs : List V, xs.length = as.length ∧ (∀ (k : Nat) (a : Addr) (x : V), as[k]? = some a → xs[k]? = some x → ∃ ys, SqT K H a ys ∧ ys[n]? = some x) ∧ Shs K ρ H (rows.map fun r => r.getD n .non) xs
  | [], as, h, _ => by
    have : as = [] := List.length_eq_zero_iff.mp h.1
    subst this
    exact ⟨[], rfl, fun k a x e => (by cases k <;> cases e), .nil⟩
  | r :: rows, [], h, _ => by cases h.1
  | r :: rows, a :: as, h, hw => by
    obtain ⟨xs, h1, h2, h3⟩ := tups_col hn (rows := rows) (as := as) ⟨by simpa using h.1, fun k a' r' e1 e2 => h.2 (k + 1) a' r' (by simpa using e1) (by simpa using e2)⟩ fun r' hr => hw r' (List.mem_cons_of_mem _ hr)
    obtain ⟨zs, ha, hs⟩ := h.2 0 a r rfl rfl
    have hrw := hw r (by simp)
    have hr : r[n]? = some (r.getD n .non) := by
      rw [List.getD_eq_getElem?_getD, List.getElem?_eq_getElem (by omega)]
      rfl
    obtain ⟨v, e1, s1⟩ := hs.getD hr
    refine ⟨v :: xs, by simp [h1], fun k a' x e2 e3 => ?_, .cons s1 h3⟩
    cases k with
    | zero =>
      cases e2
      cases e3
      exact ⟨zs, ha, e1⟩
    | succ k => exact h2 k a' x (by simpa using e2) (by simpa using e3)
theorem feeds_zipN {as : List Addr} {rows : List (List D)} {w : Nat} (ha : TupsAt K ρ H as rows) (hne : rows ≠ []) (hw : ∀ r ∈ rows, r.length = w) : Feeds K Ts ρ H (Zn.ItzN K as) (colsD rows w) (fun _ => True) := fun ρ1 M1 H1 g1 R1 _ n => by
  have ha := ha.grw g1
  unfold colsD
  refine ⟨fun e => ?_, fun d e => ?_⟩
  · rw [List.getElem?_map, Option.map_eq_none_iff] at e
    have hn := List.getElem?_eq_none_iff.mp e
    rw [List.length_range] at hn
    cases rows with
    | nil => exact absurd rfl hne
    | cons r rows =>
      cases as with
      | nil => cases ha.1
      | cons a as =>
        obtain ⟨zs, h1, h2⟩ := ha.2 0 a r rfl rfl
        exact ⟨a, zs, rfl, h1, by rw [← h2.length, hw r (by simp)]; exact hn⟩
  · rw [List.getElem?_map, Option.map_eq_some_iff] at e
    obtain ⟨c, e1, rfl⟩ := e
    obtain ⟨hl, e2⟩ := List.getElem?_eq_some_iff.mp e1
    rw [List.getElem_range] at e2
    subst e2
    rw [List.length_range] at hl
    obtain ⟨xs, h1, h2, h3⟩ := tups_col hl ha hw
    refine ⟨⟨xs, h1, h2⟩, fun x H2 ⟨T, xs', hx, hT, hH, hl', hy⟩ => ?_⟩
    subst hH hx
    have exs : xs' = xs := by
      apply List.ext_getElem?
      intro k
      by_cases hk : k < as.length
      · have a1 : as[k]? = some as[k] := List.getElem?_eq_getElem hk
        have x1 : xs[k]? = some xs[k] := List.getElem?_eq_getElem (by omega)
        have x2 : xs'[k]? = some xs'[k] := List.getElem?_eq_getElem (by omega)
        obtain ⟨ys, q1, q2⟩ := h2 k _ _ a1 x1
        have q3 := hy k _ _ ys a1 x2 q1
        rw [q2] at q3
        rw [x1, x2]
        exact q3.symm
      · rw [List.getElem?_eq_none_iff.mpr (by omega), List.getElem?_eq_none_iff.mpr (by omega)]
    subst exs
    exact ⟨ρ1, grw_new hT, R1.new hT, .tup upd_same (Shs.grw (grw_new hT) _ _ h3)⟩
end
section
variable {X : Cx} {Ts : List Addr} {E : XK} {pos p p2 p3 : Pos} {a : Expr} {ta : TEd} {x : Str}
def colsQ (ds : List D) (M : Mem) (Q : List D → (Mem → Prop) → Mem → Prop) : Prop := ∃ (rows : List (List D)) (w : Nat), ds = rows.map D.tup ∧ rows ≠ [] ∧ (∀ r ∈ rows, r.length = w) ∧ rows.length ≤ sizeLine ∧ Q (colsD rows w) (fun _ => True) M
@[simp] def dZipS (te : TEd) : TId := fun S M Q E => te S M (fun d M1 => seqD d M1 fun ds _ M2 => colsQ ds M2 Q) E
theorem qi_zipS (hg : Gl X "zip") (hm : X.mg "zip" = none) (h : QE X Ts E a ta) : QI X Ts E (.Name x p) (.Call (.Name "zip" p2) [.Starred a p3] [] pos) (dZipS ta) := piLe (Zn.pi_zipN hg hm h) fun σ H Rr ⟨ρ, S, M, Qd, Ed, R, sl, q, k, x⟩ => ⟨ρ, S, M, _, Ed, R, sl, q, fun d M1 q1 ρ1 H1 v g1 R1 s1 => by
  cases s1 with
  | @tup a xs ds ha hs =>
    obtain ⟨rows, w, e, hne, hw, hz, q2⟩ := q1
    subst e
    obtain ⟨as, rfl, ht⟩ := tups_of hs
    refine ⟨a, as, rfl, .inl ha, fun e => hne (List.length_eq_zero_iff.mp (by rw [← ht.1, e]; rfl)), by rw [ht.1]; exact hz, fun b hb => ?_, k _ _ _ q2 ρ1 H1 _ g1 R1 (feeds_zipN ht hne hw)⟩
    obtain ⟨j, hj, ej⟩ := List.mem_iff_getElem.mp hb
    obtain ⟨zs, h1, _⟩ := ht.2 j b (rows[j]'(by rw [← ht.1]; exact hj)) (by rw [← ej]; exact List.getElem?_eq_getElem hj) (List.getElem?_eq_getElem (by rw [← ht.1]; exact hj))
    exact ⟨zs, h1⟩
  | @obj i a ea =>
    obtain ⟨ds, em, rows, w, e, hne, hw, hz, q2⟩ := q1
    subst e
    obtain ⟨a', vs, r1, h1, hs⟩ := R1.lst em
    rw [ea] at r1
    cases r1
    obtain ⟨as, rfl, ht⟩ := tups_of hs
    refine ⟨a, as, rfl, .inr (SqL.of h1), fun e => hne (List.length_eq_zero_iff.mp (by rw [← ht.1, e]; rfl)), by rw [ht.1]; exact hz, fun b hb => ?_, k _ _ _ q2 ρ1 H1 _ g1 R1 (feeds_zipN ht hne hw)⟩
    obtain ⟨j, hj, ej⟩ := List.mem_iff_getElem.mp hb
    obtain ⟨zs, h2, _⟩ := ht.2 j b (rows[j]'(by rw [← ht.1]; exact hj)) (by rw [← ej]; exact List.getElem?_eq_getElem hj) (List.getElem?_eq_getElem (by rw [← ht.1]; exact hj))
    exact ⟨zs, h2⟩
  | str z =>
    obtain ⟨rows, w, e, hne, _⟩ := q1
    cases rows with
    | nil => exact absurd rfl hne
    | cons r rows =>
      unfold sgD at e
      cases hz : z.cps.toList with
      | nil => rw [hz] at e; cases e
      | cons c cs => rw [hz] at e; cases e
  | _ => exact q1.elim, x⟩
end
end Dl
set_option Elab.async false
set_option linter.all false
set_option maxRecDepth 100000
set_option maxHeartbeats 4000000
/-! sorting of tuples of ints, of any lengths. -/
namespace Zn
open PySem PySem.Spec PyProof.Rows L2 GxR SrtO
section
variable {prog : Program} {w : World} {A : Around} {E : Value → Shared → Prop} {s : Shared}
/-- two tuples of ints, item by item -/
theorem lexI {b fin : Bool} {Q : Bool → Shared → Prop} {xs ys : List Value} {ns ms : List Int} (i : Nat) (hx : IntsAre xs ns) (hy : IntsAre ys ms) (hf : fin = decide (ns.length < ms.length)) (h : Q (HT.lexLt ns ms) s) : PySem.W.KatLex prog w A b fin Q (xs.zip ys) i s := by
  induction hx generalizing ys ms i with
  | nil =>
    cases hy with
    | nil => exact PySem.W.kat_nil (by rw [hf]; exact h)
    | cons q u hy => exact PySem.W.kat_nil (by rw [hf]; exact h)
  | @cons p t xs ns hx ih =>
    cases hy with
    | nil => exact PySem.W.kat_nil (by rw [hf]; exact h)
    | @cons q u ys ms hy =>
      have hf' : fin = decide (ns.length < ms.length) := by rw [hf]; exact decide_eq_decide.mpr (by simp)
      show PySem.W.KatLex prog w A b fin Q ((Value.int p t, Value.int q u) :: xs.zip ys) i s
      refine PySem.W.kat_cons (wpAny_eqBool_int ?_)
      rw [HT.lexLt_cons] at h
      by_cases e : p = q
      · subst e
        rw [beq_self_eq_true]
        rw [if_pos rfl] at h
        exact PySem.W.kat_yes (ih (i + 1) hy hf' h)
      · rw [show (p == q) = false from beq_eq_false_iff_ne.mpr e]
        rw [if_neg e] at h
        exact PySem.W.kat_no (TS.oneLt_ints _ h)
theorem tup_lt {v u : Value} {ns ms : List Int} {Q : Value → Shared → Prop} (hv : TS.TupInts s.heap v ns) (hw : TS.TupInts s.heap u ms) (hu : A.units < cLine) (h : Q (.bool (HT.lexLt ns ms)) s) : wpAny (model prog w) A (compareOp .Lt v u) Q E s := by
  obtain ⟨a, xs, rfl, tx, ix⟩ := hv
  obtain ⟨b, ys, rfl, ty, iy⟩ := hw
  exact HT.lt_tupInts tx ty ix iy hu h
theorem cmp_gen {v u : Value} {ns ms : List Int} {Q : Bool → Shared → Prop} (hv : TS.TupInts s.heap v ns) (hw : TS.TupInts s.heap u ms) (hu : A.units < cLine) (h : Q (HT.lexLt ns ms) s) : wpAny (model prog w) A (keyLt' general' v u) Q E s := by
  show wpAny (model prog w) A (oneLt' false v u) Q E s
  exact PySem.W.kat_one _ _ (tup_lt hv hw hu h)
theorem cmp_tups {b : Bool} {v u : Value} {ns ms : List Int} {Q : Bool → Shared → Prop} (hv : TS.TupInts s.heap v ns) (hw : TS.TupInts s.heap u ms) (h : Q (HT.lexLt ns ms) s) : wpAny (model prog w) A (keyLt' (tuples' b) v u) Q E s := by
  obtain ⟨a, xs, rfl, ⟨o, ho, hc, n, hd⟩, ix⟩ := hv
  obtain ⟨b', ys, rfl, ⟨o', ho', hc', n', hd'⟩, iy⟩ := hw
  refine PySem.W.kat_lt ho hd ho' hd' (lexI 0 ix iy ?_ h)
  have l1 := ix.length
  have l2 := iy.length
  rw [Array.length_toList] at l1 l2
  rw [l1, l2]
theorem call_ltT {a b : Addr} {xs ys : Array Value} {ns ms : List Int} {Q : Value → Shared → Prop} (tx : IsTup s.heap a xs) (ty : IsTup s.heap b ys) (ix : IntsAre xs.toList ns) (iy : IntsAre ys.toList ms) (h : Q (.bool (HT.lexLt ns ms)) s) : wpAny (model prog w) A (call (.builtin "tuple.__lt__") [.ref a, .ref b]) Q E s := by
  have hT : s.TypeIs (.ref a) "tuple" := tx.typeIs
  obtain ⟨⟨cls, dd, data, sl⟩, ho, hc, n, hd⟩ := tx
  obtain ⟨⟨cls2, dd2, data2, sl2⟩, ho2, hc2, n2, hd2⟩ := ty
  simp only at hc hd hc2 hd2
  subst hc hd hc2 hd2
  refine wpAny_call (codeAny_call_builtin PySem.F.slot_tuple_lt.plain PySem.F.entry_tuple_lt (PySem.F.slot_tuple_lt.check _ _ _ _ _ _ _ _ hT (PySem.F.args_tuple_lt_2 _ _) ?_))
  refine wpAny_mono (HT.tuple_lt_ints a b xs ys n n2 dd dd2 sl sl2 ns ms ix iy prog w _ (wants Q E) s ⟨ho, ho2, h⟩) (fun fin s' q => ?_) fun _ _ z => z
  cases fin with
  | done f => exact q
  | again c => exact q
theorem cmp_one {v u : Value} {ns ms : List Int} {Q : Bool → Shared → Prop} (hv : TS.TupInts s.heap v ns) (hw : TS.TupInts s.heap u ms) (hu : A.units < cLine) (h : Q (HT.lexLt ns ms) s) : wpAny (model prog w) A (keyLt' oneType' v u) Q E s := by
  obtain ⟨a, xs, rfl, tx, ix⟩ := hv
  obtain ⟨b, ys, rfl, ty, iy⟩ := hw
  rw [keyLt'_oneType, oneLt'_eq]
  simp only [if_true]
  refine wpAny_bind (wpAny_cRoomFor hu ?_)
  refine wpAny_bind (wpAny_callSpecialIfBound?_slot (name := Str.ofString "__lt__") tx.typeIs PySem.F.slot_tuple_lt (call_ltT tx ty ix iy ?_))
  exact wpAny_truthy_bool h
/-- the first item of a tuple -/
def fst1 (h : Heap) : Value → Option Value
  | .ref a => match h.get? a with
    | some o => match o.data with
      | .seq xs _ => xs[0]?
      | _ => none
    | none => none
  | _ => none
theorem fst1_at {h : Heap} {v : Value} {ns : List Int} (hv : TS.TupInts h v ns) : (fst1 h v = none ↔ ns = []) ∧ ∀ f, fst1 h v = some f → ∃ n t, f = Value.int n t := by
  obtain ⟨a, xs, rfl, ⟨o, ho, hc, n, hd⟩, ix⟩ := hv
  have e : fst1 h (.ref a) = xs[0]? := by simp only [fst1, ho, hd]
  rw [e]
  have e2 : xs[0]? = xs.toList[0]? := by simp
  rw [e2]
  cases ix' : xs.toList with
  | nil =>
    rw [ix'] at ix
    cases ix
    simp
  | cons y ys =>
    rw [ix'] at ix
    cases ix with
    | cons p t r => exact ⟨by simp, fun f hf => ⟨_, _, (by simpa using hf.symm)⟩⟩
theorem firsts_run {k : Value → List Int} : ∀ (vs : List Value) {Q : List (Option Value) → Shared → Prop}, (∀ v ∈ vs, TS.TupInts s.heap v (k v)) → Q (vs.map (fst1 s.heap)) s → wpAny (model prog w) A (vs.mapM firstOfTuple') Q E s
  | [], Q, _, h => by rw [List.mapM_nil]; exact wpAny_pure h
  | v :: vs, Q, hv, h => by
    obtain ⟨a, xs, e, ⟨o, ho, hc, n, hd⟩, ix⟩ := hv v (by simp)
    subst e
    rw [List.mapM_cons]
    refine wpAny_bind ?_
    rw [PySem.W.kas_first_eq]
    refine wpAny_bind (PySem.W.Looks.here (show PySem.W.Looks (model prog w) s.heap (typeOf (.ref a)) o.cls from (PySem.W.Looks.ld ho).andThen .now) ?_)
    rw [hc, if_neg (by first | decide | simp)]
    refine wpAny_bind (listItems_at ho hd (wpAny_pure ?_))
    refine wpAny_bind (firsts_run vs (fun u hu => hv u (List.mem_cons_of_mem _ hu)) (wpAny_pure ?_))
    have e : fst1 s.heap (.ref a) = xs[0]? := by simp only [fst1, ho, hd]
    rw [List.map_cons, e] at h
    exact h
theorem kat_of {h : Heap} {k : Value → List Int} : ∀ vs : List Value, (∀ v ∈ vs, TS.TupInts h v (k v) ∧ k v ≠ []) → ∃ fs, PySem.W.KatTups h vs fs ∧ fs.length = vs.length ∧ ∀ f, f ∈ fs → ∃ n t, f = Value.int n t
  | [], _ => ⟨[], PySem.W.KatTups.nil, rfl, fun f hf => by simp at hf⟩
  | v :: vs, x => by
    obtain ⟨fs, kk, hl, hi⟩ := kat_of vs fun u hu => x u (List.mem_cons_of_mem _ hu)
    obtain ⟨⟨a, xs, rfl, ⟨o, ho, hc, n, hdt⟩, i⟩, hne⟩ := x v (List.mem_cons_self ..)
    obtain ⟨y, ys, e⟩ : ∃ y ys, xs.toList = y :: ys := by
      cases q : xs.toList with
      | nil =>
        rw [q] at i
        generalize hk : k (Value.ref a) = kk0 at i
        cases i
        exact absurd hk hne
      | cons y ys => exact ⟨y, ys, rfl⟩
    obtain ⟨m, t, hy⟩ := i.all y (by rw [e]; exact List.mem_cons_self ..)
    refine ⟨y :: fs, PySem.W.KatTups.cons ho hc hdt ?_ kk, by simp [hl], ?_⟩
    · have z := congrArg (fun l : List Value => l[0]?) e
      simpa using z
    · intro f hf
      rcases List.mem_cons.mp hf with rfl | hf
      · exact ⟨m, t, hy⟩
      · exact hi f hf
theorem tups_sortable {a : Addr} {vs : List Value} {k : Value → List Int} (h2 : 2 ≤ vs.length) (hu : A.units < cLine) (hv : ∀ v ∈ vs, TS.TupInts s.heap v (k v)) (ha : ∀ v ∈ vs, v ≠ .ref a) : SortableO prog w A s a vs fun v u => HT.lexLt (k v) (k u) := by
  intro h' keep
  have hv' : ∀ v ∈ vs, TS.TupInts h' v (k v) := fun v hm => by
    obtain ⟨b, xs, e, t, i⟩ := hv v hm
    obtain ⟨o, ho, r⟩ := t
    exact ⟨b, xs, e, ⟨o, keep b o (fun z => ha v hm (by rw [e, z])) ho, r⟩, i⟩
  by_cases hall : ∀ v ∈ vs, k v ≠ []
  · obtain ⟨fs, kt, hl, hi⟩ := kat_of (h := h') vs fun v hm => ⟨hv' v hm, hall v hm⟩
    refine ⟨tuples' (Value.type "int" != Value.type "tuple"), fun Q E hq => ?_, fun p q hp hq => ?_⟩
    · refine PySem.W.kat_kind (s := { s with heap := h' }) (T := Value.type "int") kt (by omega) (fun f hf => ?_) rfl hq
      obtain ⟨n, t, rfl⟩ := hi f hf
      exact PySem.W.Looks.of_pure rfl
    · exact cmp_tups (s := { s with heap := h' }) (hv' _ hp) (hv' _ hq) ⟨rfl, rfl⟩
  · have hno : ((vs.map (fst1 h')).toArray.all fun x => x.isSome) = false := by
      obtain ⟨v, hm, he⟩ : ∃ v ∈ vs, k v = [] := Classical.byContradiction fun z => hall fun v hm he => z ⟨v, hm, he⟩
      have := ((fst1_at (hv' v hm)).1).mpr he
      simp only [List.all_toArray, List.all_map]
      exact Bool.eq_false_iff.mpr fun z => by
        have := List.all_eq_true.mp z v hm
        simp_all
    cases h0 : ((vs.map (fst1 h')).toArray[0]?.bind id).isSome with
    | true =>
      refine ⟨general', fun Q E hq => ?_, fun p q hp hq => cmp_gen (s := { s with heap := h' }) (hv' _ hp) (hv' _ hq) hu ⟨rfl, rfl⟩⟩
      rw [kat_kind_eq, List.mapM_toArray, map_eq_pure_bind]
      refine wpAny_bind (wpAny_bind (firsts_run (s := { s with heap := h' }) vs hv' (wpAny_pure ?_)))
      rw [if_neg (by rw [hno]; simp), if_pos h0]
      exact wpAny_pure hq
    | false =>
      refine ⟨oneType', fun Q E hq => ?_, fun p q hp hq => cmp_one (s := { s with heap := h' }) (hv' _ hp) (hv' _ hq) hu ⟨rfl, rfl⟩⟩
      rw [kat_kind_eq, List.mapM_toArray, map_eq_pure_bind]
      refine wpAny_bind (wpAny_bind (firsts_run (s := { s with heap := h' }) vs hv' (wpAny_pure ?_)))
      rw [if_neg (by rw [hno]; simp), if_neg (by rw [h0]; simp)]
      have hT : ∀ v ∈ vs, PySem.W.Looks (model prog w) h' (typeOf v) (Value.type "tuple") := fun v hm => by
        obtain ⟨b, xs, rfl, ⟨o, ho, hc, _⟩, i⟩ := hv' v hm
        have z : PySem.W.Looks (model prog w) h' (typeOf (.ref b)) o.cls := (PySem.W.Looks.ld ho).andThen .now
        rw [hc] at z
        exact z
      rw [oneTypeOnly'_eq, List.mapM_toArray, map_eq_pure_bind]
      refine wpAny_bind (wpAny_bind (wpAny_bind (PySem.W.kas_mapM (r := Value.type "tuple") _ (fun v hm Q' hq' => (hT v hm).here hq') (wpAny_pure ?_))))
      obtain ⟨v1, vr, rfl⟩ : ∃ v1 vr, vs = v1 :: vr := by
        match vs, h2 with
        | v1 :: vr, _ => exact ⟨v1, vr, rfl⟩
      have hall2 : ((List.map (fun _ => Value.type "tuple") (v1 :: vr)).toArray.all fun x => x == Value.type "tuple") = true := by
        simp only [List.all_toArray, List.all_map, List.all_eq_true]
        intro _ _
        rfl
      have h00 : (List.map (fun _ => Value.type "tuple") (v1 :: vr)).toArray[0]? = some (Value.type "tuple") := by simp
      rw [h00]
      simp only [hall2, if_true]
      exact wpAny_pure (wpAny_pure hq)
end
end Zn
set_option Elab.async false
set_option linter.all false
set_option maxRecDepth 100000
set_option maxHeartbeats 4000000
/-! sorted(d), d a dict with tuples of ints as keys. -/
namespace Zn
open PySem PySem.Spec PyProof.Rows L2 GxR SrtO
section
variable {prog : Program} {w : World} {A : Around} {E : Value → Shared → Prop} {s : Shared} {T : String} {r d : Addr} {n : Nat} {P : Nat → Value → Prop} {OK : Heap → Prop}
theorem collect_kdl {Q : List Value → Shared → Prop} (K : PySem.W.KdlSrc prog w T r d n P OK) (hh : A.handled = none) (hok : OK s.heap) (hn : n ≤ sizeLine)
    (hQ : ∀ (h' : Heap) (tk : Nat) (acc : Array Value), (∀ b o, s.heap.get? b = some o → h'.get? b = some o) → s.heap.objs.size < h'.objs.size → ItemsOf P acc n → Q acc.toList { s with heap := h', toks := tk }) : wpAny (model prog w) A (collect (.ref r)) Q E s := by
  have hlt := K.there _ hok
  unfold collect
  refine wpAny_bind (wpAny_runValue (codeAny_builtin F.entry_proto_collect ?_))
  rw [Around.under_plainId F.plain_proto_collect _]
  show wpAny _ A.in1 (newList [] >>= fun l => again (.builtin "list.__iadd__" ⟨[l, .ref r], []⟩)) _ _ s
  refine wpAny_bind (wpAny_newObj_type ?_)
  refine wpAny_pure ⟨plainId_quiet F.plain_list_iadd _, codeAny_builtin F.entry_list_iadd ?_⟩
  rw [Around.under_plainId F.plain_list_iadd _]
  show wpAny _ A.in1 (Builtin.List.listExtendWith (.ref s.heap.objs.size) (.ref r) (.ref s.heap.objs.size)) _ _ _
  have hS : (s.heap.push { cls := .type "list", data := .seq ([] : List Value).toArray }).get? s.heap.objs.size = some { cls := .type "list", data := .seq #[] 0 } := Heap.get?_push_size _ rfl
  refine wpAny_mono (PySem.W.kdl_extend (A := A) (R := fun rr s' => rr = .ok (.ret (.ref s.heap.objs.size)) ∧ ∃ (h' : Heap) (tk : Nat) (acc : Array Value) (c' : Nat), s' = { s with heap := h', toks := tk } ∧
      (∀ b o, s.heap.get? b = some o → h'.get? b = some o) ∧ h'.get? s.heap.objs.size = some { cls := .type "list", dict := none, data := .seq acc c', slots := #[] } ∧ ItemsOf P acc n)
    (s := { s with heap := s.heap.push { cls := .type "list", data := .seq ([] : List Value).toArray } }) K hh (K.keep _ _ hok fun b _ o e => Heap.get?_push_of_some _ e) s.heap.objs.size (Nat.ne_of_gt hlt.1) (Nat.ne_of_gt hlt.2) _ 0 hS
    (fun h' tk acc c' hk e hi => ⟨rfl, h', tk, acc, c', rfl, fun b o q => hk b o (Nat.ne_of_lt (Heap.lt_size q)) (Heap.get?_push_of_some _ q), e, hi⟩) hn) (fun fin s' h => ?_) (fun e s' h => ?_)
  · cases fin with
    | done f =>
      obtain ⟨e, h', tk, acc, c', rfl, hk, hS', hi⟩ := h
      cases e
      show wpAny _ A (load s.heap.objs.size >>= _) _ _ _
      exact wpAny_bind (wpAny_load hS' (wpAny_pure (hQ h' tk acc hk (Heap.lt_size hS') hi)))
    | again c' =>
      refine ⟨h.1, codeAny_mono h.2 fun rr s'' hr' => ?_⟩
      obtain ⟨rfl, h', tk, acc, c', rfl, hk, hS', hi⟩ := hr'
      show wpAny _ A (load s.heap.objs.size >>= _) _ _ _
      exact wpAny_bind (wpAny_load hS' (wpAny_pure (hQ h' tk acc hk (Heap.lt_size hS') hi)))
  · exact absurd h.1 (by simp)
theorem sorted_kdl {vs : List Value} {ltv : Value → Value → Bool} {Q : Value → Shared → Prop} (K : PySem.W.KdlSrc prog w T r d n P OK) (hh : A.handled = none) (hok : OK s.heap) (hn : n ≤ sizeLine) (hP : ∀ acc : Array Value, ItemsOf P acc n → acc.toList = vs) (O : Swo ltv) (hz : vs.length ≤ sizeLine)
    (hS : 2 ≤ vs.length → ∀ (h₁ : Heap) (tk : Nat) (a : Addr), h₁.get? a = some (seqObj "list" vs.toArray 0) → (∀ b o, s.heap.get? b = some o → b ≠ a ∧ h₁.get? b = some o) → SortableO prog w A.in1.in1 { s with heap := h₁, toks := tk } a vs ltv)
    (h : ∀ (out : List Value) (h' : Heap) (tk : Nat) (p : Addr), Srtd ltv out → Stb ltv out vs → (∀ b o, s.heap.get? b = some o → h'.get? b = some o) → s.heap.objs.size ≤ p → (∃ e, h'.get? p = some (seqObj "list" out.toArray e)) → Q (.ref p) { s with heap := h', toks := tk }) :
    wpAny (model prog w) A (call (.builtin "sorted") [.ref r]) Q E s := by
  refine Calls.call_function_entry kind_sorted plain_sorted entry_sorted (args_sorted1 _) ?_
  unfold Builtin.«sorted»
  refine wpAny_bind (m := checkCount "sorted" 1 1 _) (wpAny_pure ?_)
  refine wpAny_bind (collect_kdl K hh hok hn fun h1 tk acc hk hlt hi => ?_)
  rw [hP acc hi]
  refine wpAny_bind (wpAny_newList ?_ hz)
  have hoL : (h1.push (seqObj "list" vs.toArray 0)).get? h1.objs.size = some (seqObj "list" vs.toArray 0) := Heap.get?_push_size _ rfl
  have keep : ∀ b o, s.heap.get? b = some o → b ≠ h1.objs.size ∧ (h1.push (seqObj "list" vs.toArray 0)).get? b = some o := fun b o q => ⟨Nat.ne_of_lt (Heap.lt_size (hk b o q)), Heap.get?_push_of_some _ (hk b o q)⟩
  show wpAny _ _ _ _ _ { s with heap := h1.push (seqObj "list" vs.toArray 0), toks := tk }
  refine wpAny_bind (wpAny_holding (wpAny_call_entry slot_list_sort ⟨_, hoL, rfl⟩ entry_list_sort (list_sort_ord O hoL hz (fun h2 => hS h2 _ tk _ hoL keep) fun out hs hb => ⟨_, rfl, ?_⟩) (args_list_sort _)))
  refine wpAny_pure ⟨_, rfl, h out _ tk _ hs hb (fun b o q => ?_) (Nat.le_of_lt hlt) (sortedHeap_at hoL)⟩
  have q1 := hk b o q
  have hl1 := Heap.lt_size q1
  show (sortedHeap (h1.push (seqObj "list" vs.toArray 0)) h1.objs.size vs out.toArray).get? b = some o
  rw [sortedHeap_old (Nat.ne_of_lt hl1) (by rw [size_push']; exact Nat.lt_succ_of_lt hl1)]
  exact Heap.get?_push_of_some _ q1
end
theorem swo_lex (k : Value → List Int) : Swo fun v u => HT.lexLt (k v) (k u) := by
  have asy : ∀ a b : List Int, HT.lexLt a b = true → HT.lexLt b a = false := by
    intro a
    induction a with
    | nil => intro b; cases b <;> simp [HT.lexLt]
    | cons x xs ih =>
      intro b
      cases b with
      | nil => simp [HT.lexLt]
      | cons y ys =>
        rw [HT.lexLt_cons, HT.lexLt_cons]
        by_cases e : x = y
        · subst e; simpa using ih ys
        · rw [if_neg e, if_neg (Ne.symm e)]
          intro h
          have := of_decide_eq_true h
          exact decide_eq_false (by omega)
  have tr : ∀ a b c : List Int, HT.lexLt b a = false → HT.lexLt c b = false → HT.lexLt c a = false := by
    intro a
    induction a with
    | nil => intro b c; cases c <;> simp [HT.lexLt]
    | cons x xs ih =>
      intro b c h1 h2
      cases b with
      | nil => simp [HT.lexLt] at h1
      | cons y ys =>
        cases c with
        | nil => simp [HT.lexLt] at h2
        | cons z zs =>
          rw [HT.lexLt_cons] at h1 h2 ⊢
          by_cases e1 : y = x
          · subst e1
            rw [if_pos rfl] at h1
            by_cases e2 : z = y
            · subst e2
              rw [if_pos rfl] at h2 ⊢
              exact ih ys zs h1 h2
            · rw [if_neg e2] at h2 ⊢
              exact h2
          · rw [if_neg e1] at h1
            have g1 := of_decide_eq_false h1
            by_cases e2 : z = y
            · subst e2
              rw [if_neg e1]
              exact h1
            · rw [if_neg e2] at h2
              have g2 := of_decide_eq_false h2
              rw [if_neg (by omega)]
              exact decide_eq_false (by omega)
  exact ⟨fun x y => asy _ _, fun x y z => tr _ _ _⟩
end Zn
set_option Elab.async false
set_option linter.all false
set_option maxRecDepth 100000
set_option maxHeartbeats 4000000
namespace Zn
open PySem PySem.Spec PyProof.Rows L2 GxR SrtO
/-- these ints as a key -/
def kI (k : List Int) : List Key := k.map Sum.inl
theorem kI_V (k : List Int) : (kI k).map kV = k.map V.int := by
  unfold kI
  rw [List.map_map]
  rfl
/-- sorted(d): the keys, tuples of ints, in order -/
def rSortDT : List V → Hp → VK → Prop := fun xs H Q => ∃ (d : Addr) (kvs : List (List Key × V)) (ks : List (List Int)), xs = [V.ref d] ∧ Rd H d (.dT kvs) ∧ kvs.map (·.1) = ks.map kI ∧
  ∀ (p : Addr) (bs : List Addr) (ks' : List (List Int)), H p = none → ks'.Perm ks → ks'.Pairwise (fun x y => HT.lexLt y x = false) → Paired (fun b k => H b = some (.tup (k.map V.int))) bs ks' → Q (.ref p) (upd H p (.lst (bs.map V.ref)))
theorem paired_of {α β : Type} {R : α → β → Prop} : ∀ {as : List α} {bs : List β}, as.length = bs.length → (∀ (i : Nat) (a : α) (b : β), as[i]? = some a → bs[i]? = some b → R a b) → Paired R as bs
  | [], [], _, _ => .nil
  | a :: as, b :: bs, hl, h => .cons (h 0 a b rfl rfl) (paired_of (by simpa using hl) fun i x y e1 e2 => h (i + 1) x y (by simpa using e1) (by simpa using e2))
theorem paired_at {α β : Type} {R : α → β → Prop} : ∀ {as : List α} {bs : List β} {i : Nat} {a : α} {b : β}, Paired R as bs → as[i]? = some a → bs[i]? = some b → R a b
  | _, _, 0, _, _, .cons h _, e1, e2 => by cases e1; cases e2; exact h
  | _, _, i + 1, _, _, .cons _ t, e1, e2 => paired_at (i := i) t (by simpa using e1) (by simpa using e2)
variable {X : Cx}
theorem cr_sortDT (hc : X.calm = true) (hu : X.A.units + 64 < cLine) : CallR X (.builtin "sorted") rSortDT := by
  intro pins s σ H xs us Q I r h
  obtain ⟨d, kvs, ks, rfl, hd, hks, q⟩ := h
  obtain rfl := Vals.ref1 r
  obtain ⟨z, hs, xk, pr, o, es, ep, ho, hx, hdt, he, hn⟩ := (show ObjOk X.prog X.w H s.heap d (.dT kvs) from hd.ok I.hok)
  have l1 : es.size = xk.length := size_of_entries he
  have l2 : kvs.length = xk.length := Paired.length pr
  have l3 : kvs.length = ks.length := by
    have := congrArg List.length hks
    simpa using this
  have kt : ∀ (i : Nat) (x : List Key × Addr × Value), xk[i]? = some x → ∃ k, ks[i]? = some k ∧ H x.2.1 = some (.tup (k.map V.int)) := fun i x e => by
    have hi : i < xk.length := (List.getElem?_eq_some_iff.mp e).1
    have e1 : kvs[i]? = some kvs[i] := List.getElem?_eq_getElem (by omega)
    have e2 : ks[i]? = some ks[i] := List.getElem?_eq_getElem (by omega)
    have q1 := paired_at pr e1 e
    have e3 : (kvs.map (·.1))[i]? = (ks.map kI)[i]? := by rw [hks]
    rw [List.getElem?_map, List.getElem?_map, e1, e2] at e3
    have e4 : (kvs[i]).1 = kI ks[i] := Option.some.inj e3
    refine ⟨_, e2, ?_⟩
    have := q1.2.1
    rw [e4, kI_V] at this
    exact this
  obtain ⟨vs, hvs⟩ : ∃ vs, vs = xk.map fun x => Value.ref x.2.1 := ⟨_, rfl⟩
  have hvl : vs.length = ks.length := by rw [hvs, List.length_map]; omega
  have vt : ∀ (i : Nat) (v : Value), vs[i]? = some v → ∃ (b : Addr) (k : List Int), v = .ref b ∧ ks[i]? = some k ∧ H b = some (.tup (k.map V.int)) ∧ TS.TupInts s.heap v k := fun i v e => by
    rw [hvs, List.getElem?_map, Option.map_eq_some_iff] at e
    obtain ⟨x, ex, rfl⟩ := e
    obtain ⟨k, ek, hk⟩ := kt i x ex
    obtain ⟨its, rv, tp, _⟩ := I.tuple (SqT.of hk : SqT X.K H x.2.1 (k.map V.int))
    exact ⟨x.2.1, k, rfl, ek, hk, x.2.1, its.toArray, rfl, tp, by simpa using rv.ints⟩
  have vm : ∀ v ∈ vs, ∃ (b : Addr) (k : List Int), v = .ref b ∧ H b = some (.tup (k.map V.int)) ∧ TS.TupInts s.heap v k := fun v hv => by
    obtain ⟨i, hi⟩ := List.mem_iff_getElem?.mp hv
    obtain ⟨b, k, h1, _, h2, h3⟩ := vt i v hi
    exact ⟨b, k, h1, h2, h3⟩
  have kk : ∀ v ∈ vs, TS.TupInts s.heap v (TS.intsOf s.heap v) := fun v hv => by
    obtain ⟨b, k, _, _, h3⟩ := vm v hv
    rw [h3.ints]
    exact h3
  have hP : ∀ acc : Array Value, ItemsOf (fun i v => ∃ en : DictEntry, es[i]? = some en ∧ v = en.key) acc es.size → acc.toList = vs := fun acc' it => by
    have hl : acc'.toList.length = xk.length := by rw [Array.length_toList, it.1]; exact l1
    rw [hvs]
    apply List.ext_getElem?
    intro j
    rw [List.getElem?_map]
    cases hj : acc'.toList[j]? with
    | none =>
      have h1 := List.getElem?_eq_none_iff.mp hj
      rw [List.getElem?_eq_none (by omega)]
      rfl
    | some v =>
      obtain ⟨en, hen, hv⟩ := it.2 j v (by rw [← Array.getElem?_toList]; exact hj)
      have qe := entry_at he j
      rw [hen] at qe
      cases hb : xk[j]? with
      | none =>
        rw [hb] at qe
        exact nomatch (show some en = none from qe)
      | some b =>
        rw [hb] at qe
        have e2 : en = entryOfKey (tupleKind (mixKind X.prog X.w)) b := Option.some.inj qe
        rw [hv, e2]
        rfl
  have hz2 : vs.length ≤ sizeLine := by omega
  refine sorted_kdl (kdl_raw hs hx hdt) (I.ok.hd hc) ho (by omega) hP (swo_lex (TS.intsOf s.heap)) hz2 (fun h2 h1 tk a ha hk => ?_) fun out h' tk p so sb hk hp hob => ?_
  · refine tups_sortable (s := { s with heap := h1, toks := tk }) h2 (by show X.A.units + 1 + 1 < cLine; omega) (fun v hv => ?_) fun v hv e => ?_
    · obtain ⟨b, ys, e, t, i⟩ := kk v hv
      obtain ⟨ob, hob, rr⟩ := t
      exact ⟨b, ys, e, ⟨ob, (hk b ob hob).2, rr⟩, i⟩
    · obtain ⟨b, ys, e', ⟨ob, hob, _⟩, i⟩ := kk v hv
      rw [e] at e'
      cases e'
      exact (hk _ ob hob).1 rfl
  · obtain ⟨ep', hob⟩ := hob
    have om : ∀ v ∈ out, v ∈ vs := fun v hv => sb.perm.mem_iff.mp hv
    have bo : out = (out.map L2.adO).map Value.ref := L2.ref_map fun v hv => by
      obtain ⟨b, k, e, _⟩ := vm v (om v hv)
      exact ⟨b, e⟩
    have hol : out.length ≤ sizeLine := by rw [sb.perm.length_eq]; exact hz2
    have hn' : H p = none := I.hok.fresh hp
    refine ⟨.ref p, _, I.laid (t' := tk) (o := .lst ((out.map L2.adO).map V.ref)) hk hp ⟨by rw [List.length_map, List.length_map]; exact hol, out, ep', (by have z := L2.vals_refs (out.map L2.adO); rw [← bo] at z; exact z), hob⟩, rfl, q p (out.map L2.adO) (out.map (TS.intsOf s.heap)) hn' ?_ ?_ ?_⟩
    · have e1 : vs.map (TS.intsOf s.heap) = ks := by
        apply List.ext_getElem?
        intro j
        rw [List.getElem?_map]
        cases hj : vs[j]? with
        | none =>
          have := List.getElem?_eq_none_iff.mp hj
          rw [List.getElem?_eq_none (by omega)]
          rfl
        | some v =>
          obtain ⟨b, k, _, ek, _, ht⟩ := vt j v hj
          rw [ek]
          exact congrArg some ht.ints
      have := sb.perm.map (TS.intsOf s.heap)
      rw [e1] at this
      exact this
    · exact List.pairwise_map.mpr so
    · refine paired_of (by simp) fun i b k e1 e2 => ?_
      rw [List.getElem?_map, Option.map_eq_some_iff] at e1 e2
      obtain ⟨v, ev, rfl⟩ := e1
      obtain ⟨v', ev', rfl⟩ := e2
      rw [ev] at ev'
      cases ev'
      obtain ⟨b, k, rfl, hb, ht⟩ := vm v (om v (List.mem_of_getElem? ev))
      rw [ht.ints]
      exact hb
end Zn
set_option Elab.async false
set_option linter.all false
set_option maxRecDepth 100000
set_option maxHeartbeats 4000000
/-! dicts with tuples as keys, by data. -/
namespace Dl
open PySem PySem.Spec PyProof.Rows L2 GxR Gn
def keysD : List D → Option (List Key)
  | [] => some []
  | d :: ds => match keyOf d, keysD ds with
    | some k, some ks => some (k :: ks)
    | _, _ => none
theorem keysD_ints : ∀ ns : List Int, keysD (ns.map D.int) = some (Zn.kI ns)
  | [] => rfl
  | n :: ns => by
    have := keysD_ints ns
    simp [keysD, keyOf, this, Zn.kI]
section
variable {K : PySem.W.Frag} {ρ : Rho} {H : Hp} {Ts : List Addr} {M : Mem}
theorem keysD_shs : ∀ {ds : List D} {vs : List V} {ks : List Key}, keysD ds = some ks → Shs K ρ H ds vs → vs = ks.map kV
  | [], _, ks, e, h => by
    cases h
    cases e
    rfl
  | d :: ds, _, ks, e, h => by
    cases h with
    | cons h1 h2 =>
      unfold keysD at e
      cases e1 : keyOf d with
      | none => rw [e1] at e; cases e
      | some k =>
        cases e2 : keysD ds with
        | none => rw [e1, e2] at e; cases e
        | some ks' =>
          rw [e1, e2] at e
          cases e
          rw [keyOf_sh e1 h1, keysD_shs e2 h2]
          rfl
theorem Rl.dictT (R : Rl K Ts ρ M H) {i : Nat} {ds : List (List Key × D)} (e : M[i]? = some (.dT ds)) : ∃ a vs, ρ i = some a ∧ H a = some (.dT vs) ∧ Shp K ρ H ds vs := by
  obtain ⟨a, o, e1, e2, vs, rfl, h⟩ := R.cell i _ e
  exact ⟨a, vs, e1, e2, h⟩
/-- a tuple as a key -/
theorem tupKey {ds : List D} {ks : List Key} {y : V} (e : keysD ds = some ks) (s : Sh K ρ H (.tup ds) y) : ∃ b, y = .ref b ∧ H b = some (.tup (ks.map kV)) := by
  cases s with
  | tup ha hs => exact ⟨_, rfl, by rw [← keysD_shs e hs]; exact ha⟩
end
section
variable {X : Cx} {Ts : List Addr} {E : XK} {pos p apos tpos cpos : Pos} {a b c e o i f : Expr} {es : List Expr} {ta tb to ti te tx : TEd} {t : TAd}
/-! ### {} -/
@[simp] def dNewT : TEd := fun S M Q E => Q (.obj M.length) (M ++ [.dT []])
@[simp] def dNewK : TEd := fun S M Q E => Q (.obj M.length) (M ++ [.dK []])
theorem qe_newT : QE X Ts E (.Dict [] [] pos) dNewT := peLe pe_dnewT fun σ H Q ⟨ρ, S, M, Qd, Ed, R, sl, q, k, x⟩ p hp =>
  k _ _ q _ _ _ (grw_ext R hp) (R.cellNew hp ⟨[], rfl, .nil⟩) (.obj (by unfold ext; rw [if_pos rfl]))
theorem qe_newK : QE X Ts E (.Dict [] [] pos) dNewK := peLe pe_dnewK fun σ H Q ⟨ρ, S, M, Qd, Ed, R, sl, q, k, x⟩ p hp =>
  k _ _ q _ _ _ (grw_ext R hp) (R.cellNew hp ⟨[], rfl, .nil⟩) (.obj (by unfold ext; rw [if_pos rfl]))
/-! ### d[t] -/
def ixT (x y : D) (M : Mem) (Q : KD) : Prop := ∃ n kvs ds ks v, x = .obj n ∧ M[n]? = some (.dT kvs) ∧ y = .tup ds ∧ keysD ds = some ks ∧ valD kvs ks = some v ∧ Q v M
theorem od_ixT : OpD X Ts rIxDk ixT := fun ρ M H x y v u Q Qd R sx sy ⟨n, kvs, ds, ks, d, ex, em, ey, ek, ev, q⟩ k => by
  subst ex ey
  cases sx with
  | obj ea =>
    obtain ⟨a', vs, r1, h1, t1⟩ := R.dictT em
    rw [ea] at r1; cases r1
    obtain ⟨b, rfl, hb⟩ := tupKey ek sy
    rcases t1.val ks with ⟨z, _⟩ | ⟨d', w, z1, z2, z3⟩
    · rw [ev] at z; cases z
    · rw [ev] at z1; cases z1
      refine ⟨_, w, rfl, ?_, k.same R q z3⟩
      rw [← z2]
      exact DGet.t h1 hb
theorem qe_atT {k : Nat} (hr : Room k X.A) (ha : QE X Ts E a ta) (hb : QE X Ts E b tb) (hs : PlainIx b := by intro _ _; rfl) : QE X Ts E (.Subscript a b pos) (dOp ixT ta tb) := qe_ix (ix_dk (by have := hr.units; omega)) od_ixT ha hb hs
/-! ### d[t] = e -/
@[simp] def setT (x y z : D) (M : Mem) (Q : Mem → Prop) : Prop := ∃ n kvs ds ks, x = .obj n ∧ M[n]? = some (.dT kvs) ∧ y = .tup ds ∧ keysD ds = some ks ∧ kvs.length < sizeLine ∧ Q (M.set n (.dT (putKD kvs ks z)))
@[simp] def dPutT (to ti te : TEd) : TSd := fun D E S M => te S M (fun d M1 => to S M1 (fun x M2 => ti S M2 (fun y M3 => setT x y d M3 (D.nx S)) E) E) E
theorem qs_putT {k : Nat} (hr : Room k X.A) (ho : QE X Ts E o to) (hi : QE X Ts E i ti) (he : QE X Ts E e te) (hs : swapsWithSole [.Subscript o i tpos] e pos.line X.env = pure false := by rfl) (hw : swappedStores [.Subscript o i tpos] e X.env = pure none := by rfl) (h1 : (assignEach [.Subscript o i tpos] X.env).map (·.2) = [assign (.Subscript o i tpos) X.env] := by rfl) :
    (hg : PG X (.Subscript o i tpos) (gSub (rdE X.K Ts E to) (rdE X.K Ts E ti) rSetA)) → QS X Ts E (.Assign [.Subscript o i tpos] e pos) (dPutT to ti te) := fun hg => psLe (ps_asg he hg hs hw h1) fun D σ H ⟨ρ, S, M, Dd, Ed, R, sl, q, k, kr, kb, kc, x⟩ =>
  ⟨ρ, S, M, _, Ed, R, sl, q, fun d M1 q1 ρ1 H1 v g1 R1 s1 => ⟨ρ1, S, M1, _, Ed, R1, sl.grw g1, q1, fun ox M2 q2 ρ2 H2 ov g2 R2 s2 => ⟨ρ2, S, M2, _, Ed, R2, (sl.grw g1).grw g2, q2, fun iy M3 ⟨n, kvs, ds, ks, eo, em, ey, ek, hl, q4⟩ ρ3 H3 iv g3 R3 s3 => by
    subst eo ey
    have sd := Sh.grw g3 _ _ (Sh.grw g2 _ _ s1)
    have sl3 := ((sl.grw g1).grw g2).grw g3
    cases s2 with
    | @obj _ a ea =>
      have ea3 := g3.r _ _ ea
      obtain ⟨a', vs, r1, h1, t1⟩ := R3.dictT em
      rw [ea3] at r1; cases r1
      obtain ⟨b, rfl, hb⟩ := tupKey ek s3
      have hc : CSh X.K ρ3 H3 (.dT (putKD kvs ks d)) (.dT (L2.putK vs ks v)) := ⟨_, rfl, t1.putK sd⟩
      have hlen : kvs.length = vs.length := by
        have := congrArg List.length t1.keys
        simpa using this
      exact .inr ⟨a, _, rfl, DPut.t h1 hb (by rw [← hlen]; exact hl), k _ _ q4 ρ3 _ σ (((g1.tr g2).tr g3).tr (grw_set R3 em ea3)) (R3.cellSet em ea3 hc) (sl3.grw (grw_set R3 em ea3))⟩, (x.grw g1).grw g2⟩, x.grw g1⟩, x⟩
/-! ### t in d -/
def inT (neg : Bool) (y x : D) (M : Mem) (Q : KD) : Prop := ∃ j kvs ds ks, x = .obj j ∧ M[j]? = some (.dT kvs) ∧ y = .tup ds ∧ keysD ds = some ks ∧ Q (.bl (if neg then !(valD kvs ks).isSome else (valD kvs ks).isSome)) M
theorem get_dT {ρ : Rho} {H : Hp} {M : Mem} (R : Rl X.K Ts ρ M H) {j : Nat} {a b : Addr} {kvs : List (List Key × D)} {ks : List Key} (ea : ρ j = some a) (em : M[j]? = some (.dT kvs)) (hb : H b = some (.tup (ks.map kV))) : ∃ o, DGet H a (.ref b) o ∧ (valD kvs ks).isSome = o.isSome := by
  obtain ⟨a', vs, r1, h1, t1⟩ := R.dictT em
  rw [ea] at r1; cases r1
  refine ⟨valV vs ks, DGet.t h1 hb, ?_⟩
  rcases t1.val ks with ⟨z1, z2⟩ | ⟨d, w, z1, z2, _⟩
  · rw [z1, z2]; rfl
  · rw [z1, z2]; rfl
theorem od_inT (neg : Bool) : OpD X Ts (rInDk neg) (inT neg) := fun ρ M H y x v u Q Qd R sy sx ⟨j, kvs, ds, ks, ex, em, ey, ek, q⟩ k => by
  subst ex ey
  cases sx with
  | obj ea =>
    obtain ⟨b, rfl, hb⟩ := tupKey ek sy
    obtain ⟨oo, g, eo⟩ := get_dT R ea em hb
    rw [eo] at q
    exact ⟨_, oo, rfl, g, k.same R q (.bl _)⟩
/-! ### sorted(d) -/
def kyI (k : List Int) : D := .tup (k.map D.int)
def sortTD : List D → Mem → KD → Prop
  | [.obj n], M, Q => ∃ kvs ks, M[n]? = some (.dT kvs) ∧ kvs.map (·.1) = ks.map Zn.kI ∧ ∀ ks' : List (List Int), ks'.Perm ks → ks'.Pairwise (fun x y => HT.lexLt y x = false) → Q (.obj M.length) (M ++ [.lst (ks'.map kyI)])
  | _, _, _ => False
theorem shs_intsI {K : PySem.W.Frag} {ρ : Rho} {H : Hp} : ∀ ns : List Int, Shs K ρ H (ns.map D.int) (ns.map V.int)
  | [] => .nil
  | n :: ns => .cons (.int n) (shs_intsI ns)
theorem shs_keys {K : PySem.W.Frag} {ρ : Rho} {H : Hp} : ∀ {bs : List Addr} {ks : List (List Int)}, Paired (fun b k => H b = some (.tup (k.map V.int))) bs ks → Shs K ρ H (ks.map kyI) (bs.map V.ref)
  | _, _, .nil => .nil
  | _, _, .cons h t => .cons (.tup h (shs_intsI _)) (shs_keys t)
theorem cd_sortT : CallD X Ts Zn.rSortDT sortTD := fun ρ M H ds vs Q Qd R s h k => by
  cases s with
  | nil => exact h.elim
  | cons s1 s2 =>
    cases s2 with
    | cons _ _ => cases s1 <;> exact h.elim
    | nil =>
      cases s1 with
      | @obj n a ea =>
        obtain ⟨kvs, ks, em, hk, q⟩ := h
        obtain ⟨a', vs, r1, h1, t1⟩ := R.dictT em
        rw [ea] at r1; cases r1
        refine ⟨_, vs, ks, rfl, .inl h1, by rw [← t1.keys]; exact hk, fun p bs ks' hp h2 h3 h4 => ?_⟩
        exact k _ _ (q ks' h2 h3) _ _ _ (grw_ext R hp) (R.cellNew hp ⟨_, rfl, shs_keys h4⟩) (.obj (by unfold ext; rw [if_pos rfl]))
      | _ => exact h.elim
/-! ### d.get(t, x) -/
def getT2 (x y z : D) (M : Mem) (Q : KD) : Prop := ∃ n kvs ds ks, x = .obj n ∧ M[n]? = some (.dT kvs) ∧ y = .tup ds ∧ keysD ds = some ks ∧ Q ((valD kvs ks).getD z) M
end
end Dl
set_option Elab.async false
set_option linter.all false
set_option maxRecDepth 100000
set_option maxHeartbeats 4000000
/-! three names at once; stores at tuples. -/
namespace Dl
open PySem PySem.Spec PyProof.Rows L2 GxR Gn
section
variable {X : Cx} {Ts : List Addr} {E : XK} {pos p apos tpos cpos : Pos} {a b c e o i f : Expr} {es : List Expr} {ta tb to ti te tx : TEd} {t : TAd}
@[simp] def dPar3 (i j l : Nat) (t : TAd) : TSd := fun D E S M => t S M (fun ds M1 => ∃ d e f, ds = [d, e, f] ∧ D.nx (((S.set i (some d)).set j (some e)).set l (some f)) M1) E
theorem qs_par3 {i j l : Nat} {x y z : Str} {px py pz pt : Pos} {kt k2 pt2} (hc : X.calm = true) (hN : X.N.Nodup) (hi : X.N[i]? = some x) (hj : X.N[j]? = some y) (hl : X.N[l]? = some z) (hij : i ≠ j) (hil : i ≠ l) (hjl : j ≠ l)
    (hx : X.env.scope.names.lookup x = some .local) (hy : X.env.scope.names.lookup y = some .local) (hz : X.env.scope.names.lookup z = some .local) (ha : QA X Ts E [a, b, c] t)
    (hw : swappedStores [.Tuple [.Name x px, .Name y py, .Name z pz] kt pt] (.Tuple [a, b, c] k2 pt2) X.env = pure (some [x, y, z]))
    (hs : swapsWithSole [.Tuple [.Name x px, .Name y py, .Name z pz] kt pt] (.Tuple [a, b, c] k2 pt2) pos.line X.env = pure false := by rfl) :
    QS X Ts E (.Assign [.Tuple [.Name x px, .Name y py, .Name z pz] kt pt] (.Tuple [a, b, c] k2 pt2) pos) (dPar3 i j l t) := psLe (ps_par3 hc hN hi hj hl hij hil hjl hx hy hz ha hw hs) fun D σ H ⟨ρ, S, M, Dd, Ed, R, sl, q, k, kr, kb, kc, x⟩ =>
  ⟨ρ, S, M, _, Ed, R, sl, q, fun ds M1 ⟨d, e, f, e1, q1⟩ ρ1 H1 vs g1 R1 s1 => by
    subst e1
    cases s1 with
    | cons h1 h2 =>
      cases h2 with
      | cons h2 h3 =>
        cases h3 with
        | cons h3 h4 =>
          cases h4
          exact ⟨_, _, _, rfl, k _ _ q1 ρ1 H1 _ g1 R1 ((((sl.grw g1).set i h1).set j h2).set l h3)⟩, x⟩
theorem qs_putTA {k : Nat} {tpos : Pos} {o i e : Expr} {to ti te : TEd} (hr : Room k X.A) (ho : QE X Ts E o to) (hi : QE X Ts E i ti) (he : QE X Ts E e te) (hs : swapsWithSole [.Subscript o i tpos] e pos.line X.env = pure false := by rfl) (hw : swappedStores [.Subscript o i tpos] e X.env = pure none := by rfl) (h1 : (assignEach [.Subscript o i tpos] X.env).map (·.2) = [assign (.Subscript o i tpos) X.env] := by rfl)
    (ha : ∀ v, assign (.Subscript o i tpos) X.env v = (do
      let ov ← holding [v] (eval o X.env)
      let iv ← holding [v, ov] (eval i X.env)
      standAt tpos
      holding [v, ov, iv] (setItem ov iv v)
      release [v, ov, iv] []) := by intro _; rfl) : QS X Ts E (.Assign [.Subscript o i tpos] e pos) (dPutT to ti te) :=
  qs_putT hr ho hi he hs hw h1 (pg_sub ho hi (set_any (by have := hr.units; omega)) ha)
end
end Dl
set_option Elab.async false
set_option linter.all false
set_option maxRecDepth 100000
set_option maxHeartbeats 4000000
/-! dict(xs) of a list of pairs whose first things are tuples. -/
namespace Zn
open PySem PySem.Spec PyProof.Rows L2 GxR
section
variable {prog : Program} {w : World} {A : Around} {E : Value → Shared → Prop}
def mergedH (acc : List (List Key × Addr × Value)) (rest : List (List Key × Addr × Value)) : List (List Key × Addr × Value) := rest.foldl (fun acc q => storedH acc q.1 q.2.1 q.2.2) acc
theorem storedH_le (acc : List (List Key × Addr × Value)) (k : List Key) (a : Addr) (v : Value) : (storedH acc k a v).length ≤ acc.length + 1 := by
  unfold storedH
  split
  · rw [List.length_map]; omega
  · simp
theorem storedH_lt {N : Nat} {acc : List (List Key × Addr × Value)} {k : List Key} {a : Addr} {v : Value} (h : ∀ x ∈ acc, x.2.1 < N) (ha : a < N) : ∀ x ∈ storedH acc k a v, x.2.1 < N := by
  unfold storedH
  split
  · intro x hx
    obtain ⟨y, hy, rfl⟩ := List.mem_map.mp hx
    have := h y hy
    unfold putAt
    split <;> exact this
  · intro x hx
    rcases List.mem_append.mp hx with hx | hx
    · exact h x hx
    · rw [List.mem_singleton.mp hx]; exact ha
theorem key_keep {h h' : Heap} {k : List Key} {a : Addr} (x : (tupleKind (mixKind prog w)).is h k a) (kp : ∀ o, h.get? a = some o → h'.get? a = some o) : (tupleKind (mixKind prog w)).is h' k a := by
  obtain ⟨o, its, n, h1, h2, h3, h4⟩ := x
  exact ⟨o, its, n, kp o h1, h2, h3, h4⟩
theorem dictH_keep {h h' : Heap} {d : Addr} {xs : List (List Key × Addr × Value)} (x : h.DictOfH (tupleKind (mixKind prog w)) d xs) (kp : ∀ c o, c = d ∨ (∃ y ∈ xs, c = y.2.1) → h.get? c = some o → h'.get? c = some o) : h'.DictOfH (tupleKind (mixKind prog w)) d xs := by
  obtain ⟨o, es, ep, h1, h2, h3, h4, h5, h6⟩ := x
  exact ⟨o, es, ep, kp d o (.inl rfl) h1, h2, h3, h4, fun y hy => key_keep (h5 y hy) fun o e => kp _ o (.inr ⟨y, hy, rfl⟩) e, h6⟩
/-- the walk over the pairs -/
theorem upd_loopT {R : Result → Shared → Prop} {S I l : Addr} {N : Nat} {items : Array Value} {res : Value} (hh : A.handled = none) (hu : A.units + 1 < cLine) (hlN : l < N) (hNS : N ≤ S) (hNI : N ≤ I) (hSI : S ≠ I) :
    ∀ (rest : List (List Key × Addr × Value)) (i : Nat) (acc : List (List Key × Addr × Value)) (ix : Int) (t : Tok) (s : Shared), items.size = i + rest.length → acc.length + rest.length ≤ sizeLine → (∀ x ∈ acc, x.2.1 < N) →
      (∀ (j : Nat) (q : List Key × Addr × Value), rest[j]? = some q → ∃ b : Addr, items[i + j]? = some (.ref b) ∧ b < N ∧ q.2.1 < N ∧ IsTup s.heap b #[.ref q.2.1, q.2.2] ∧ (tupleKind (mixKind prog w)).is s.heap q.1 q.2.1) →
      s.heap.IsListIter I l i → s.heap.IsList l items → s.heap.DictOfH (tupleKind (mixKind prog w)) S acc →
      (∀ h' tk, h'.DictOfH (tupleKind (mixKind prog w)) S (mergedH acc rest) → (∀ b o, b < N → s.heap.get? b = some o → h'.get? b = some o) → R (.ok (.ret res)) { s with heap := h', toks := tk }) →
      codeAny (model prog w) A (.builtin "dict.update.loop" ⟨[.ref S, .ref I, .int ix t, res], []⟩) R s
  | [], i, acc, ix, t, s, hsz, hln, hac, ht, hit, hl, hm, hR => by
    refine codeAny_builtin ud_entry ?_
    rw [Around.under_plainId ud_plain _]
    show wpAny _ A.in1 (pyNext (.ref I) >>= _) _ _ s
    refine wpAny_bind (wpAny_pyNext_list_end (A := A.in1) hh hit hl (by first | exact Array.getElem?_eq_none (Nat.le_of_eq hsz) | (simp at hsz; simp; omega)) fun h' he => ?_)
    show wpAny _ A.in1 (Builtin.Dict.addKeywords S [] >>= _) _ _ _
    refine wpAny_bind (wpAny_pure (wpAny_pure ?_))
    refine hR h' s.toks (dictH_keep hm fun c o hc e => he c o ?_ e) fun b o hb e => he b o (Nat.ne_of_lt (Nat.lt_of_lt_of_le hb hNI)) e
    rcases hc with rfl | ⟨y, hy, rfl⟩
    · exact hSI
    · exact Nat.ne_of_lt (Nat.lt_of_lt_of_le (hac y hy) hNI)
  | q :: rest, i, acc, ix, t, s, hsz, hln, hac, ht, hit, hl, hm, hR => by
    obtain ⟨b, hb, hbN, hqN, htup, hk⟩ := ht 0 q rfl
    rw [List.length_cons] at hsz hln
    refine codeAny_builtin ud_entry ?_
    rw [Around.under_plainId ud_plain _]
    show wpAny _ A.in1 (pyNext (.ref I) >>= _) _ _ s
    refine wpAny_bind (wpAny_pyNext_list_item (x := .ref b) hit hl (by simpa using hb) fun h1 hit1 hs1 => ?_)
    have up1 : ∀ c o, c ≠ I → s.heap.get? c = some o → h1.get? c = some o := fun c o hc e => hs1.extBut c o hc e
    have nI : ∀ c : Addr, c < N → c ≠ I := fun c hc => Nat.ne_of_lt (Nat.lt_of_lt_of_le hc hNI)
    have nS : ∀ c : Addr, c < N → c ≠ S := fun c hc => Nat.ne_of_lt (Nat.lt_of_lt_of_le hc hNS)
    have ht1 : IsTup h1 b #[.ref q.2.1, q.2.2] := htup.extBut hs1.extBut (nI b hbN)
    have hl1 : h1.IsList l items := hl.extBut hs1.extBut (nI l hlN)
    have hm1 : h1.DictOfH (tupleKind (mixKind prog w)) S acc := dictH_keep hm fun c o hc e => up1 c o (by
      rcases hc with rfl | ⟨y, hy, rfl⟩
      · exact hSI
      · exact nI _ (hac y hy)) e
    have hk1 : (tupleKind (mixKind prog w)).is h1 q.1 q.2.1 := key_keep hk fun o e => up1 _ o (nI _ hqN) e
    obtain ⟨o, ho, hc, n, hd⟩ := id ht1
    show wpAny _ A.in1 (holding [Value.ref b] _ >>= _) _ _ _
    refine wpAny_bind (wpAny_holding ?_)
    refine wpAny_bind (wpAny_tryCatch ?_)
    unfold Builtin.Dict.pairItems
    refine wpAny_bind (wpAny_typeOf (T := "tuple") ⟨o, ho, hc⟩ ?_)
    rw [if_pos (by first | decide | rfl | simp)]
    refine wpAny_bind (wpAny_seqItems ho hd (wpAny_pure ?_))
    show wpAny _ A.in1 (holding [.ref q.2.1, q.2.2] (dictSet S (.ref q.2.1) q.2.2)) _ _ _
    refine wpAny_holding (wpAny_dictSet_heap (knd := tupleKind (mixKind prog w)) (k := q.1) (tupleKind_room_in1 hu) hk1 hm1 (fun h2 hm2 hs2 => ?_) (by omega))
    have up2 : ∀ c o, c ≠ S → h1.get? c = some o → h2.get? c = some o := fun c o hc e => hs2.extBut c o hc e
    refine wpAny_pure ⟨plainId_quiet ud_plain _, upd_loopT (items := items) hh hu hlN hNS hNI hSI rest (i + 1) (storedH acc q.1 q.2.1 q.2.2) (ix + 1) 0 _ (show items.size = i + 1 + rest.length by omega) ?_ (storedH_lt hac hqN) (fun j q' e => ?_) ?_ ?_ hm2 fun h' tk hd' k => ?_⟩
    · have z := storedH_le acc q.1 q.2.1 q.2.2
      omega
    · obtain ⟨b', hb', hbN', hqN', htup', hk'⟩ := ht (j + 1) q' (by simpa using e)
      refine ⟨b', ?_, hbN', hqN', (htup'.extBut hs1.extBut (nI _ hbN')).extBut hs2.extBut (nS _ hbN'), key_keep hk' fun o e => up2 _ o (nS _ hqN') (up1 _ o (nI _ hqN') e)⟩
      rw [show i + 1 + j = i + (j + 1) by omega]
      exact hb'
    · exact hit1.at fun o' e => hs2.extBut I o' (Ne.symm hSI) e
    · exact hl1.extBut hs2.extBut (nS l hlN)
    · exact hR h' tk hd' fun c oc h3 e => k c oc h3 (up2 c oc (nS c h3) (up1 c oc (nI c h3) e))
/-- dict(l) of a list of pairs whose first things are tuples -/
theorem call_dict_pairsT {s : Shared} {l : Addr} {ol : Obj} {items : Array Value} {n : Nat} {prs : List (List Key × Addr × Value)} {Q : Value → Shared → Prop} (hh : A.handled = none) (hu : A.units + 64 < cLine) (hl : s.heap.get? l = some ol) (hc : ol.cls = .type "list") (hd : ol.dict = none)
    (hdat : ol.data = .seq items n) (hsz : items.size = prs.length) (hln : prs.length ≤ sizeLine)
    (ht : ∀ (j : Nat) (q : List Key × Addr × Value), prs[j]? = some q → ∃ b : Addr, items[j]? = some (.ref b) ∧ IsTup s.heap b #[.ref q.2.1, q.2.2] ∧ (tupleKind (mixKind prog w)).is s.heap q.1 q.2.1)
    (h : ∀ h' tk, h'.DictOfH (tupleKind (mixKind prog w)) s.heap.objs.size (mergedH [] prs) → (∀ b o, s.heap.get? b = some o → h'.get? b = some o) → Q (.ref s.heap.objs.size) { s with heap := h', toks := tk }) :
    wpAny (model prog w) A (call (.type "dict") [.ref l]) Q E s := by
  refine callType_codes (Q₁ := fun obj s₁ => obj = .ref s.heap.objs.size ∧ s₁ = { s with heap := s.heap.push { cls := .type "dict", data := .dict #[] } }) PySem.F.kt_called_dict (PySem.F.kt_typeCall_dict_1 _) PySem.F.entry_dict_init (kt_code_dict_new _ ⟨rfl, rfl⟩) ?_
  rintro obj s₁ ⟨rfl, rfl⟩
  have hnew : (s.heap.push { cls := .type "dict", data := .dict #[] }).DictOfH (tupleKind (mixKind prog w)) s.heap.objs.size [] := Heap.DictOfH.new s.heap
  have k0 : ∀ b o, s.heap.get? b = some o → (s.heap.push { cls := .type "dict", data := .dict #[] }).get? b = some o := fun b o e => Heap.get?_push_of_some _ e
  have hT : ({ s with heap := s.heap.push { cls := .type "dict", data := .dict #[] } } : Shared).TypeIs (.ref s.heap.objs.size) "dict" := Heap.DictOfH.typeIs (s := { s with heap := s.heap.push { cls := .type "dict", data := .dict #[] } }) hnew
  refine ⟨hT, PySem.F.args_dict_init_2 _ _, ?_⟩
  unfold Builtin.«dict.__init__»
  refine wpAny_bind ?_
  unfold Builtin.Dict.selfAndRest
  refine wpAny_bind (wpAny_notOrdered_dict hT ?_)
  show wpAny _ _ (pure (s.heap.objs.size, [Value.ref l])) _ _ _
  refine wpAny_pure ?_
  show wpAny _ _ (Builtin.Dict.updateFrom "dict.__init__" s.heap.objs.size (.ref l) [] .none) _ _ _
  unfold Builtin.Dict.updateFrom
  refine wpAny_bind (wpAny_typeOf (T := "list") ⟨ol, k0 _ _ hl, hc⟩ ?_)
  rw [if_pos (by first | decide | rfl | simp)]
  refine wpAny_bind (miss_list (k0 _ _ hl) hc hdat hd hh fun h1 tk1 hk1 => ?_)
  rw [if_pos (show (none : Option Value).isNone = true from rfl)]
  refine wpAny_bind (wpAny_rule ?_)
  have hl1 : h1.IsList l items := ⟨ol, hk1 _ _ (k0 _ _ hl), hc, n, hdat⟩
  have hS1 : s.heap.objs.size < h1.objs.size := by
    have e : (s.heap.push { cls := .type "dict", data := .dict #[] }).get? s.heap.objs.size = some { cls := .type "dict", data := .dict #[] } := Heap.get?_push_size _ rfl
    exact Heap.lt_size (hk1 _ _ e)
  refine wpAny_bind (wpAny_pyIter_list hl1 ?_)
  have k2 : ∀ b o, h1.get? b = some o → (h1.push { cls := .type "list_iterator", data := .fields #[.ref l, .int 0 0] }).get? b = some o := fun b o e => Heap.get?_push_of_some _ e
  have hlt : l < s.heap.objs.size := Heap.lt_size hl
  have key := upd_loopT (prog := prog) (w := w) (A := A.in1) (R := wants (fun r s₂ => r = .none ∧ Q (.ref s.heap.objs.size) s₂) E) (S := s.heap.objs.size) (I := h1.objs.size) (l := l) (N := s.heap.objs.size) (items := items) (res := Value.none) hh (by show A.units + 1 + 1 < cLine; omega)
    hlt (Nat.le_refl _) (Nat.le_of_lt hS1) (Nat.ne_of_lt hS1) prs 0 [] 0 0
    { s with heap := h1.push { cls := .type "list_iterator", data := .fields #[.ref l, .int 0 0] }, toks := tk1 } (by rw [hsz, Nat.zero_add]) (by rw [List.length_nil, Nat.zero_add]; exact hln) (fun x hx => by cases hx)
    (fun j q e => by
      obtain ⟨b, e1, e2, e3⟩ := ht j q e
      have hb : b < s.heap.objs.size := e2.lt
      obtain ⟨ok, itk, nk, hok, rk⟩ := id e3
      exact ⟨b, by rw [Nat.zero_add]; exact e1, hb, Heap.lt_size hok, e2.keeps fun c o z => k2 _ _ (hk1 _ _ (k0 _ _ z)), key_keep e3 fun o z => k2 _ _ (hk1 _ _ (k0 _ _ z))⟩)
    ⟨_, Heap.get?_push_size _ rfl, rfl, rfl⟩ (hl1.at fun o e => k2 _ _ e) (dictH_keep hnew fun c o hc e => k2 _ _ (hk1 _ _ e))
    (fun h' tk hd' k => ⟨rfl, h h' tk hd' fun b o e => k b o (Heap.lt_size e) (k2 _ _ (hk1 _ _ (k0 _ _ e)))⟩)
  first
    | exact wpAny_pure ⟨plainId_quiet ud_plain _, key⟩
    | exact wpAny_bind (wpAny_pure (wpAny_pure ⟨plainId_quiet ud_plain _, key⟩))
end
/-- a dict made of pairs, later ones win -/
def mergeT (acc kvs : List (List Key × V)) : List (List Key × V) := kvs.foldl (fun acc q => putK acc q.1 q.2) acc
theorem mergeT_le : ∀ (kvs acc : List (List Key × V)), (mergeT acc kvs).length ≤ acc.length + kvs.length
  | [], acc => by simp [mergeT]
  | q :: kvs, acc => by
    have h1 := mergeT_le kvs (putK acc q.1 q.2)
    have h2 := length_putK acc q.1 q.2
    show (mergeT (putK acc q.1 q.2) kvs).length ≤ _
    simp only [List.length_cons]
    omega
/-- the pairs as they stand in the heap -/
theorem mergeT_kt {H : Hp} : ∀ (kvs acc : List (List Key × V)) (prs acc' : List (List Key × Addr × Value)), KT H kvs prs → KT H acc acc' → KT H (mergeT acc kvs) (mergedH acc' prs)
  | [], acc, prs, acc', h, h' => by
    cases h
    exact h'
  | q :: kvs, acc, prs, acc', h, h' => by
    cases h with
    | @cons _ p _ ps h t =>
      obtain ⟨k, v⟩ := q
      obtain ⟨k', b, u⟩ := p
      obtain ⟨e1, e2, e3⟩ := h
      simp only at e1 e2 e3
      subst e1
      exact mergeT_kt kvs _ ps _ t (KT.put h' k e2 e3)
section
variable {X : Cx}
theorem pairs_ofT {pins : List (Addr × Obj)} {σ : L2.St} {H : Hp} {s : Shared} (I : Inv X pins σ H s) : ∀ {ps : List Addr} {kvs : List (List Key × V)}, Paired (fun p kv => ∃ b, H p = some (.tup [.ref b, kv.2]) ∧ H b = some (.tup (kv.1.map kV))) ps kvs →
    ∃ prs : List (List Key × Addr × Value), KT H kvs prs ∧ prs.length = ps.length ∧ ∀ (j : Nat) (q : List Key × Addr × Value), prs[j]? = some q → ∃ p : Addr, ps[j]? = some p ∧ IsTup s.heap p #[.ref q.2.1, q.2.2] ∧ (tupleKind (mixKind X.prog X.w)).is s.heap q.1 q.2.1
  | _, _, .nil => ⟨[], .nil, rfl, fun j q e => by simp at e⟩
  | _, _, .cons (a := p) (b := kv) h t => by
    obtain ⟨prs, r, hl, hp⟩ := pairs_ofT I t
    obtain ⟨b, h1, h2⟩ := h
    obtain ⟨its, rv, ht, _⟩ := I.tuple (SqT.of h1 : SqT X.K H p [.ref b, kv.2])
    obtain ⟨u, y, ei, ru, ry⟩ := vals2 rv
    subst ei
    cases ru
    refine ⟨(kv.1, b, y) :: prs, .cons ⟨rfl, h2, ry⟩ r, by rw [List.length_cons, List.length_cons, hl], fun j q e => ?_⟩
    cases j with
    | zero =>
      have e' : (kv.1, b, y) = q := Option.some.inj e
      subst e'
      exact ⟨p, rfl, ht, key_of I.hok h2⟩
    | succ j =>
      obtain ⟨p', e1, e2, e3⟩ := hp j q (by simpa using e)
      exact ⟨p', by simpa using e1, e2, e3⟩
theorem call_dictPT (hc : X.calm = true) (hu : X.A.units + 64 < cLine) : CallR X (.type "dict") (fun xs H Q => ∃ (a : Addr) (ps : List Addr) (kvs : List (List Key × V)), xs = [.ref a] ∧ SqL X.K H a (ps.map V.ref) ∧
    Paired (fun p kv => ∃ b, H p = some (.tup [.ref b, kv.2]) ∧ H b = some (.tup (kv.1.map kV))) ps kvs ∧ ∀ p, H p = none → Q (.ref p) (upd H p (.dT (mergeT [] kvs)))) := by
  intro pins s σ H xs us Q I r q
  obtain ⟨a, ps, kvs, ex, hq, hp, q⟩ := q
  subst ex
  obtain ⟨u, eu, rx⟩ := vals1 r
  subst eu
  cases rx
  obtain ⟨its, rv, pl, hz⟩ := I.list hq
  have ei := refs_at rv
  subst ei
  rw [List.length_map] at hz
  obtain ⟨prs, rel, hl, hpr⟩ := pairs_ofT I hp
  obtain ⟨o, n, ho, hcl, hd, hdat⟩ := pl
  refine call_dict_pairsT (prs := prs) (I.ok.hd hc) hu ho hcl hd hdat (by simp [hl]) (by rw [hl]; exact hz) (fun j q' e => ?_) fun h' tk hd' k => ?_
  · obtain ⟨b, e1, e2, e3⟩ := hpr j q' e
    exact ⟨b, by simp [e1], e2, e3⟩
  · have hm : (s.heap.objs.size == sysModules) = false := beq_eq_false_iff_ne.mpr (Nat.ne_of_gt I.big)
    have hkl : kvs.length = prs.length := Paired.length rel
    have hlen : (mergeT [] kvs).length ≤ sizeLine := by
      have := mergeT_le kvs []
      simp only [List.length_nil] at this
      omega
    have hn := I.hok.fresh (Nat.le_refl s.heap.objs.size)
    obtain ⟨od, es, ep, hod, h2, h3, h4, _, h5⟩ := hd'
    have kt := mergeT_kt kvs [] prs [] rel .nil
    refine ⟨.ref s.heap.objs.size, upd H s.heap.objs.size (.dT (mergeT [] kvs)), I.laid (t' := tk) k (Nat.le_refl _) (show ObjOk X.prog X.w _ _ _ (.dT (mergeT [] kvs)) from ⟨hlen, hm, _, KT.keeps kt fun c ys ec => ?_, od, es, ep, hod, h2, h3, h4, h5⟩), rfl, q _ hn⟩
    rw [upd_ne (ne_of_none ec hn)]
    exact ec
end
/-! ### d.pop(t), there -/
end Zn
set_option Elab.async false
set_option linter.all false
set_option maxRecDepth 100000
set_option maxHeartbeats 4000000
namespace Zn
open PySem PySem.Spec PyProof.Rows L2 GxR
section
variable {X : Cx} {o e : Expr} {apos cpos : Pos} {td ty : TE}
/-- d.pop(t), there -/
theorem d_popT {pins : List (Addr × Obj)} {σ : L2.St} {H : Hp} {s : Shared} {a b : Addr} {kvs : List (List Key × V)} {k : List Key} {v : V} {A : Around} {E : Value → Shared → Prop} {Q : Value → Shared → Prop} (hu : A.units + 1 < cLine) (I : Inv X pins σ H s) (ha : H a = some (.dT kvs)) (hb : H b = some (.tup (k.map kV))) (l : valV kvs k = some v)
    (h : ∀ w' s', Inv X pins σ (upd H a (.dT (dropK kvs k))) s' → RelV v w' → Q w' s') : wpAny (model X.prog X.w) A (call (.builtin "dict.pop") [.ref a, .ref b]) Q E s := by
  obtain ⟨z, hd, xs', rel, dd⟩ := dt_of I.hok ha
  have hz : xs'.length ≤ sizeLine := by rw [← Paired.length rel]; exact z
  have r := rel.val k
  rw [l] at r
  cases hp : atKey xs' k with
  | none => rw [hp] at r; exact (show False from r).elim
  | some p =>
    rw [hp] at r
    refine call_pop_heap (more := []) (.inl rfl) (PySem.F.args_dict_pop_2 _ _) (tupleKind_room_in1 hu) (key_of I.hok hb) hd dd hp (fun h' dd' hs => ?_) hz
    obtain ⟨o, es, ep, hq, h2, h3, h4, _, h5⟩ := dd'
    refine h p.2 _ (d_write I (by rw [ha]; exact True.intro) hs ⟨o, hq⟩ ⟨Nat.le_trans (dropK_le kvs k) z, hd, _, (L2.DX.KT_drop k rel).keeps (fun c ys ec => (by rw [upd_ne (ne_of ec ha (fun z => nomatch z))]; exact ec)), o, es, ep, hq, h2, h3, h4, h5⟩) r
def tDPopT (td ty : TE) : TE := fun σ H Q => td σ H fun x H1 => ∃ a, x = .ref a ∧ IsD H1 a ∧ ty σ H1 fun y H2 => ∃ kvs k b v, H2 a = some (.dT kvs) ∧ y = .ref b ∧ H2 b = some (.tup (k.map kV)) ∧ valV kvs k = some v ∧ Q v (upd H2 a (.dT (dropK kvs k)))
theorem pe_dpopT (hu : X.A.units + 1 < cLine) (ho : PE X o td) (he : PE X e ty) (m : M1 X o "pop" apos e cpos) : PE X (.Call (.Attribute o "pop" apos) [e] [] cpos) (tDPopT td ty) := by
  refine ⟨fun pins s σ H Q I h => ?_⟩
  refine wpAny_Call_method m.base m.few m.line PySem.F.plainAttrs_dict PySem.F.slot_dict_pop PySem.F.type_dict_pop (thn (ho.run pins s σ H _ I h) fun u s1 ⟨x, H1, I1, rx, a, ex, d, q1⟩ => ?_)
  subst ex
  obtain rfl : u = Value.ref a := rx
  obtain ⟨t1, t2, _⟩ := isD_at I1 d
  refine ⟨t1, t2, ?_⟩
  rw [m.trees]
  refine Calls.callWith_builtin rfl (Calls.evalArgs_plain (Calls.spliced_cons (thn (he.run pins s1 σ H1 _ I1 q1) fun iv s2 ⟨y, H2, I2, ry, kvs, k, b, v, ea, ey, eb, l, q2⟩ => Calls.spliced_nil ?_)))
  subst ey
  cases ry
  exact d_popT hu I2 ea eb l fun w' s3 I3 rw' => ⟨v, _, I3, rw', q2⟩
end
end Zn
set_option Elab.async false
set_option linter.all false
set_option maxRecDepth 100000
set_option maxHeartbeats 4000000
/-! dicts with tuples as keys: get, pop, dict(pairs). -/
namespace Dl
open PySem PySem.Spec PyProof.Rows L2 GxR Gn
def dropKD {κ : Type} [DecidableEq κ] (kvs : List (κ × D)) (k : κ) : List (κ × D) := kvs.filter fun kv => decide (kv.1 ≠ k)
theorem Shp.dropK {κ : Type} [DecidableEq κ] {K : PySem.W.Frag} {ρ : Rho} {H : Hp} {ds : List (κ × D)} {vs : List (κ × V)} (h : Shp K ρ H ds vs) (k : κ) : Shp K ρ H (dropKD ds k) (L2.dropK vs k) := by
  induction h with
  | nil => exact .nil
  | @cons k' d ds v vs h1 _ ih =>
    unfold dropKD L2.dropK at ih ⊢
    rw [List.filter_cons, List.filter_cons]
    by_cases e : k' = k
    · simp only [e, ne_eq, not_true_eq_false, decide_false, Bool.false_eq_true, if_false]
      exact ih
    · simp only [ne_eq, e, not_false_eq_true, decide_true, if_true]
      exact .cons h1 ih
section
variable {X : Cx} {Ts : List Addr} {E : XK} {pos p apos tpos cpos : Pos} {a b c e o i f : Expr} {es : List Expr} {ta tb to ti te ty tz : TEd} {t : TAd}
/-- d.get(t, x) -/
@[simp] def dGetT (to ty tz : TEd) : TEd := fun S M Q E => to S M (fun x M1 => ∃ n kvs, x = .obj n ∧ M1[n]? = some (.dT kvs) ∧ ty S M1 (fun y M2 => tz S M2 (fun z M3 => getT2 x y z M3 Q) E) E) E
theorem qe_getT {k : Nat} (hr : Room k X.A) (ho : QE X Ts E o to) (he : QE X Ts E e ty) (hf : QE X Ts E f tz) (m : M2 X o "get" apos e f cpos) : QE X Ts E (.Call (.Attribute o "get" apos) [e, f] [] cpos) (dGetT to ty tz) :=
  peLe (pe_dget2 (by have := hr.units; omega) ho he hf m) fun σ H Q ⟨ρ, S, M, Qd, Ed, R, sl, q, k, x⟩ =>
  ⟨ρ, S, M, _, Ed, R, sl, q, fun d M1 ⟨n, kvs, ed, em, q1⟩ ρ1 H1 v g1 R1 s1 => by
    subst ed
    cases s1 with
    | @obj _ a ea =>
      obtain ⟨a', vs, r1, h1, t1⟩ := R1.dictT em
      rw [ea] at r1; cases r1
      refine ⟨_, rfl, .inr ⟨vs, .inl h1⟩, ρ1, S, M1, _, Ed, R1, sl.grw g1, q1, fun y M2 q2 ρ2 H2 yv g2 R2 s2 => ⟨ρ2, S, M2, _, Ed, R2, (sl.grw g1).grw g2, q2, fun z M3 q3 ρ3 H3 zv g3 R3 s3 => ?_, (x.grw g1).grw g2⟩, x.grw g1⟩
      obtain ⟨n', kvs', ds, ks, e1, e2, e3, e4, q4⟩ := q3
      cases e1
      subst e3
      have ea3 := g3.r _ _ (g2.r _ _ ea)
      obtain ⟨b, rfl, hb⟩ := tupKey e4 (Sh.grw g3 _ _ s2)
      obtain ⟨a2, vs2, r2, h2, t2⟩ := R3.dictT e2
      rw [ea3] at r2; cases r2
      refine ⟨valV vs2 ks, DGet.t h2 hb, ?_⟩
      rcases t2.val ks with ⟨z1, z2⟩ | ⟨d', w, z1, z2, z3⟩
      · rw [z1] at q4
        rw [z2]
        exact k _ _ q4 ρ3 H3 _ ((g1.tr g2).tr g3) R3 s3
      · rw [z1] at q4
        rw [z2]
        exact k _ _ q4 ρ3 H3 _ ((g1.tr g2).tr g3) R3 z3, x⟩
/-- d.pop(t), there -/
@[simp] def dPopT (to ty : TEd) : TEd := fun S M Q E => to S M (fun x M1 => ∃ n kvs, x = .obj n ∧ M1[n]? = some (.dT kvs) ∧ ty S M1 (fun y M2 => ∃ kvs2 ds ks v, M2[n]? = some (.dT kvs2) ∧ y = .tup ds ∧ keysD ds = some ks ∧ valD kvs2 ks = some v ∧ Q v (M2.set n (.dT (dropKD kvs2 ks)))) E) E
theorem qe_popT {k : Nat} (hr : Room k X.A) (ho : QE X Ts E o to) (he : QE X Ts E e ty) (m : M1 X o "pop" apos e cpos) : QE X Ts E (.Call (.Attribute o "pop" apos) [e] [] cpos) (dPopT to ty) :=
  peLe (Zn.pe_dpopT (by have := hr.units; omega) ho he m) fun σ H Q ⟨ρ, S, M, Qd, Ed, R, sl, q, k, x⟩ =>
  ⟨ρ, S, M, _, Ed, R, sl, q, fun d M1 ⟨n, kvs, ed, em, q1⟩ ρ1 H1 v g1 R1 s1 => by
    subst ed
    cases s1 with
    | @obj _ a ea =>
      obtain ⟨a', vs, r1, h1, t1⟩ := R1.dictT em
      rw [ea] at r1; cases r1
      refine ⟨_, rfl, .inr ⟨vs, .inl h1⟩, ρ1, S, M1, _, Ed, R1, sl.grw g1, q1, fun y M2 ⟨kvs2, ds, ks, vv, e2, e3, e4, e5, q4⟩ ρ2 H2 yv g2 R2 s2 => ?_, x.grw g1⟩
      subst e3
      have ea2 := g2.r _ _ ea
      obtain ⟨b, rfl, hb⟩ := tupKey e4 s2
      obtain ⟨a2, vs2, r2, h2, t2⟩ := R2.dictT e2
      rw [ea2] at r2; cases r2
      rcases t2.val ks with ⟨z1, z2⟩ | ⟨d', w, z1, z2, z3⟩
      · rw [e5] at z1; cases z1
      · rw [e5] at z1; cases z1
        have hc : CSh X.K ρ2 H2 (.dT (dropKD kvs2 ks)) (.dT (L2.dropK vs2 ks)) := ⟨_, rfl, t2.dropK ks⟩
        exact ⟨vs2, ks, b, w, h2, rfl, hb, z2, k _ _ q4 ρ2 _ _ ((g1.tr g2).tr (grw_set R2 e2 ea2)) (R2.cellSet e2 ea2 hc) (Sh.grw (grw_set R2 e2 ea2) _ _ z3)⟩, x⟩
/-- dict(xs) of a list of pairs (tuple, value) -/
def pairsT : List D → Option (List (List Key × D))
  | [] => some []
  | .tup [.tup ds, d] :: r => match keysD ds, pairsT r with
    | some ks, some kvs => some ((ks, d) :: kvs)
    | _, _ => none
  | _ :: _ => none
def mergeTD (acc kvs : List (List Key × D)) : List (List Key × D) := kvs.foldl (fun acc q => putKD acc q.1 q.2) acc
theorem merge_shT {K : PySem.W.Frag} {ρ : Rho} {H : Hp} {ds : List (List Key × D)} {vs : List (List Key × V)} (h : Shp K ρ H ds vs) : ∀ {acc : List (List Key × D)} {acc' : List (List Key × V)}, Shp K ρ H acc acc' → Shp K ρ H (mergeTD acc ds) (Zn.mergeT acc' vs) := by
  induction h with
  | nil => exact fun h => h
  | cons h1 _ ih => exact fun h => ih (h.putK h1)
theorem pairs_shT {K : PySem.W.Frag} {ρ : Rho} {H : Hp} : ∀ {ds : List D} {vs : List V} {kvs : List (List Key × D)}, pairsT ds = some kvs → Shs K ρ H ds vs → ∃ (ps : List Addr) (ws : List (List Key × V)), vs = ps.map V.ref ∧ Paired (fun p kv => ∃ b, H p = some (.tup [.ref b, kv.2]) ∧ H b = some (.tup (kv.1.map kV))) ps ws ∧ Shp K ρ H kvs ws
  | [], _, kvs, e, h => by
    cases h
    cases e
    exact ⟨[], [], rfl, .nil, .nil⟩
  | d :: ds, _, kvs, e, h => by
    cases h with
    | cons h1 h2 =>
      unfold pairsT at e
      split at e
      · rename_i ha
        cases ha
      · rename_i ks0 d0 r ha
        cases ha
        cases e1 : keysD ks0 with
        | none => rw [e1] at e; cases e
        | some ks =>
          cases e2 : pairsT ds with
          | none => rw [e1, e2] at e; cases e
          | some kv2 =>
            rw [e1, e2] at e
            cases e
            obtain ⟨ps, ws, rfl, hp, hs⟩ := pairs_shT e2 h2
            cases h1 with
            | tup hq hqs =>
              cases hqs with
              | cons g1 g2 =>
                cases g2 with
                | cons g2 g3 =>
                  cases g3
                  obtain ⟨b, rfl, hb⟩ := tupKey e1 g1
                  exact ⟨_ :: ps, (ks, _) :: ws, rfl, .cons ⟨b, hq, hb⟩ hp, .cons g2 hs⟩
      · cases e
def dictTD : List D → Mem → KD → Prop
  | [.obj n], M, Q => ∃ ds kvs, M[n]? = some (.lst ds) ∧ pairsT ds = some kvs ∧ Q (.obj M.length) (M ++ [.dT (mergeTD [] kvs)])
  | _, _, _ => False
theorem cd_dictT : CallD X Ts (fun xs H Q => ∃ (a : Addr) (ps : List Addr) (kvs : List (List Key × V)), xs = [.ref a] ∧ SqL X.K H a (ps.map V.ref) ∧
    Paired (fun p kv => ∃ b, H p = some (.tup [.ref b, kv.2]) ∧ H b = some (.tup (kv.1.map kV))) ps kvs ∧ ∀ p, H p = none → Q (.ref p) (upd H p (.dT (Zn.mergeT [] kvs)))) dictTD := fun ρ M H ds vs Q Qd R s h k => by
  cases s with
  | nil => exact h.elim
  | cons s1 s2 =>
    cases s2 with
    | cons _ _ => cases s1 <;> exact h.elim
    | nil =>
      cases s1 with
      | @obj n a ea =>
        obtain ⟨es, kvs, em, hk, q⟩ := h
        obtain ⟨a', vs, r1, h1, t1⟩ := R.lst em
        rw [ea] at r1; cases r1
        obtain ⟨ps, ws, rfl, hp, hs⟩ := pairs_shT hk t1
        exact ⟨_, ps, ws, rfl, SqL.of h1, hp, fun p hpn => k _ _ q _ _ _ (grw_ext R hpn) (R.cellNew hpn ⟨_, rfl, merge_shT hs .nil⟩) (.obj (by unfold ext; rw [if_pos rfl]))⟩
      | _ => exact h.elim
theorem cr_sortTR {k : Nat} (hr : Room k X.A) (hc : X.calm = true) : CallR X (.builtin "sorted") Zn.rSortDT := Zn.cr_sortDT hc (by have := hr.units; omega)
theorem op_inTR {k : Nat} (hr : Room k X.A) : OpR X (compareOp .In) (rInDk false) := op_inDk (by have := hr.units; omega)
theorem op_notInTR {k : Nat} (hr : Room k X.A) : OpR X (compareOp .NotIn) (rInDk true) := op_notInDk (by have := hr.units; omega)
theorem call_dictTR {k : Nat} (hr : Room k X.A) (hc : X.calm = true) : CallR X (.type "dict") (fun xs H Q => ∃ (a : Addr) (ps : List Addr) (kvs : List (List Key × V)), xs = [.ref a] ∧ SqL X.K H a (ps.map V.ref) ∧
    Paired (fun p kv => ∃ b, H p = some (.tup [.ref b, kv.2]) ∧ H b = some (.tup (kv.1.map kV))) ps kvs ∧ ∀ p, H p = none → Q (.ref p) (upd H p (.dT (Zn.mergeT [] kvs)))) := Zn.call_dictPT hc (by have := hr.units; omega)
theorem bt_dict : bootBuiltins "dict" = some (.type "dict") := by decide +kernel
end
end Dl
set_option Elab.async false
set_option linter.all false
set_option maxRecDepth 100000
set_option maxHeartbeats 4000000
/-! for at, (x, y) in enumerate(zip(t, u)), by data; tuples of any lengths. -/
namespace Dl
open PySem PySem.Spec PyProof.Rows L2 GxR Gn
def capIt (J : It) (n : Nat) : It := ⟨fun i H => i < n ∧ J.go i H, J.yld, fun i H => n ≤ i ∧ J.stop n H⟩
theorem turn_cap {P : Program} {w : World} {K : PySem.W.Frag} {tg : Expr} {J : It} {fp : List Addr} {it : Addr} {tn : Nat → Heap → Prop} (T : Turn P w K tg J fp it tn) (n : Nat) : Turn P w K tg (capIt J n) fp it (fun i h => tn i h ∧ i ≤ n) where
  mem := T.mem
  obj := fun i h st => T.obj i h st.1
  keep := fun i h h' st k => ⟨T.keep i h h' st.1 k, st.2⟩
  item := fun X h1 h2 h3 h4 i pins s σ H E I hf st hg => thn (T.item X h1 h2 h3 h4 i pins s σ H E I hf st.1 hg.2) fun r s1 ⟨u, e, q⟩ => ⟨u, e, thn q fun _ s2 ⟨x, H', a, b, c, d, e⟩ => ⟨x, H', a, b, c, ⟨d, hg.1⟩, e⟩⟩
  done := fun X h1 h2 h3 h4 i pins s σ H E I hf st hg => by
    have : i = n := Nat.le_antisymm st.2 hg.1
    subst this
    exact T.done X h1 h2 h3 h4 i pins s σ H E I hf st.1 hg.2
  self := fun A i s Q E st h => T.self A i s Q E st.1 h
theorem pi_cap {X : Cx} {tg iter : Expr} {wi : TI} (h : PI X tg iter wi) : PI X tg iter (fun σ H R => wi σ H fun J H' => ∃ n, R (capIt J n) H') := ⟨fun pins s σ H R I q => thn (h.run pins s σ H _ I q) fun v s1 q1 => thn q1 fun v2 s2 ⟨it, fp, tn, J, H', e, I', T, t0, f, n, r⟩ =>
  ⟨it, fp, _, capIt J n, H', e, I', turn_cap T n, ⟨t0, Nat.zero_le _⟩, f, r⟩⟩
section
variable {K : PySem.W.Frag} {Ts : List Addr} {ρ : Rho} {M : Mem} {H : Hp}
theorem zipD_len (ds es : List D) : (zipD ds es).length = min ds.length es.length := by
  unfold zipD
  rw [List.length_zipWith]
theorem feeds_ez {a b : Addr} {ds es : List D} {vs ws : List V} (ha : SqT K H a vs) (hs : Shs K ρ H ds vs) (hb : SqT K H b ws) (ht : Shs K ρ H es ws) : Feeds K Ts ρ H (capIt (Zn.ItEZ K a b) (min ds.length es.length)) (enumD (zipD ds es)) (fun _ => True) := fun ρ1 M1 H1 g1 R1 _ n => by
  have ha := SqT.grw g1 ha
  have hs := Shs.grw g1 _ _ hs
  have hb := SqT.grw g1 hb
  have ht := Shs.grw g1 _ _ ht
  have l1 := hs.length
  have l2 := ht.length
  refine ⟨fun e => ⟨?_, vs, ws, ha, hb, ?_, ?_, ?_⟩, fun d e => ?_⟩
  · have := enumD_none e
    rw [zipD_len] at this
    exact this
  · rw [← l1]; exact Nat.min_le_left _ _
  · rw [← l2]; exact Nat.min_le_right _ _
  · rw [← l1, ← l2]; omega
  obtain ⟨p, e0, rfl⟩ := enumD_at e
  obtain ⟨x1, y1, e1, e2, rfl⟩ := zipD_at e0
  obtain ⟨v, e3, s3⟩ := hs.getD e1
  obtain ⟨w, e4, s4⟩ := ht.getD e2
  have n1 := (List.getElem?_eq_some_iff.mp e1).1
  have n2 := (List.getElem?_eq_some_iff.mp e2).1
  refine ⟨⟨Nat.lt_min.mpr ⟨n1, n2⟩, vs, ws, v, w, ha, hb, e3, e4⟩, fun x H2 ⟨T2, T1, y, z, hx, hT1, hT2, hne, hH, hy, hz⟩ => ?_⟩
  subst hH hx
  have q1 := hy vs ha
  rw [e3] at q1
  cases q1
  have q2 := hz ws hb
  rw [e4] at q2
  cases q2
  obtain ⟨ρ2, g2, R2, s2⟩ := newPair R1 hT1 s3 s4
  have hT3 : upd H1 T1 (.tup [v, w]) T2 = none := by rw [upd_ne (Ne.symm hne)]; exact hT2
  obtain ⟨ρ3, g3, R3, s5⟩ := newPair R2 hT3 (.int (n : Nat)) s2
  exact ⟨ρ3, g2.tr g3, R3, s5⟩
end
section
variable {X : Cx} {Ts : List Addr} {E : XK} {pos pos2 p p2 tpos : Pos} {a b : Expr} {t : TAd} {elts : List Expr} {kk : Nat}
@[simp] def dEnumZ (t : TAd) : TId := fun S M Q E => t S M (fun ds M1 => ∃ xs ys, ds = [.tup xs, .tup ys] ∧ Q (enumD (zipD xs ys)) (fun _ => True) M1) E
theorem qi_enumZ (hg : Gl X "enumerate") (hm : X.mg "enumerate" = none) (hg2 : Gl X "zip") (hm2 : X.mg "zip" = none) (h : QA X Ts E [a, b] t) (hs : starEach [a, b] X.env = (false, eval a X.env) :: starEach [b] X.env := by rfl) (hpl : (backTo pos2 (starEach [b] X.env)).any (·.1) = false := by rfl) :
    QI X Ts E (.Tuple elts kk tpos) (.Call (.Name "enumerate" p) [.Call (.Name "zip" p2) [a, b] [] pos2] [] pos) (dEnumZ t) := piLe (pi_cap (Zn.pi_ez hg hm hg2 hm2 h hs hpl)) fun σ H Rr ⟨ρ, S, M, Qd, Ed, R, sl, q, k, x⟩ => ⟨ρ, S, M, _, Ed, R, sl, q, fun ds M1 ⟨xs, ys, e, q1⟩ ρ1 H1 vs g1 R1 s1 => by
  subst e
  cases s1 with
  | cons s1 s2 =>
    cases s2 with
    | cons s2 s3 =>
      cases s3
      cases s1 with
      | tup ha hs =>
        cases s2 with
        | tup hb ht => exact ⟨_, _, _, _, rfl, SqT.of ha, SqT.of hb, min xs.length ys.length, k _ _ _ q1 ρ1 H1 _ g1 R1 (feeds_ez ha hs hb ht)⟩, x⟩
end
section
variable {X : Cx} {Ts : List Addr}
/-- repr of an int -/
def reprID : List D → Mem → KD → Prop
  | [.int i], M, Q => i.natAbs.log2 < 1920 ∧ Q (.str (toString i)) M
  | _, _, _ => False
theorem cd_reprI : CallD X Ts (fun xs H Q => ∃ i, xs = [V.int i] ∧ i.natAbs.log2 < 1920 ∧ Q (.str (toString i)) H) reprID := fun ρ M H ds vs Q Qd R s h k => by
  cases s with
  | nil => exact h.elim
  | cons s1 s2 =>
    cases s2 with
    | cons _ _ => cases s1 <;> exact h.elim
    | nil =>
      cases s1 with
      | int i => exact ⟨i, rfl, h.1, k.same R h.2 (.str _)⟩
      | _ => exact h.elim
end
end Dl
set_option Elab.async false
set_option linter.all false
set_option maxRecDepth 100000
set_option maxHeartbeats 4000000
/-! The text by places, and what the top leaves of it. -/
namespace Z8
open PySem PySem.Spec PyProof.Rows L2 GxR Gn Dl
def top (i : Nat) : Stmt := PySem.Challenge.pw_draftward_k08_whole_rows_that_are_kept.main.body.getD i (.Pass ⟨0, 0, 0, 0⟩)
structure Wd (K : PySem.W.Frag) (mg : Str → Option Value) (base : Heap) where
  a7 : Addr
  d7 : FuncData
  D7 : Df K mg "is_integer" (top 7) ["thing"] a7 d7
  a8 : Addr
  d8 : FuncData
  D8 : Df K mg "is_integer_from" (top 8) ["thing", "least"] a8 d8
  a9 : Addr
  d9 : FuncData
  D9 : Df K mg "is_number_below" (top 9) ["thing", "many"] a9 d9
  a10 : Addr
  d10 : FuncData
  D10 : Df K mg "is_token" (top 10) ["thing", "many"] a10 d10
  a11 : Addr
  d11 : FuncData
  D11 : Df K mg "are_tokens" (top 11) ["thing", "many"] a11 d11
  a12 : Addr
  d12 : FuncData
  D12 : Df K mg "are_weights" (top 12) ["thing"] a12 d12
  a13 : Addr
  d13 : FuncData
  D13 : Df K mg "is_tuple_of" (top 13) ["thing", "many"] a13 d13
  a14 : Addr
  d14 : FuncData
  D14 : Df K mg "is_ascending" (top 14) ["things"] a14 d14
  a15 : Addr
  d15 : FuncData
  D15 : Df K mg "same" (top 15) ["right", "thing"] a15 d15
  a16 : Addr
  d16 : FuncData
  D16 : Df K mg "first_difference" (top 16) ["right", "thing"] a16 d16
  a17 : Addr
  d17 : FuncData
  D17 : Df K mg "certificate" (top 17) ["right", "thing"] a17 d17
  a22 : Addr
  d22 : FuncData
  D22 : Df K mg "is_model" (top 22) ["thing"] a22 d22
  a23 : Addr
  d23 : FuncData
  D23 : Df K mg "model_size" (top 23) ["model"] a23 d23
  a24 : Addr
  d24 : FuncData
  D24 : Df K mg "model_weights" (top 24) ["model", "tokens"] a24 d24
  a25 : Addr
  d25 : FuncData
  D25 : Df K mg "rows_of" (top 25) ["model", "tokens"] a25 d25
  a26 : Addr
  d26 : FuncData
  D26 : Df K mg "stepped" (top 26) ["model", "rows", "token"] a26 d26
  a27 : Addr
  d27 : FuncData
  D27 : Df K mg "judge_rows" (top 27) ["model", "tokens", "thing"] a27 d27
  a28 : Addr
  d28 : FuncData
  D28 : Df K mg "are_rows" (top 28) ["model", "thing"] a28 d28
  a29 : Addr
  d29 : FuncData
  D29 : Df K mg "is_row" (top 29) ["model", "thing"] a29 d29
  a30 : Addr
  d30 : FuncData
  D30 : Df K mg "weights_after" (top 30) ["model", "tokens"] a30 d30
  a31 : Addr
  d31 : FuncData
  D31 : Df K mg "rows_after" (top 31) ["model", "tokens"] a31 d31
  a32 : Addr
  d32 : FuncData
  D32 : Df K mg "next_row" (top 32) ["model", "rows", "token"] a32 d32
  a33 : Addr
  d33 : FuncData
  D33 : Df K mg "_need_model" (top 33) ["model"] a33 d33
  a34 : Addr
  d34 : FuncData
  D34 : Df K mg "_need_tokens" (top 34) ["model", "tokens"] a34 d34
  a35 : Addr
  d35 : FuncData
  D35 : Df K mg "_is_window_model" (top 35) ["thing"] a35 d35
  a36 : Addr
  d36 : FuncData
  D36 : Df K mg "_is_entry" (top 36) ["thing", "many", "k"] a36 d36
  a37 : Addr
  d37 : FuncData
  D37 : Df K mg "_are_model_weights" (top 37) ["thing", "many"] a37 d37
  a38 : Addr
  d38 : FuncData
  D38 : Df K mg "_window_weights" (top 38) ["model", "tokens"] a38 d38
  a39 : Addr
  d39 : FuncData
  D39 : Df K mg "_is_network" (top 39) ["thing"] a39 d39
  a40 : Addr
  d40 : FuncData
  D40 : Df K mg "_is_layer" (top 40) ["thing", "width"] a40 d40
  a41 : Addr
  d41 : FuncData
  D41 : Df K mg "_are_vectors" (top 41) ["thing", "many", "width"] a41 d41
  a42 : Addr
  d42 : FuncData
  D42 : Df K mg "_is_vector" (top 42) ["thing", "width"] a42 d42
  a43 : Addr
  d43 : FuncData
  D43 : Df K mg "_network_step" (top 43) ["model", "rows", "token"] a43 d43
  a44 : Addr
  d44 : FuncData
  D44 : Df K mg "_mixed" (top 44) ["asked", "pairs"] a44 d44
  a45 : Addr
  d45 : FuncData
  D45 : Df K mg "_shares" (top 45) ["scores"] a45 d45
  a46 : Addr
  d46 : FuncData
  D46 : Df K mg "_times" (top 46) ["matrix", "vector"] a46 d46
  a47 : Addr
  d47 : FuncData
  D47 : Df K mg "_scalar_product" (top 47) ["one", "other"] a47 d47
  a48 : Addr
  d48 : FuncData
  D48 : Df K mg "_clipped_sum" (top 48) ["one", "other"] a48 d48
  a49 : Addr
  d49 : FuncData
  D49 : Df K mg "_clipped" (top 49) ["item"] a49 d49
  a51 : Addr
  d51 : FuncData
  D51 : Df K mg "_law_deck" (top 51) ["script", "seed"] a51 d51
  a52 : Addr
  d52 : FuncData
  D52 : Df K mg "_law_draw" (top 52) ["deck", "many"] a52 d52
  a53 : Addr
  d53 : FuncData
  D53 : Df K mg "_law_pick" (top 53) ["deck", "some"] a53 d53
  a54 : Addr
  d54 : FuncData
  D54 : Df K mg "_law_instead" (top 54) ["some", "at", "item"] a54 d54
  a55 : Addr
  d55 : FuncData
  D55 : Df K mg "_law_drawn_weights" (top 55) ["deck", "wide"] a55 d55
  a56 : Addr
  d56 : FuncData
  D56 : Df K mg "_law_drawn_window" (top 56) ["deck"] a56 d56
  a57 : Addr
  d57 : FuncData
  D57 : Df K mg "_law_drawn_vectors" (top 57) ["deck", "many", "d"] a57 d57
  a58 : Addr
  d58 : FuncData
  D58 : Df K mg "_law_drawn_net" (top 58) ["deck"] a58 d58
  a59 : Addr
  d59 : FuncData
  D59 : Df K mg "_law_drawn_tokens" (top 59) ["deck", "wide", "many"] a59 d59
  a60 : Addr
  d60 : FuncData
  D60 : Df K mg "_law_product" (top 60) ["one", "other"] a60 d60
  a61 : Addr
  d61 : FuncData
  D61 : Df K mg "_law_times" (top 61) ["matrix", "vector"] a61 d61
  a62 : Addr
  d62 : FuncData
  D62 : Df K mg "_law_clipped" (top 62) ["vector"] a62 d62
  a63 : Addr
  d63 : FuncData
  D63 : Df K mg "_law_doubled" (top 63) ["many"] a63 d63
  a64 : Addr
  d64 : FuncData
  D64 : Df K mg "_law_mixed" (top 64) ["layer", "scores", "worths"] a64 d64
  a65 : Addr
  d65 : FuncData
  D65 : Df K mg "_law_net_step" (top 65) ["model", "rows", "token"] a65 d65
  a66 : Addr
  d66 : FuncData
  D66 : Df K mg "_law_net_weights" (top 66) ["model", "state"] a66 d66
  a67 : Addr
  d67 : FuncData
  D67 : Df K mg "_law_window_weights" (top 67) ["model", "tokens"] a67 d67
  a68 : Addr
  d68 : FuncData
  D68 : Df K mg "_law_stepped" (top 68) ["model", "rows", "token"] a68 d68
  a69 : Addr
  d69 : FuncData
  D69 : Df K mg "_law_rows" (top 69) ["model", "tokens"] a69 d69
  a70 : Addr
  d70 : FuncData
  D70 : Df K mg "_law_changed_rows" (top 70) ["deck", "rows"] a70 d70
  a71 : Addr
  d71 : FuncData
  D71 : Df K mg "law" (top 71) ["script"] a71 d71
  c11 : Addr
  P11 : Addr
  T11 : Tb mg base d11 c11 P11
  c12 : Addr
  P12 : Addr
  T12 : Tb mg base d12 c12 P12
  c28 : Addr
  P28 : Addr
  T28 : Tb mg base d28 c28 P28
  c29 : Addr
  P29 : Addr
  T29 : Tb mg base d29 c29 P29
  c35 : Addr
  P35 : Addr
  T35 : Tb mg base d35 c35 P35
  c39 : Addr
  P39 : Addr
  T39 : Tb mg base d39 c39 P39
  c40 : Addr
  P40 : Addr
  T40 : Tb mg base d40 c40 P40
  c41 : Addr
  P41 : Addr
  T41 : Tb mg base d41 c41 P41
  c42 : Addr
  P42 : Addr
  T42 : Tb mg base d42 c42 P42
  m_all : mg "all" = none
  m_bool : mg "bool" = none
  m_enumerate : mg "enumerate" = none
  m_int : mg "int" = none
  m_isinstance : mg "isinstance" = none
  m_len : mg "len" = none
  m_list : mg "list" = none
  m_max : mg "max" = none
  m_min : mg "min" = none
  m_range : mg "range" = none
  m_repr : mg "repr" = none
  m_sorted : mg "sorted" = none
  m_sum : mg "sum" = none
  m_tuple : mg "tuple" = none
  m_zip : mg "zip" = none
  g_GREATEST_ITEM : ∃ t, mg "GREATEST_ITEM" = some (.int 20 t)
  g_GREATEST_SHARE : ∃ t, mg "GREATEST_SHARE" = some (.int 64 t)
  g_MOST_HALVINGS : ∃ t, mg "MOST_HALVINGS" = some (.int 6 t)
def Wd.Ts {K : PySem.W.Frag} {mg : Str → Option Value} {base : Heap} (W : Wd K mg base) : List Addr := [W.P11, W.P12, W.P28, W.P29, W.P35, W.P39, W.P40, W.P41, W.P42]
theorem sc7 : FnScope ["thing"] ["thing"] (defScope (top 7)) := ⟨rfl, rfl, rfl, by decide +kernel, rfl, by decide +kernel, by decide +kernel⟩
theorem sc8 : FnScope ["thing", "least"] ["thing", "least"] (defScope (top 8)) := ⟨rfl, rfl, rfl, by decide +kernel, rfl, by decide +kernel, by decide +kernel⟩
theorem sc9 : FnScope ["thing", "many"] ["thing", "many"] (defScope (top 9)) := ⟨rfl, rfl, rfl, by decide +kernel, rfl, by decide +kernel, by decide +kernel⟩
theorem sc10 : FnScope ["thing", "many"] ["thing", "many"] (defScope (top 10)) := ⟨rfl, rfl, rfl, by decide +kernel, rfl, by decide +kernel, by decide +kernel⟩
theorem sc11 : FnScope ["thing", "many", "item"] ["thing", "many"] (defScope (top 11)) := ⟨rfl, rfl, rfl, by decide +kernel, rfl, by decide +kernel, by decide +kernel⟩
theorem sc12 : FnScope ["thing", "item"] ["thing"] (defScope (top 12)) := ⟨rfl, rfl, rfl, by decide +kernel, rfl, by decide +kernel, by decide +kernel⟩
theorem sc13 : FnScope ["thing", "many"] ["thing", "many"] (defScope (top 13)) := ⟨rfl, rfl, rfl, by decide +kernel, rfl, by decide +kernel, by decide +kernel⟩
theorem sc14 : FnScope ["things", "one", "other"] ["things"] (defScope (top 14)) := ⟨rfl, rfl, rfl, by decide +kernel, rfl, by decide +kernel, by decide +kernel⟩
theorem sc15 : FnScope ["right", "thing"] ["right", "thing"] (defScope (top 15)) := ⟨rfl, rfl, rfl, by decide +kernel, rfl, by decide +kernel, by decide +kernel⟩
theorem sc16 : FnScope ["right", "thing", "at", "item", "other"] ["right", "thing"] (defScope (top 16)) := ⟨rfl, rfl, rfl, by decide +kernel, rfl, by decide +kernel, by decide +kernel⟩
theorem sc17 : FnScope ["right", "thing", "at"] ["right", "thing"] (defScope (top 17)) := ⟨rfl, rfl, rfl, by decide +kernel, rfl, by decide +kernel, by decide +kernel⟩
theorem sc22 : FnScope ["thing"] ["thing"] (defScope (top 22)) := ⟨rfl, rfl, rfl, by decide +kernel, rfl, by decide +kernel, by decide +kernel⟩
theorem sc23 : FnScope ["model"] ["model"] (defScope (top 23)) := ⟨rfl, rfl, rfl, by decide +kernel, rfl, by decide +kernel, by decide +kernel⟩
theorem sc24 : FnScope ["model", "tokens"] ["model", "tokens"] (defScope (top 24)) := ⟨rfl, rfl, rfl, by decide +kernel, rfl, by decide +kernel, by decide +kernel⟩
theorem sc25 : FnScope ["model", "tokens"] ["model", "tokens"] (defScope (top 25)) := ⟨rfl, rfl, rfl, by decide +kernel, rfl, by decide +kernel, by decide +kernel⟩
theorem sc26 : FnScope ["model", "rows", "token"] ["model", "rows", "token"] (defScope (top 26)) := ⟨rfl, rfl, rfl, by decide +kernel, rfl, by decide +kernel, by decide +kernel⟩
theorem sc27 : FnScope ["model", "tokens", "thing"] ["model", "tokens", "thing"] (defScope (top 27)) := ⟨rfl, rfl, rfl, by decide +kernel, rfl, by decide +kernel, by decide +kernel⟩
theorem sc28 : FnScope ["model", "thing", "row"] ["model", "thing"] (defScope (top 28)) := ⟨rfl, rfl, rfl, by decide +kernel, rfl, by decide +kernel, by decide +kernel⟩
theorem sc29 : FnScope ["model", "thing", "layers", "width", "pair"] ["model", "thing"] (defScope (top 29)) := ⟨rfl, rfl, rfl, by decide +kernel, rfl, by decide +kernel, by decide +kernel⟩
theorem sc30 : FnScope ["model", "tokens", "rows"] ["model", "tokens"] (defScope (top 30)) := ⟨rfl, rfl, rfl, by decide +kernel, rfl, by decide +kernel, by decide +kernel⟩
theorem sc31 : FnScope ["model", "tokens", "rows", "token", "row"] ["model", "tokens"] (defScope (top 31)) := ⟨rfl, rfl, rfl, by decide +kernel, rfl, by decide +kernel, by decide +kernel⟩
theorem sc32 : FnScope ["model", "rows", "token", "tokens", "row"] ["model", "rows", "token"] (defScope (top 32)) := ⟨rfl, rfl, rfl, by decide +kernel, rfl, by decide +kernel, by decide +kernel⟩
theorem sc33 : FnScope ["model"] ["model"] (defScope (top 33)) := ⟨rfl, rfl, rfl, by decide +kernel, rfl, by decide +kernel, by decide +kernel⟩
theorem sc34 : FnScope ["model", "tokens"] ["model", "tokens"] (defScope (top 34)) := ⟨rfl, rfl, rfl, by decide +kernel, rfl, by decide +kernel, by decide +kernel⟩
theorem sc35 : FnScope ["thing", "_", "entries", "default", "k", "many", "entry", "last"] ["thing"] (defScope (top 35)) := ⟨rfl, rfl, rfl, by decide +kernel, rfl, by decide +kernel, by decide +kernel⟩
theorem sc36 : FnScope ["thing", "many", "k", "last", "weights"] ["thing", "many", "k"] (defScope (top 36)) := ⟨rfl, rfl, rfl, by decide +kernel, rfl, by decide +kernel, by decide +kernel⟩
theorem sc37 : FnScope ["thing", "many"] ["thing", "many"] (defScope (top 37)) := ⟨rfl, rfl, rfl, by decide +kernel, rfl, by decide +kernel, by decide +kernel⟩
theorem sc38 : FnScope ["model", "tokens", "_", "k", "entries", "default", "seen", "last", "weights"] ["model", "tokens"] (defScope (top 38)) := ⟨rfl, rfl, rfl, by decide +kernel, rfl, by decide +kernel, by decide +kernel⟩
theorem sc39 : FnScope ["thing", "_", "many", "embeds", "places", "layers", "outs", "width", "layer"] ["thing"] (defScope (top 39)) := ⟨rfl, rfl, rfl, by decide +kernel, rfl, by decide +kernel, by decide +kernel⟩
theorem sc40 : FnScope ["thing", "width", "matrix"] ["thing", "width"] (defScope (top 40)) := ⟨rfl, rfl, rfl, by decide +kernel, rfl, by decide +kernel, by decide +kernel⟩
theorem sc41 : FnScope ["thing", "many", "width", "vector"] ["thing", "many", "width"] (defScope (top 41)) := ⟨rfl, rfl, rfl, by decide +kernel, rfl, by decide +kernel, by decide +kernel⟩
theorem sc42 : FnScope ["thing", "width", "item"] ["thing", "width"] (defScope (top 42)) := ⟨rfl, rfl, rfl, by decide +kernel, rfl, by decide +kernel, by decide +kernel⟩
theorem sc43 : FnScope ["model", "rows", "token", "_", "embeds", "places", "layers", "outs", "state", "row", "at", "asking", "keys", "worths", "mixing", "pair", "pairs", "mixed", "earlier"] ["model", "rows", "token"] (defScope (top 43)) := ⟨rfl, rfl, rfl, by decide +kernel, rfl, by decide +kernel, by decide +kernel⟩
theorem sc44 : FnScope ["asked", "pairs", "shares", "whole", "worths", "_", "worth", "key", "column"] ["asked", "pairs"] (defScope (top 44)) := ⟨rfl, rfl, rfl, by decide +kernel, rfl, by decide +kernel, by decide +kernel⟩
theorem sc45 : FnScope ["scores", "greatest", "score"] ["scores"] (defScope (top 45)) := ⟨rfl, rfl, rfl, by decide +kernel, rfl, by decide +kernel, by decide +kernel⟩
theorem sc46 : FnScope ["matrix", "vector", "row"] ["matrix", "vector"] (defScope (top 46)) := ⟨rfl, rfl, rfl, by decide +kernel, rfl, by decide +kernel, by decide +kernel⟩
theorem sc47 : FnScope ["one", "other", "item", "partner"] ["one", "other"] (defScope (top 47)) := ⟨rfl, rfl, rfl, by decide +kernel, rfl, by decide +kernel, by decide +kernel⟩
theorem sc48 : FnScope ["one", "other", "item", "partner"] ["one", "other"] (defScope (top 48)) := ⟨rfl, rfl, rfl, by decide +kernel, rfl, by decide +kernel, by decide +kernel⟩
theorem sc49 : FnScope ["item"] ["item"] (defScope (top 49)) := ⟨rfl, rfl, rfl, by decide +kernel, rfl, by decide +kernel, by decide +kernel⟩
theorem sc51 : FnScope ["script", "seed", "mixed", "cell"] ["script", "seed"] (defScope (top 51)) := ⟨rfl, rfl, rfl, by decide +kernel, rfl, by decide +kernel, by decide +kernel⟩
theorem sc52 : FnScope ["deck", "many", "cell", "figure"] ["deck", "many"] (defScope (top 52)) := ⟨rfl, rfl, rfl, by decide +kernel, rfl, by decide +kernel, by decide +kernel⟩
theorem sc53 : FnScope ["deck", "some"] ["deck", "some"] (defScope (top 53)) := ⟨rfl, rfl, rfl, by decide +kernel, rfl, by decide +kernel, by decide +kernel⟩
theorem sc54 : FnScope ["some", "at", "item"] ["some", "at", "item"] (defScope (top 54)) := ⟨rfl, rfl, rfl, by decide +kernel, rfl, by decide +kernel, by decide +kernel⟩
theorem sc55 : FnScope ["deck", "wide", "found", "at"] ["deck", "wide"] (defScope (top 55)) := ⟨rfl, rfl, rfl, by decide +kernel, rfl, by decide +kernel, by decide +kernel⟩
theorem sc56 : FnScope ["deck", "wide", "k", "entries", "turn", "last", "at"] ["deck"] (defScope (top 56)) := ⟨rfl, rfl, rfl, by decide +kernel, rfl, by decide +kernel, by decide +kernel⟩
theorem sc57 : FnScope ["deck", "many", "d", "at", "x"] ["deck", "many", "d"] (defScope (top 57)) := ⟨rfl, rfl, rfl, by decide +kernel, rfl, by decide +kernel, by decide +kernel⟩
theorem sc58 : FnScope ["deck", "wide", "d", "layers", "turn", "at"] ["deck"] (defScope (top 58)) := ⟨rfl, rfl, rfl, by decide +kernel, rfl, by decide +kernel, by decide +kernel⟩
theorem sc59 : FnScope ["deck", "wide", "many", "at"] ["deck", "wide", "many"] (defScope (top 59)) := ⟨rfl, rfl, rfl, by decide +kernel, rfl, by decide +kernel, by decide +kernel⟩
theorem sc60 : FnScope ["one", "other", "x", "y"] ["one", "other"] (defScope (top 60)) := ⟨rfl, rfl, rfl, by decide +kernel, rfl, by decide +kernel, by decide +kernel⟩
theorem sc61 : FnScope ["matrix", "vector", "row"] ["matrix", "vector"] (defScope (top 61)) := ⟨rfl, rfl, rfl, by decide +kernel, rfl, by decide +kernel, by decide +kernel⟩
theorem sc62 : FnScope ["vector", "x"] ["vector"] (defScope (top 62)) := ⟨rfl, rfl, rfl, by decide +kernel, rfl, by decide +kernel, by decide +kernel⟩
theorem sc63 : FnScope ["many", "found", "turn"] ["many"] (defScope (top 63)) := ⟨rfl, rfl, rfl, by decide +kernel, rfl, by decide +kernel, by decide +kernel⟩
theorem sc64 : FnScope ["layer", "scores", "worths", "shares", "found", "k", "score", "share", "worth"] ["layer", "scores", "worths"] (defScope (top 64)) := ⟨rfl, rfl, rfl, by decide +kernel, rfl, by decide +kernel, by decide +kernel⟩
theorem sc65 : FnScope ["model", "rows", "token", "word", "wide", "d", "embeds", "places", "layers", "outs", "place", "state", "found", "at", "layer", "key", "worth", "look", "keys", "worths", "near", "x", "y", "it", "row"] ["model", "rows", "token"] (defScope (top 65)) := ⟨rfl, rfl, rfl, by decide +kernel, rfl, by decide +kernel, by decide +kernel⟩
theorem sc66 : FnScope ["model", "state", "products", "out", "product"] ["model", "state"] (defScope (top 66)) := ⟨rfl, rfl, rfl, by decide +kernel, rfl, by decide +kernel, by decide +kernel⟩
theorem sc67 : FnScope ["model", "tokens", "last", "entry"] ["model", "tokens"] (defScope (top 67)) := ⟨rfl, rfl, rfl, by decide +kernel, rfl, by decide +kernel, by decide +kernel⟩
theorem sc68 : FnScope ["model", "rows", "token", "row", "state"] ["model", "rows", "token"] (defScope (top 68)) := ⟨rfl, rfl, rfl, by decide +kernel, rfl, by decide +kernel, by decide +kernel⟩
theorem sc69 : FnScope ["model", "tokens", "found", "token"] ["model", "tokens"] (defScope (top 69)) := ⟨rfl, rfl, rfl, by decide +kernel, rfl, by decide +kernel, by decide +kernel⟩
theorem sc70 : FnScope ["deck", "rows", "at", "k", "j", "pair", "x"] ["deck", "rows"] (defScope (top 70)) := ⟨rfl, rfl, rfl, by decide +kernel, rfl, by decide +kernel, by decide +kernel⟩
theorem sc71 : FnScope ["script", "deck", "turn", "model", "tokens", "due", "rows", "at", "token", "row", "weights", "far", "near", "more"] ["script"] (defScope (top 71)) := ⟨rfl, rfl, rfl, by decide +kernel, rfl, by decide +kernel, by decide +kernel⟩
end Z8
set_option Elab.async false
set_option linter.all false
set_option maxRecDepth 100000
set_option maxHeartbeats 4000000
namespace Z8
open PySem PySem.Spec PyProof.Rows L2 GxR Gn Dl
section
variable {P : Program} {w : World} {K : PySem.W.Frag} {mg : Str → Option Value} {base : Heap} (W : Wd K mg base)
/-! is_integer -/
def r_is_integer : TSd := dRet (dAnd (dCB isiD (dCons (dVar 0) (dCons (dC (.ty "int")) (dNil)))) (dNot (dCB isiD (dCons (dVar 0) (dCons (dC (.ty "bool")) (dNil))))))
def sp_is_integer : SpD := fun ds M Q E => r_is_integer { nx := fun _ M' => Q .non M', rt := Q } E (startD ["thing"] ds) M
theorem ok_is_integer : FnD P w K mg base W.Ts 1 W.a7 W.d7 1 ["thing"] sp_is_integer :=
  fnD (N := ["thing"]) (ps := ["thing"]) W.D7.F rfl sc7 (fun A outer s H E hr => qss_one (qs_ret (qe_and (qe_cb (id := "isinstance") call_isi cd_isi (by rfl) W.m_isinstance bt_isinstance (qa_cons (qv 0) (qa_cons (qe_bltn (n := "int") (by rfl) W.m_int (by decide +kernel)) (qa_nil)))) (qe_one (qe_not (qe_cb (id := "isinstance") call_isi cd_isi (by rfl) W.m_isinstance bt_isinstance (qa_cons (qv 0) (qa_cons (qe_bltn (n := "bool") (by rfl) W.m_bool (by decide +kernel)) (qa_nil))))))))) fun _ _ _ _ _ h => h
/-! is_integer_from -/
def r_is_integer_from : TSd := dRet (dAnd (dCall 1 sp_is_integer (dCons (dVar 0) (dNil))) (dOp geD (dVar 0) (dVar 1)))
def sp_is_integer_from : SpD := fun ds M Q E => r_is_integer_from { nx := fun _ M' => Q .non M', rt := Q } E (startD ["thing", "least"] ds) M
theorem ok_is_integer_from : FnD P w K mg base W.Ts 2 W.a8 W.d8 2 ["thing", "least"] sp_is_integer_from :=
  fnD (N := ["thing", "least"]) (ps := ["thing", "least"]) W.D8.F rfl sc8 (fun A outer s H E hr => qss_one (qs_ret (qe_and (qe_call (ok_is_integer W) (hr.mono (by decide)) (by rfl) W.D7.g W.D7.kp W.D7.b takesD (qa_cons (qv 0) (qa_nil))) (qe_one (qe_cmp (op_rI0 op_ge) od_ge (qv 0) (qv 1) (nomark _)))))) fun _ _ _ _ _ h => h
/-! is_number_below -/
def r_is_number_below : TSd := dRet (dAnd (dCall 1 sp_is_integer (dCons (dVar 0) (dNil))) (dChain (cmpD false) (cmpD true) (dC (.int 0)) (dVar 0) (dVar 1)))
def sp_is_number_below : SpD := fun ds M Q E => r_is_number_below { nx := fun _ M' => Q .non M', rt := Q } E (startD ["thing", "many"] ds) M
theorem ok_is_number_below : FnD P w K mg base W.Ts 2 W.a9 W.d9 2 ["thing", "many"] sp_is_number_below :=
  fnD (N := ["thing", "many"]) (ps := ["thing", "many"]) W.D9.F rfl sc9 (fun A outer s H E hr => qss_one (qs_ret (qe_and (qe_call (ok_is_integer W) (hr.mono (by decide)) (by rfl) W.D7.g W.D7.kp W.D7.b takesD (qa_cons (qv 0) (qa_nil))) (qe_one (qe_chain op_leH (op_ltH hr.r) od_leH od_ltH (qe_int) (qv 0) (qv 1)))))) fun _ _ _ _ _ h => h
/-! is_token -/
def r_is_token : TSd := dRet (dCall 2 sp_is_number_below (dCons (dVar 0) (dCons (dVar 1) (dNil))))
def sp_is_token : SpD := fun ds M Q E => r_is_token { nx := fun _ M' => Q .non M', rt := Q } E (startD ["thing", "many"] ds) M
theorem ok_is_token : FnD P w K mg base W.Ts 3 W.a10 W.d10 2 ["thing", "many"] sp_is_token :=
  fnD (N := ["thing", "many"]) (ps := ["thing", "many"]) W.D10.F rfl sc10 (fun A outer s H E hr => qss_one (qs_ret (qe_call (ok_is_number_below W) (hr.mono (by decide)) (by rfl) W.D9.g W.D9.kp W.D9.b takesD (qa_cons (qv 0) (qa_cons (qv 1) (qa_nil)))))) fun _ _ _ _ _ h => h
/-! are_tokens -/
def r_are_tokens : TSd := dRet (dAnd (dCB isiD (dCons (dVar 0) (dCons (dC (.ty "tuple")) (dNil)))) (dAll (dWalk (dVar 0)) (dGN 2) (dCall 2 sp_is_token (dCons (dVar 2) (dCons (dVar 1) (dNil)))) [2]))
def sp_are_tokens : SpD := fun ds M Q E => r_are_tokens { nx := fun _ M' => Q .non M', rt := Q } E (startD ["thing", "many", "item"] ds) M
theorem ok_are_tokens : FnD P w K mg base W.Ts 5 W.a11 W.d11 2 ["thing", "many"] sp_are_tokens :=
  fnD (N := ["thing", "many", "item"]) (ps := ["thing", "many"]) W.D11.F W.T11.code sc11 (fun A outer s H E hr => qss_one (qs_ret (qe_and (qe_cb (id := "isinstance") call_isi cd_isi (by rfl) W.m_isinstance bt_isinstance (qa_cons (qv 0) (qa_cons (qe_bltn (n := "tuple") (by rfl) W.m_tuple (by decide +kernel)) (qa_nil)))) (qe_one (qe_all (own := [("item", 2)]) (g := gName 2) (by simp [Wd.Ts]) rfl hr.r (by rfl) W.m_all W.T11.tab rfl sc11.nd (blkOk_by (N := ["thing", "many", "item"]) (sc := defScope (top 11)) (by decide +kernel)) rfl (by decide +kernel) (by decide +kernel) (qi_any (qv 0)) (fun _ _ _ _ _ _ _ => pg_name (i := 2) sc11.nd rfl (by first | exact .inl rfl | exact .inr rfl)) (tg_name (by simp)) (gm_name) (fun _ _ _ _ _ _ _ h1 h2 => have hz1 : RoomG _ _ := ⟨h1, h2.trans hr.g⟩; qe_call (ok_is_token W) (hz1.mono (by decide)) (by rfl) W.D10.g W.D10.kp W.D10.b Dl.takes0 (qa_cons (qv 2) (qa_cons (qv 1) (qa_nil))))))))) fun _ _ _ _ _ h => h
/-! are_weights -/
def r_are_weights : TSd := dSeq (dIfS (dNotT (dTest (dCB isiD (dCons (dVar 0) (dCons (dC (.ty "tuple")) (dNil)))))) (dRet (dC (.bl false))) (dNext)) (dRet (dAnd (dAll (dWalk (dVar 0)) (dGN 1) (dCall 2 sp_is_integer_from (dCons (dVar 1) (dCons (dC (.int 0)) (dNil)))) [1]) (dOp gtD (dCB sumHD (dCons (dVar 0) (dNil))) (dC (.int 0)))))
def sp_are_weights : SpD := fun ds M Q E => r_are_weights { nx := fun _ M' => Q .non M', rt := Q } E (startD ["thing", "item"] ds) M
theorem ok_are_weights : FnD P w K mg base W.Ts 4 W.a12 W.d12 1 ["thing"] sp_are_weights :=
  fnD (N := ["thing", "item"]) (ps := ["thing"]) W.D12.F W.T12.code sc12 (fun A outer s H E hr => qss_cons (qs_if (qt_not (qt_val (qe_cb (id := "isinstance") call_isi cd_isi (by rfl) W.m_isinstance bt_isinstance (qa_cons (qv 0) (qa_cons (qe_bltn (n := "tuple") (by rfl) W.m_tuple (by decide +kernel)) (qa_nil)))))) (qss_one (qs_ret (qe_bl))) (qss_nil)) (qss_one (qs_ret (qe_and (qe_all (own := [("item", 1)]) (g := gName 1) (by simp [Wd.Ts]) rfl hr.r (by rfl) W.m_all W.T12.tab rfl sc12.nd (blkOk_by (N := ["thing", "item"]) (sc := defScope (top 12)) (by decide +kernel)) rfl (by decide +kernel) (by decide +kernel) (qi_any (qv 0)) (fun _ _ _ _ _ _ _ => pg_name (i := 1) sc12.nd rfl (by first | exact .inl rfl | exact .inr rfl)) (tg_name (by simp)) (gm_name) (fun _ _ _ _ _ _ _ h1 h2 => have hz2 : RoomG _ _ := ⟨h1, h2.trans hr.g⟩; qe_call (ok_is_integer_from W) (hz2.mono (by decide)) (by rfl) W.D8.g W.D8.kp W.D8.b Dl.takes0 (qa_cons (qv 1) (qa_cons (qe_int) (qa_nil))))) (qe_one (qe_cmp (op_rI0 op_gt) od_gt (qe_cb (id := "sum") (cr_sumH rfl) cd_sumH (by rfl) W.m_sum bt_sum (qa_cons (qv 0) (qa_nil))) (qe_int) (nomark _))))))) fun _ _ _ _ _ h => h
/-! is_tuple_of -/
def r_is_tuple_of : TSd := dRet (dAnd (dCB isiD (dCons (dVar 0) (dCons (dC (.ty "tuple")) (dNil)))) (dOp (eqA false) (dCB lenD (dCons (dVar 0) (dNil))) (dVar 1)))
def sp_is_tuple_of : SpD := fun ds M Q E => r_is_tuple_of { nx := fun _ M' => Q .non M', rt := Q } E (startD ["thing", "many"] ds) M
theorem ok_is_tuple_of : FnD P w K mg base W.Ts 1 W.a13 W.d13 2 ["thing", "many"] sp_is_tuple_of :=
  fnD (N := ["thing", "many"]) (ps := ["thing", "many"]) W.D13.F rfl sc13 (fun A outer s H E hr => qss_one (qs_ret (qe_and (qe_cb (id := "isinstance") call_isi cd_isi (by rfl) W.m_isinstance bt_isinstance (qa_cons (qv 0) (qa_cons (qe_bltn (n := "tuple") (by rfl) W.m_tuple (by decide +kernel)) (qa_nil)))) (qe_one (qe_cmp (op_eqA hr.r) od_eqA (qe_cb (id := "len") cr_lenH cd_len (by rfl) W.m_len bt_len (qa_cons (qv 0) (qa_nil))) (qv 1) (nomark _)))))) fun _ _ _ _ _ h => h
/-! is_ascending -/
def r_is_ascending : TSd := dRet (dCB allLD (dCons (dLc (dZip (dCons (dVar 0) (dCons (dSl (dVar 0) (dPart (dC (.int 1))) (dNo)) (dNil)))) (dGTup 2 (dGCons (dGN 1) (dGCons (dGN 2) (dGNil)))) (dYes) (dOp (cmpD true) (dVar 1) (dVar 2)) [1, 2]) (dNil)))
def sp_is_ascending : SpD := fun ds M Q E => r_is_ascending { nx := fun _ M' => Q .non M', rt := Q } E (startD ["things", "one", "other"] ds) M
theorem ok_is_ascending : FnD P w K mg base W.Ts 1 W.a14 W.d14 1 ["things"] sp_is_ascending :=
  fnD (N := ["things", "one", "other"]) (ps := ["things"]) W.D14.F rfl sc14 (fun A outer s H E hr => qss_one (qs_ret (qe_cb (id := "all") (cr_all rfl) cd_allL (by rfl) W.m_all bt_all (qa_cons (qe_lc (own := [("one", 1), ("other", 2)]) (g := gTup K 2 (gCons (gName 1) (gCons (gName 2) (gNil)))) rfl sc14.nd (qi_zip (by rfl) W.m_zip (qa_cons (qv 0) (qa_cons (qe_slice (qv 0) (qo_some (qe_int)) (qo_none)) (qa_nil)))) (blkOk_by (N := ["things", "one", "other"]) (sc := defScope (top 14)) (by decide +kernel)) (fun _ _ _ _ _ => pg_tup rfl (pgs_cons (pg_name (i := 1) sc14.nd rfl (by first | exact .inl rfl | exact .inr rfl)) (pgs_cons (pg_name (i := 2) sc14.nd rfl (by first | exact .inl rfl | exact .inr rfl)) (pgs_nil)))) (tg_tup (tgs_cons (gm_name) (gm_cons (gm_name) (gm_nil)) (tg_name (by simp)) (tgs_cons (gm_name) (gm_nil) (tg_name (by simp)) (tgs_nil)))) (gm_tup (gm_cons (gm_name) (gm_cons (gm_name) (gm_nil)))) (fun _ _ _ _ _ => qts_nil) (fun _ _ _ _ _ => qe_cmp (op_ltH hr.r) od_ltH (qv 1) (qv 2) (nomark _))) (qa_nil))))) fun _ _ _ _ _ h => h
/-! same__0 -/
def r_same__0 : TSd := dSeq (dIfS (dTest (dCB isiD (dCons (dVar 0) (dCons (dC (.ty "tuple")) (dNil))))) (dRet (dAnd (dCB isiD (dCons (dVar 1) (dCons (dC (.ty "tuple")) (dNil)))) (dNo0))) (dNext)) (dSeq (dIfS (dTest (dOp (eqA true) (dCB isiD (dCons (dVar 0) (dCons (dC (.ty "bool")) (dNil)))) (dCB isiD (dCons (dVar 1) (dCons (dC (.ty "bool")) (dNil)))))) (dRet (dC (.bl false))) (dNext)) (dRet (dAnd (dOp (eqA false) (dCB isiD (dCons (dVar 0) (dCons (dC (.ty "int")) (dNil)))) (dCB isiD (dCons (dVar 1) (dCons (dC (.ty "int")) (dNil))))) (dOp (eqA false) (dVar 0) (dVar 1)))))
def sp_same__0 : SpD := fun ds M Q E => r_same__0 { nx := fun _ M' => Q .non M', rt := Q } E (startD ["right", "thing"] ds) M
theorem ok_same__0 : FnD P w K mg base W.Ts 1 W.a15 W.d15 2 ["right", "thing"] sp_same__0 :=
  fnD (N := ["right", "thing"]) (ps := ["right", "thing"]) W.D15.F rfl sc15 (fun A outer s H E hr => qss_cons (qs_if (qt_val (qe_cb (id := "isinstance") call_isi cd_isi (by rfl) W.m_isinstance bt_isinstance (qa_cons (qv 0) (qa_cons (qe_bltn (n := "tuple") (by rfl) W.m_tuple (by decide +kernel)) (qa_nil))))) (qss_one (qs_ret (qe_and (qe_cb (id := "isinstance") call_isi cd_isi (by rfl) W.m_isinstance bt_isinstance (qa_cons (qv 1) (qa_cons (qe_bltn (n := "tuple") (by rfl) W.m_tuple (by decide +kernel)) (qa_nil)))) (qe_one (qe_never))))) (qss_nil)) (qss_cons (qs_if (qt_cmp (op_neA hr.r) od_neA (qe_cb (id := "isinstance") call_isi cd_isi (by rfl) W.m_isinstance bt_isinstance (qa_cons (qv 0) (qa_cons (qe_bltn (n := "bool") (by rfl) W.m_bool (by decide +kernel)) (qa_nil)))) (qe_cb (id := "isinstance") call_isi cd_isi (by rfl) W.m_isinstance bt_isinstance (qa_cons (qv 1) (qa_cons (qe_bltn (n := "bool") (by rfl) W.m_bool (by decide +kernel)) (qa_nil)))) (nomark _)) (qss_one (qs_ret (qe_bl))) (qss_nil)) (qss_one (qs_ret (qe_and (qe_cmp (op_eqA hr.r) od_eqA (qe_cb (id := "isinstance") call_isi cd_isi (by rfl) W.m_isinstance bt_isinstance (qa_cons (qv 0) (qa_cons (qe_bltn (n := "int") (by rfl) W.m_int (by decide +kernel)) (qa_nil)))) (qe_cb (id := "isinstance") call_isi cd_isi (by rfl) W.m_isinstance bt_isinstance (qa_cons (qv 1) (qa_cons (qe_bltn (n := "int") (by rfl) W.m_int (by decide +kernel)) (qa_nil)))) (nomark _)) (qe_one (qe_cmp (op_eqA hr.r) od_eqA (qv 0) (qv 1) (nomark _)))))))) fun _ _ _ _ _ h => h
/-! first_difference__0 -/
def r_first_difference__0 : TSd := dSeq (dFor (dEnumZ (dCons (dVar 0) (dCons (dVar 1) (dNil)))) (dGTup 2 (dGCons (dGN 2) (dGCons (dGTup 2 (dGCons (dGN 3) (dGCons (dGN 4) (dGNil)))) (dGNil)))) (dIfS (dNotT (dTest (dCall 2 sp_same__0 (dCons (dVar 3) (dCons (dVar 4) (dNil)))))) (dRet (dVar 2)) (dNext))) (dSeq (dIfS (dTest (dOp (eqA false) (dCB lenD (dCons (dVar 0) (dNil))) (dCB lenD (dCons (dVar 1) (dNil))))) (dRet (dC .non)) (dNext)) (dRet (dCB (max2D false) (dCons (dCB lenD (dCons (dVar 0) (dNil))) (dCons (dCB lenD (dCons (dVar 1) (dNil))) (dNil))))))
def sp_first_difference__0 : SpD := fun ds M Q E => r_first_difference__0 { nx := fun _ M' => Q .non M', rt := Q } E (startD ["right", "thing", "at", "item", "other"] ds) M
theorem ok_first_difference__0 : FnD P w K mg base W.Ts 2 W.a16 W.d16 2 ["right", "thing"] sp_first_difference__0 :=
  fnD (N := ["right", "thing", "at", "item", "other"]) (ps := ["right", "thing"]) W.D16.F rfl sc16 (fun A outer s H E hr => qss_cons (qs_for passD rfl (qi_enumZ (by rfl) W.m_enumerate (by rfl) W.m_zip (qa_cons (qv 0) (qa_cons (qv 1) (qa_nil)))) (qg_tupA rfl (qgs_cons (qg_name (i := 2) sc16.nd rfl (by first | exact .inl rfl | exact .inr rfl)) (qgs_cons (qg_tupA rfl (qgs_cons (qg_name (i := 3) sc16.nd rfl (by first | exact .inl rfl | exact .inr rfl)) (qgs_cons (qg_name (i := 4) sc16.nd rfl (by first | exact .inl rfl | exact .inr rfl)) (qgs_nil)))) (qgs_nil)))) (qss_one (qs_if (qt_not (qt_val (qe_call (ok_same__0 W) (hr.mono (by decide)) (by rfl) W.D15.g W.D15.kp W.D15.b takesD (qa_cons (qv 3) (qa_cons (qv 4) (qa_nil)))))) (qss_one (qs_ret (qv 2))) (qss_nil)))) (qss_cons (qs_if (qt_cmp (op_eqA hr.r) od_eqA (qe_cb (id := "len") cr_lenH cd_len (by rfl) W.m_len bt_len (qa_cons (qv 0) (qa_nil))) (qe_cb (id := "len") cr_lenH cd_len (by rfl) W.m_len bt_len (qa_cons (qv 1) (qa_nil))) (nomark _)) (qss_one (qs_ret (qe_non))) (qss_nil)) (qss_one (qs_ret (qe_cb (id := "min") (call_min2 rfl) cd_min2 (by rfl) W.m_min bt_min (qa_cons (qe_cb (id := "len") cr_lenH cd_len (by rfl) W.m_len bt_len (qa_cons (qv 0) (qa_nil))) (qa_cons (qe_cb (id := "len") cr_lenH cd_len (by rfl) W.m_len bt_len (qa_cons (qv 1) (qa_nil))) (qa_nil)))))))) fun _ _ _ _ _ h => h
/-! same__1 -/
def r_same__1 : TSd := dSeq (dIfS (dTest (dCB isiD (dCons (dVar 0) (dCons (dC (.ty "tuple")) (dNil))))) (dRet (dAnd (dCB isiD (dCons (dVar 1) (dCons (dC (.ty "tuple")) (dNil)))) (dOp (isD false) (dCall 2 sp_first_difference__0 (dCons (dVar 0) (dCons (dVar 1) (dNil)))) (dC .non)))) (dNext)) (dSeq (dIfS (dTest (dOp (eqA true) (dCB isiD (dCons (dVar 0) (dCons (dC (.ty "bool")) (dNil)))) (dCB isiD (dCons (dVar 1) (dCons (dC (.ty "bool")) (dNil)))))) (dRet (dC (.bl false))) (dNext)) (dRet (dAnd (dOp (eqA false) (dCB isiD (dCons (dVar 0) (dCons (dC (.ty "int")) (dNil)))) (dCB isiD (dCons (dVar 1) (dCons (dC (.ty "int")) (dNil))))) (dOp (eqA false) (dVar 0) (dVar 1)))))
def sp_same__1 : SpD := fun ds M Q E => r_same__1 { nx := fun _ M' => Q .non M', rt := Q } E (startD ["right", "thing"] ds) M
theorem ok_same__1 : FnD P w K mg base W.Ts 3 W.a15 W.d15 2 ["right", "thing"] sp_same__1 :=
  fnD (N := ["right", "thing"]) (ps := ["right", "thing"]) W.D15.F rfl sc15 (fun A outer s H E hr => qss_cons (qs_if (qt_val (qe_cb (id := "isinstance") call_isi cd_isi (by rfl) W.m_isinstance bt_isinstance (qa_cons (qv 0) (qa_cons (qe_bltn (n := "tuple") (by rfl) W.m_tuple (by decide +kernel)) (qa_nil))))) (qss_one (qs_ret (qe_and (qe_cb (id := "isinstance") call_isi cd_isi (by rfl) W.m_isinstance bt_isinstance (qa_cons (qv 1) (qa_cons (qe_bltn (n := "tuple") (by rfl) W.m_tuple (by decide +kernel)) (qa_nil)))) (qe_one (qe_cmp op_isH (od_is false) (qe_call (ok_first_difference__0 W) (hr.mono (by decide)) (by rfl) W.D16.g W.D16.kp W.D16.b takesD (qa_cons (qv 0) (qa_cons (qv 1) (qa_nil)))) (qe_non) (nomark _)))))) (qss_nil)) (qss_cons (qs_if (qt_cmp (op_neA hr.r) od_neA (qe_cb (id := "isinstance") call_isi cd_isi (by rfl) W.m_isinstance bt_isinstance (qa_cons (qv 0) (qa_cons (qe_bltn (n := "bool") (by rfl) W.m_bool (by decide +kernel)) (qa_nil)))) (qe_cb (id := "isinstance") call_isi cd_isi (by rfl) W.m_isinstance bt_isinstance (qa_cons (qv 1) (qa_cons (qe_bltn (n := "bool") (by rfl) W.m_bool (by decide +kernel)) (qa_nil)))) (nomark _)) (qss_one (qs_ret (qe_bl))) (qss_nil)) (qss_one (qs_ret (qe_and (qe_cmp (op_eqA hr.r) od_eqA (qe_cb (id := "isinstance") call_isi cd_isi (by rfl) W.m_isinstance bt_isinstance (qa_cons (qv 0) (qa_cons (qe_bltn (n := "int") (by rfl) W.m_int (by decide +kernel)) (qa_nil)))) (qe_cb (id := "isinstance") call_isi cd_isi (by rfl) W.m_isinstance bt_isinstance (qa_cons (qv 1) (qa_cons (qe_bltn (n := "int") (by rfl) W.m_int (by decide +kernel)) (qa_nil)))) (nomark _)) (qe_one (qe_cmp (op_eqA hr.r) od_eqA (qv 0) (qv 1) (nomark _)))))))) fun _ _ _ _ _ h => h
/-! first_difference__1 -/
def r_first_difference__1 : TSd := dSeq (dFor (dEnumZ (dCons (dVar 0) (dCons (dVar 1) (dNil)))) (dGTup 2 (dGCons (dGN 2) (dGCons (dGTup 2 (dGCons (dGN 3) (dGCons (dGN 4) (dGNil)))) (dGNil)))) (dIfS (dNotT (dTest (dCall 2 sp_same__1 (dCons (dVar 3) (dCons (dVar 4) (dNil)))))) (dRet (dVar 2)) (dNext))) (dSeq (dIfS (dTest (dOp (eqA false) (dCB lenD (dCons (dVar 0) (dNil))) (dCB lenD (dCons (dVar 1) (dNil))))) (dRet (dC .non)) (dNext)) (dRet (dCB (max2D false) (dCons (dCB lenD (dCons (dVar 0) (dNil))) (dCons (dCB lenD (dCons (dVar 1) (dNil))) (dNil))))))
def sp_first_difference__1 : SpD := fun ds M Q E => r_first_difference__1 { nx := fun _ M' => Q .non M', rt := Q } E (startD ["right", "thing", "at", "item", "other"] ds) M
theorem ok_first_difference__1 : FnD P w K mg base W.Ts 4 W.a16 W.d16 2 ["right", "thing"] sp_first_difference__1 :=
  fnD (N := ["right", "thing", "at", "item", "other"]) (ps := ["right", "thing"]) W.D16.F rfl sc16 (fun A outer s H E hr => qss_cons (qs_for passD rfl (qi_enumZ (by rfl) W.m_enumerate (by rfl) W.m_zip (qa_cons (qv 0) (qa_cons (qv 1) (qa_nil)))) (qg_tupA rfl (qgs_cons (qg_name (i := 2) sc16.nd rfl (by first | exact .inl rfl | exact .inr rfl)) (qgs_cons (qg_tupA rfl (qgs_cons (qg_name (i := 3) sc16.nd rfl (by first | exact .inl rfl | exact .inr rfl)) (qgs_cons (qg_name (i := 4) sc16.nd rfl (by first | exact .inl rfl | exact .inr rfl)) (qgs_nil)))) (qgs_nil)))) (qss_one (qs_if (qt_not (qt_val (qe_call (ok_same__1 W) (hr.mono (by decide)) (by rfl) W.D15.g W.D15.kp W.D15.b takesD (qa_cons (qv 3) (qa_cons (qv 4) (qa_nil)))))) (qss_one (qs_ret (qv 2))) (qss_nil)))) (qss_cons (qs_if (qt_cmp (op_eqA hr.r) od_eqA (qe_cb (id := "len") cr_lenH cd_len (by rfl) W.m_len bt_len (qa_cons (qv 0) (qa_nil))) (qe_cb (id := "len") cr_lenH cd_len (by rfl) W.m_len bt_len (qa_cons (qv 1) (qa_nil))) (nomark _)) (qss_one (qs_ret (qe_non))) (qss_nil)) (qss_one (qs_ret (qe_cb (id := "min") (call_min2 rfl) cd_min2 (by rfl) W.m_min bt_min (qa_cons (qe_cb (id := "len") cr_lenH cd_len (by rfl) W.m_len bt_len (qa_cons (qv 0) (qa_nil))) (qa_cons (qe_cb (id := "len") cr_lenH cd_len (by rfl) W.m_len bt_len (qa_cons (qv 1) (qa_nil))) (qa_nil)))))))) fun _ _ _ _ _ h => h
/-! same__2 -/
def r_same__2 : TSd := dSeq (dIfS (dTest (dCB isiD (dCons (dVar 0) (dCons (dC (.ty "tuple")) (dNil))))) (dRet (dAnd (dCB isiD (dCons (dVar 1) (dCons (dC (.ty "tuple")) (dNil)))) (dOp (isD false) (dCall 2 sp_first_difference__1 (dCons (dVar 0) (dCons (dVar 1) (dNil)))) (dC .non)))) (dNext)) (dSeq (dIfS (dTest (dOp (eqA true) (dCB isiD (dCons (dVar 0) (dCons (dC (.ty "bool")) (dNil)))) (dCB isiD (dCons (dVar 1) (dCons (dC (.ty "bool")) (dNil)))))) (dRet (dC (.bl false))) (dNext)) (dRet (dAnd (dOp (eqA false) (dCB isiD (dCons (dVar 0) (dCons (dC (.ty "int")) (dNil)))) (dCB isiD (dCons (dVar 1) (dCons (dC (.ty "int")) (dNil))))) (dOp (eqA false) (dVar 0) (dVar 1)))))
def sp_same__2 : SpD := fun ds M Q E => r_same__2 { nx := fun _ M' => Q .non M', rt := Q } E (startD ["right", "thing"] ds) M
theorem ok_same__2 : FnD P w K mg base W.Ts 5 W.a15 W.d15 2 ["right", "thing"] sp_same__2 :=
  fnD (N := ["right", "thing"]) (ps := ["right", "thing"]) W.D15.F rfl sc15 (fun A outer s H E hr => qss_cons (qs_if (qt_val (qe_cb (id := "isinstance") call_isi cd_isi (by rfl) W.m_isinstance bt_isinstance (qa_cons (qv 0) (qa_cons (qe_bltn (n := "tuple") (by rfl) W.m_tuple (by decide +kernel)) (qa_nil))))) (qss_one (qs_ret (qe_and (qe_cb (id := "isinstance") call_isi cd_isi (by rfl) W.m_isinstance bt_isinstance (qa_cons (qv 1) (qa_cons (qe_bltn (n := "tuple") (by rfl) W.m_tuple (by decide +kernel)) (qa_nil)))) (qe_one (qe_cmp op_isH (od_is false) (qe_call (ok_first_difference__1 W) (hr.mono (by decide)) (by rfl) W.D16.g W.D16.kp W.D16.b takesD (qa_cons (qv 0) (qa_cons (qv 1) (qa_nil)))) (qe_non) (nomark _)))))) (qss_nil)) (qss_cons (qs_if (qt_cmp (op_neA hr.r) od_neA (qe_cb (id := "isinstance") call_isi cd_isi (by rfl) W.m_isinstance bt_isinstance (qa_cons (qv 0) (qa_cons (qe_bltn (n := "bool") (by rfl) W.m_bool (by decide +kernel)) (qa_nil)))) (qe_cb (id := "isinstance") call_isi cd_isi (by rfl) W.m_isinstance bt_isinstance (qa_cons (qv 1) (qa_cons (qe_bltn (n := "bool") (by rfl) W.m_bool (by decide +kernel)) (qa_nil)))) (nomark _)) (qss_one (qs_ret (qe_bl))) (qss_nil)) (qss_one (qs_ret (qe_and (qe_cmp (op_eqA hr.r) od_eqA (qe_cb (id := "isinstance") call_isi cd_isi (by rfl) W.m_isinstance bt_isinstance (qa_cons (qv 0) (qa_cons (qe_bltn (n := "int") (by rfl) W.m_int (by decide +kernel)) (qa_nil)))) (qe_cb (id := "isinstance") call_isi cd_isi (by rfl) W.m_isinstance bt_isinstance (qa_cons (qv 1) (qa_cons (qe_bltn (n := "int") (by rfl) W.m_int (by decide +kernel)) (qa_nil)))) (nomark _)) (qe_one (qe_cmp (op_eqA hr.r) od_eqA (qv 0) (qv 1) (nomark _)))))))) fun _ _ _ _ _ h => h
/-! first_difference__2 -/
def r_first_difference__2 : TSd := dSeq (dFor (dEnumZ (dCons (dVar 0) (dCons (dVar 1) (dNil)))) (dGTup 2 (dGCons (dGN 2) (dGCons (dGTup 2 (dGCons (dGN 3) (dGCons (dGN 4) (dGNil)))) (dGNil)))) (dIfS (dNotT (dTest (dCall 2 sp_same__2 (dCons (dVar 3) (dCons (dVar 4) (dNil)))))) (dRet (dVar 2)) (dNext))) (dSeq (dIfS (dTest (dOp (eqA false) (dCB lenD (dCons (dVar 0) (dNil))) (dCB lenD (dCons (dVar 1) (dNil))))) (dRet (dC .non)) (dNext)) (dRet (dCB (max2D false) (dCons (dCB lenD (dCons (dVar 0) (dNil))) (dCons (dCB lenD (dCons (dVar 1) (dNil))) (dNil))))))
def sp_first_difference__2 : SpD := fun ds M Q E => r_first_difference__2 { nx := fun _ M' => Q .non M', rt := Q } E (startD ["right", "thing", "at", "item", "other"] ds) M
theorem ok_first_difference__2 : FnD P w K mg base W.Ts 6 W.a16 W.d16 2 ["right", "thing"] sp_first_difference__2 :=
  fnD (N := ["right", "thing", "at", "item", "other"]) (ps := ["right", "thing"]) W.D16.F rfl sc16 (fun A outer s H E hr => qss_cons (qs_for passD rfl (qi_enumZ (by rfl) W.m_enumerate (by rfl) W.m_zip (qa_cons (qv 0) (qa_cons (qv 1) (qa_nil)))) (qg_tupA rfl (qgs_cons (qg_name (i := 2) sc16.nd rfl (by first | exact .inl rfl | exact .inr rfl)) (qgs_cons (qg_tupA rfl (qgs_cons (qg_name (i := 3) sc16.nd rfl (by first | exact .inl rfl | exact .inr rfl)) (qgs_cons (qg_name (i := 4) sc16.nd rfl (by first | exact .inl rfl | exact .inr rfl)) (qgs_nil)))) (qgs_nil)))) (qss_one (qs_if (qt_not (qt_val (qe_call (ok_same__2 W) (hr.mono (by decide)) (by rfl) W.D15.g W.D15.kp W.D15.b takesD (qa_cons (qv 3) (qa_cons (qv 4) (qa_nil)))))) (qss_one (qs_ret (qv 2))) (qss_nil)))) (qss_cons (qs_if (qt_cmp (op_eqA hr.r) od_eqA (qe_cb (id := "len") cr_lenH cd_len (by rfl) W.m_len bt_len (qa_cons (qv 0) (qa_nil))) (qe_cb (id := "len") cr_lenH cd_len (by rfl) W.m_len bt_len (qa_cons (qv 1) (qa_nil))) (nomark _)) (qss_one (qs_ret (qe_non))) (qss_nil)) (qss_one (qs_ret (qe_cb (id := "min") (call_min2 rfl) cd_min2 (by rfl) W.m_min bt_min (qa_cons (qe_cb (id := "len") cr_lenH cd_len (by rfl) W.m_len bt_len (qa_cons (qv 0) (qa_nil))) (qa_cons (qe_cb (id := "len") cr_lenH cd_len (by rfl) W.m_len bt_len (qa_cons (qv 1) (qa_nil))) (qa_nil)))))))) fun _ _ _ _ _ h => h
end
end Z8
set_option Elab.async false
set_option linter.all false
set_option maxRecDepth 100000
set_option maxHeartbeats 4000000
namespace Z8
open PySem PySem.Spec PyProof.Rows L2 GxR Gn Dl
section
variable {P : Program} {w : World} {K : PySem.W.Frag} {mg : Str → Option Value} {base : Heap} (W : Wd K mg base)
/-! same__3 -/
def r_same__3 : TSd := dSeq (dIfS (dTest (dCB isiD (dCons (dVar 0) (dCons (dC (.ty "tuple")) (dNil))))) (dRet (dAnd (dCB isiD (dCons (dVar 1) (dCons (dC (.ty "tuple")) (dNil)))) (dOp (isD false) (dCall 2 sp_first_difference__2 (dCons (dVar 0) (dCons (dVar 1) (dNil)))) (dC .non)))) (dNext)) (dSeq (dIfS (dTest (dOp (eqA true) (dCB isiD (dCons (dVar 0) (dCons (dC (.ty "bool")) (dNil)))) (dCB isiD (dCons (dVar 1) (dCons (dC (.ty "bool")) (dNil)))))) (dRet (dC (.bl false))) (dNext)) (dRet (dAnd (dOp (eqA false) (dCB isiD (dCons (dVar 0) (dCons (dC (.ty "int")) (dNil)))) (dCB isiD (dCons (dVar 1) (dCons (dC (.ty "int")) (dNil))))) (dOp (eqA false) (dVar 0) (dVar 1)))))
def sp_same__3 : SpD := fun ds M Q E => r_same__3 { nx := fun _ M' => Q .non M', rt := Q } E (startD ["right", "thing"] ds) M
theorem ok_same__3 : FnD P w K mg base W.Ts 7 W.a15 W.d15 2 ["right", "thing"] sp_same__3 :=
  fnD (N := ["right", "thing"]) (ps := ["right", "thing"]) W.D15.F rfl sc15 (fun A outer s H E hr => qss_cons (qs_if (qt_val (qe_cb (id := "isinstance") call_isi cd_isi (by rfl) W.m_isinstance bt_isinstance (qa_cons (qv 0) (qa_cons (qe_bltn (n := "tuple") (by rfl) W.m_tuple (by decide +kernel)) (qa_nil))))) (qss_one (qs_ret (qe_and (qe_cb (id := "isinstance") call_isi cd_isi (by rfl) W.m_isinstance bt_isinstance (qa_cons (qv 1) (qa_cons (qe_bltn (n := "tuple") (by rfl) W.m_tuple (by decide +kernel)) (qa_nil)))) (qe_one (qe_cmp op_isH (od_is false) (qe_call (ok_first_difference__2 W) (hr.mono (by decide)) (by rfl) W.D16.g W.D16.kp W.D16.b takesD (qa_cons (qv 0) (qa_cons (qv 1) (qa_nil)))) (qe_non) (nomark _)))))) (qss_nil)) (qss_cons (qs_if (qt_cmp (op_neA hr.r) od_neA (qe_cb (id := "isinstance") call_isi cd_isi (by rfl) W.m_isinstance bt_isinstance (qa_cons (qv 0) (qa_cons (qe_bltn (n := "bool") (by rfl) W.m_bool (by decide +kernel)) (qa_nil)))) (qe_cb (id := "isinstance") call_isi cd_isi (by rfl) W.m_isinstance bt_isinstance (qa_cons (qv 1) (qa_cons (qe_bltn (n := "bool") (by rfl) W.m_bool (by decide +kernel)) (qa_nil)))) (nomark _)) (qss_one (qs_ret (qe_bl))) (qss_nil)) (qss_one (qs_ret (qe_and (qe_cmp (op_eqA hr.r) od_eqA (qe_cb (id := "isinstance") call_isi cd_isi (by rfl) W.m_isinstance bt_isinstance (qa_cons (qv 0) (qa_cons (qe_bltn (n := "int") (by rfl) W.m_int (by decide +kernel)) (qa_nil)))) (qe_cb (id := "isinstance") call_isi cd_isi (by rfl) W.m_isinstance bt_isinstance (qa_cons (qv 1) (qa_cons (qe_bltn (n := "int") (by rfl) W.m_int (by decide +kernel)) (qa_nil)))) (nomark _)) (qe_one (qe_cmp (op_eqA hr.r) od_eqA (qv 0) (qv 1) (nomark _)))))))) fun _ _ _ _ _ h => h
/-! first_difference__3 -/
def r_first_difference__3 : TSd := dSeq (dFor (dEnumZ (dCons (dVar 0) (dCons (dVar 1) (dNil)))) (dGTup 2 (dGCons (dGN 2) (dGCons (dGTup 2 (dGCons (dGN 3) (dGCons (dGN 4) (dGNil)))) (dGNil)))) (dIfS (dNotT (dTest (dCall 2 sp_same__3 (dCons (dVar 3) (dCons (dVar 4) (dNil)))))) (dRet (dVar 2)) (dNext))) (dSeq (dIfS (dTest (dOp (eqA false) (dCB lenD (dCons (dVar 0) (dNil))) (dCB lenD (dCons (dVar 1) (dNil))))) (dRet (dC .non)) (dNext)) (dRet (dCB (max2D false) (dCons (dCB lenD (dCons (dVar 0) (dNil))) (dCons (dCB lenD (dCons (dVar 1) (dNil))) (dNil))))))
def sp_first_difference__3 : SpD := fun ds M Q E => r_first_difference__3 { nx := fun _ M' => Q .non M', rt := Q } E (startD ["right", "thing", "at", "item", "other"] ds) M
theorem ok_first_difference__3 : FnD P w K mg base W.Ts 8 W.a16 W.d16 2 ["right", "thing"] sp_first_difference__3 :=
  fnD (N := ["right", "thing", "at", "item", "other"]) (ps := ["right", "thing"]) W.D16.F rfl sc16 (fun A outer s H E hr => qss_cons (qs_for passD rfl (qi_enumZ (by rfl) W.m_enumerate (by rfl) W.m_zip (qa_cons (qv 0) (qa_cons (qv 1) (qa_nil)))) (qg_tupA rfl (qgs_cons (qg_name (i := 2) sc16.nd rfl (by first | exact .inl rfl | exact .inr rfl)) (qgs_cons (qg_tupA rfl (qgs_cons (qg_name (i := 3) sc16.nd rfl (by first | exact .inl rfl | exact .inr rfl)) (qgs_cons (qg_name (i := 4) sc16.nd rfl (by first | exact .inl rfl | exact .inr rfl)) (qgs_nil)))) (qgs_nil)))) (qss_one (qs_if (qt_not (qt_val (qe_call (ok_same__3 W) (hr.mono (by decide)) (by rfl) W.D15.g W.D15.kp W.D15.b takesD (qa_cons (qv 3) (qa_cons (qv 4) (qa_nil)))))) (qss_one (qs_ret (qv 2))) (qss_nil)))) (qss_cons (qs_if (qt_cmp (op_eqA hr.r) od_eqA (qe_cb (id := "len") cr_lenH cd_len (by rfl) W.m_len bt_len (qa_cons (qv 0) (qa_nil))) (qe_cb (id := "len") cr_lenH cd_len (by rfl) W.m_len bt_len (qa_cons (qv 1) (qa_nil))) (nomark _)) (qss_one (qs_ret (qe_non))) (qss_nil)) (qss_one (qs_ret (qe_cb (id := "min") (call_min2 rfl) cd_min2 (by rfl) W.m_min bt_min (qa_cons (qe_cb (id := "len") cr_lenH cd_len (by rfl) W.m_len bt_len (qa_cons (qv 0) (qa_nil))) (qa_cons (qe_cb (id := "len") cr_lenH cd_len (by rfl) W.m_len bt_len (qa_cons (qv 1) (qa_nil))) (qa_nil)))))))) fun _ _ _ _ _ h => h
/-! certificate -/
def r_certificate : TSd := dSeq (dSet 2 (dCall 2 sp_first_difference__3 (dCons (dVar 0) (dCons (dVar 1) (dNil))))) (dRet (dIf (dTest (dOp (isD false) (dVar 2) (dC .non))) (dTup (dCons (dC (.str "right")) (dNil))) (dTup (dCons (dC (.str "wrong")) (dCons (dVar 2) (dNil))))))
def sp_certificate : SpD := fun ds M Q E => r_certificate { nx := fun _ M' => Q .non M', rt := Q } E (startD ["right", "thing", "at"] ds) M
theorem ok_certificate : FnD P w K mg base W.Ts 9 W.a17 W.d17 2 ["right", "thing"] sp_certificate :=
  fnD (N := ["right", "thing", "at"]) (ps := ["right", "thing"]) W.D17.F rfl sc17 (fun A outer s H E hr => qss_cons (qs_set (i := 2) sc17.nd rfl (by first | exact .inl rfl | exact .inr rfl) (qe_call (ok_first_difference__3 W) (hr.mono (by decide)) (by rfl) W.D16.g W.D16.kp W.D16.b takesD (qa_cons (qv 0) (qa_cons (qv 1) (qa_nil))))) (qss_one (qs_ret (qe_if (qt_cmp op_isH (od_is false) (qv 2) (qe_non) (nomark _)) (qe_tup (qa_cons (qe_str) (qa_nil))) (qe_tup (qa_cons (qe_str) (qa_cons (qv 2) (qa_nil)))))))) fun _ _ _ _ _ h => h
/-! _is_vector -/
def r__is_vector : TSd := dRet (dAnd (dCall 2 sp_is_tuple_of (dCons (dVar 0) (dCons (dVar 1) (dNil)))) (dAll (dWalk (dVar 0)) (dGN 2) (dCall 1 sp_is_integer (dCons (dVar 2) (dNil))) [2]))
def sp__is_vector : SpD := fun ds M Q E => r__is_vector { nx := fun _ M' => Q .non M', rt := Q } E (startD ["thing", "width", "item"] ds) M
theorem ok__is_vector : FnD P w K mg base W.Ts 3 W.a42 W.d42 2 ["thing", "width"] sp__is_vector :=
  fnD (N := ["thing", "width", "item"]) (ps := ["thing", "width"]) W.D42.F W.T42.code sc42 (fun A outer s H E hr => qss_one (qs_ret (qe_and (qe_call (ok_is_tuple_of W) (hr.mono (by decide)) (by rfl) W.D13.g W.D13.kp W.D13.b takesD (qa_cons (qv 0) (qa_cons (qv 1) (qa_nil)))) (qe_one (qe_all (own := [("item", 2)]) (g := gName 2) (by simp [Wd.Ts]) rfl hr.r (by rfl) W.m_all W.T42.tab rfl sc42.nd (blkOk_by (N := ["thing", "width", "item"]) (sc := defScope (top 42)) (by decide +kernel)) rfl (by decide +kernel) (by decide +kernel) (qi_any (qv 0)) (fun _ _ _ _ _ _ _ => pg_name (i := 2) sc42.nd rfl (by first | exact .inl rfl | exact .inr rfl)) (tg_name (by simp)) (gm_name) (fun _ _ _ _ _ _ _ h1 h2 => have hz4 : RoomG _ _ := ⟨h1, h2.trans hr.g⟩; qe_call (ok_is_integer W) (hz4.mono (by decide)) (by rfl) W.D7.g W.D7.kp W.D7.b Dl.takes0 (qa_cons (qv 2) (qa_nil)))))))) fun _ _ _ _ _ h => h
/-! _are_vectors -/
def r__are_vectors : TSd := dRet (dAnd (dCall 2 sp_is_tuple_of (dCons (dVar 0) (dCons (dVar 1) (dNil)))) (dAll (dWalk (dVar 0)) (dGN 3) (dCall 2 sp__is_vector (dCons (dVar 3) (dCons (dVar 2) (dNil)))) [3]))
def sp__are_vectors : SpD := fun ds M Q E => r__are_vectors { nx := fun _ M' => Q .non M', rt := Q } E (startD ["thing", "many", "width", "vector"] ds) M
theorem ok__are_vectors : FnD P w K mg base W.Ts 5 W.a41 W.d41 3 ["thing", "many", "width"] sp__are_vectors :=
  fnD (N := ["thing", "many", "width", "vector"]) (ps := ["thing", "many", "width"]) W.D41.F W.T41.code sc41 (fun A outer s H E hr => qss_one (qs_ret (qe_and (qe_call (ok_is_tuple_of W) (hr.mono (by decide)) (by rfl) W.D13.g W.D13.kp W.D13.b takesD (qa_cons (qv 0) (qa_cons (qv 1) (qa_nil)))) (qe_one (qe_all (own := [("vector", 3)]) (g := gName 3) (by simp [Wd.Ts]) rfl hr.r (by rfl) W.m_all W.T41.tab rfl sc41.nd (blkOk_by (N := ["thing", "many", "width", "vector"]) (sc := defScope (top 41)) (by decide +kernel)) rfl (by decide +kernel) (by decide +kernel) (qi_any (qv 0)) (fun _ _ _ _ _ _ _ => pg_name (i := 3) sc41.nd rfl (by first | exact .inl rfl | exact .inr rfl)) (tg_name (by simp)) (gm_name) (fun _ _ _ _ _ _ _ h1 h2 => have hz3 : RoomG _ _ := ⟨h1, h2.trans hr.g⟩; qe_call (ok__is_vector W) (hz3.mono (by decide)) (by rfl) W.D42.g W.D42.kp W.D42.b Dl.takes0 (qa_cons (qv 3) (qa_cons (qv 2) (qa_nil))))))))) fun _ _ _ _ _ h => h
/-! _is_layer -/
def r__is_layer : TSd := dRet (dAnd (dCall 2 sp_is_tuple_of (dCons (dVar 0) (dCons (dC (.int 4)) (dNil)))) (dAll (dWalk (dVar 0)) (dGN 2) (dCall 3 sp__are_vectors (dCons (dVar 2) (dCons (dVar 1) (dCons (dVar 1) (dNil))))) [2]))
def sp__is_layer : SpD := fun ds M Q E => r__is_layer { nx := fun _ M' => Q .non M', rt := Q } E (startD ["thing", "width", "matrix"] ds) M
theorem ok__is_layer : FnD P w K mg base W.Ts 7 W.a40 W.d40 2 ["thing", "width"] sp__is_layer :=
  fnD (N := ["thing", "width", "matrix"]) (ps := ["thing", "width"]) W.D40.F W.T40.code sc40 (fun A outer s H E hr => qss_one (qs_ret (qe_and (qe_call (ok_is_tuple_of W) (hr.mono (by decide)) (by rfl) W.D13.g W.D13.kp W.D13.b takesD (qa_cons (qv 0) (qa_cons (qe_int) (qa_nil)))) (qe_one (qe_all (own := [("matrix", 2)]) (g := gName 2) (by simp [Wd.Ts]) rfl hr.r (by rfl) W.m_all W.T40.tab rfl sc40.nd (blkOk_by (N := ["thing", "width", "matrix"]) (sc := defScope (top 40)) (by decide +kernel)) rfl (by decide +kernel) (by decide +kernel) (qi_any (qv 0)) (fun _ _ _ _ _ _ _ => pg_name (i := 2) sc40.nd rfl (by first | exact .inl rfl | exact .inr rfl)) (tg_name (by simp)) (gm_name) (fun _ _ _ _ _ _ _ h1 h2 => have hz6 : RoomG _ _ := ⟨h1, h2.trans hr.g⟩; qe_call (ok__are_vectors W) (hz6.mono (by decide)) (by rfl) W.D41.g W.D41.kp W.D41.b Dl.takes0 (qa_cons (qv 2) (qa_cons (qv 1) (qa_cons (qv 1) (qa_nil)))))))))) fun _ _ _ _ _ h => h
/-! _is_network -/
def r__is_network : TSd := dSeq (dIfS (dOrT (dNotT (dTest (dCall 2 sp_is_tuple_of (dCons (dVar 0) (dCons (dC (.int 7)) (dNil)))))) (dTest (dOp (eqA true) (dOp ixA (dVar 0) (dC (.int 0))) (dC (.str "net"))))) (dRet (dC (.bl false))) (dNext)) (dSeq (dAsg (dVar 0) (dGTup 7 (dGCons (dGN 1) (dGCons (dGN 2) (dGCons (dGN 7) (dGCons (dGN 3) (dGCons (dGN 4) (dGCons (dGN 5) (dGCons (dGN 6) (dGNil)))))))))) (dSeq (dIfS (dNotT (dAndT (dTest (dCall 2 sp_is_integer_from (dCons (dVar 2) (dCons (dC (.int 2)) (dNil))))) (dTest (dCall 2 sp_is_integer_from (dCons (dVar 7) (dCons (dC (.int 1)) (dNil))))))) (dRet (dC (.bl false))) (dNext)) (dSeq (dIfS (dNotT (dAndT (dTest (dCall 3 sp__are_vectors (dCons (dVar 3) (dCons (dVar 2) (dCons (dVar 7) (dNil)))))) (dTest (dCall 3 sp__are_vectors (dCons (dVar 6) (dCons (dVar 2) (dCons (dVar 7) (dNil)))))))) (dRet (dC (.bl false))) (dNext)) (dSeq (dIfS (dOrT (dNotT (dTest (dCB isiD (dCons (dVar 4) (dCons (dC (.ty "tuple")) (dNil)))))) (dOrT (dTest (dOp (eqA false) (dVar 4) (dTup (dNil)))) (dNotT (dTest (dCall 3 sp__are_vectors (dCons (dVar 4) (dCons (dCB lenD (dCons (dVar 4) (dNil))) (dCons (dVar 7) (dNil))))))))) (dRet (dC (.bl false))) (dNext)) (dRet (dAnd (dCB isiD (dCons (dVar 5) (dCons (dC (.ty "tuple")) (dNil)))) (dAll (dWalk (dVar 5)) (dGN 8) (dCall 2 sp__is_layer (dCons (dVar 8) (dCons (dVar 7) (dNil)))) [8])))))))
def sp__is_network : SpD := fun ds M Q E => r__is_network { nx := fun _ M' => Q .non M', rt := Q } E (startD ["thing", "_", "many", "embeds", "places", "layers", "outs", "width", "layer"] ds) M
theorem ok__is_network : FnD P w K mg base W.Ts 9 W.a39 W.d39 1 ["thing"] sp__is_network :=
  fnD (N := ["thing", "_", "many", "embeds", "places", "layers", "outs", "width", "layer"]) (ps := ["thing"]) W.D39.F W.T39.code sc39 (fun A outer s H E hr => qss_cons (qs_if (QW.t (qw_or (qt_not (qt_val (qe_call (ok_is_tuple_of W) (hr.mono (by decide)) (by rfl) W.D13.g W.D13.kp W.D13.b takesD (qa_cons (qv 0) (qa_cons (qe_int) (qa_nil)))))) (qw_or1 (qt_cmp (op_neA hr.r) od_neA (qe_at hr.r (qv 0) (qe_int)) (qe_str) (nomark _))))) (qss_one (qs_ret (qe_bl))) (qss_nil)) (qss_cons (qs_asg (qv 0) (qg_tupA rfl (qgs_cons (qg_name (i := 1) sc39.nd rfl (by first | exact .inl rfl | exact .inr rfl)) (qgs_cons (qg_name (i := 2) sc39.nd rfl (by first | exact .inl rfl | exact .inr rfl)) (qgs_cons (qg_name (i := 7) sc39.nd rfl (by first | exact .inl rfl | exact .inr rfl)) (qgs_cons (qg_name (i := 3) sc39.nd rfl (by first | exact .inl rfl | exact .inr rfl)) (qgs_cons (qg_name (i := 4) sc39.nd rfl (by first | exact .inl rfl | exact .inr rfl)) (qgs_cons (qg_name (i := 5) sc39.nd rfl (by first | exact .inl rfl | exact .inr rfl)) (qgs_cons (qg_name (i := 6) sc39.nd rfl (by first | exact .inl rfl | exact .inr rfl)) (qgs_nil)))))))))) (qss_cons (qs_if (qt_not (QW.t (qw_and (qt_val (qe_call (ok_is_integer_from W) (hr.mono (by decide)) (by rfl) W.D8.g W.D8.kp W.D8.b takesD (qa_cons (qv 2) (qa_cons (qe_int) (qa_nil))))) (qw_and1 (qt_val (qe_call (ok_is_integer_from W) (hr.mono (by decide)) (by rfl) W.D8.g W.D8.kp W.D8.b takesD (qa_cons (qv 7) (qa_cons (qe_int) (qa_nil))))))))) (qss_one (qs_ret (qe_bl))) (qss_nil)) (qss_cons (qs_if (qt_not (QW.t (qw_and (qt_val (qe_call (ok__are_vectors W) (hr.mono (by decide)) (by rfl) W.D41.g W.D41.kp W.D41.b takesD (qa_cons (qv 3) (qa_cons (qv 2) (qa_cons (qv 7) (qa_nil)))))) (qw_and1 (qt_val (qe_call (ok__are_vectors W) (hr.mono (by decide)) (by rfl) W.D41.g W.D41.kp W.D41.b takesD (qa_cons (qv 6) (qa_cons (qv 2) (qa_cons (qv 7) (qa_nil)))))))))) (qss_one (qs_ret (qe_bl))) (qss_nil)) (qss_cons (qs_if (QW.t (qw_or (qt_not (qt_val (qe_cb (id := "isinstance") call_isi cd_isi (by rfl) W.m_isinstance bt_isinstance (qa_cons (qv 4) (qa_cons (qe_bltn (n := "tuple") (by rfl) W.m_tuple (by decide +kernel)) (qa_nil)))))) (qw_or (qt_cmp (op_eqA hr.r) od_eqA (qv 4) (qe_tup (qa_nil)) (nomark _)) (qw_or1 (qt_not (qt_val (qe_call (ok__are_vectors W) (hr.mono (by decide)) (by rfl) W.D41.g W.D41.kp W.D41.b takesD (qa_cons (qv 4) (qa_cons (qe_cb (id := "len") cr_lenH cd_len (by rfl) W.m_len bt_len (qa_cons (qv 4) (qa_nil))) (qa_cons (qv 7) (qa_nil))))))))))) (qss_one (qs_ret (qe_bl))) (qss_nil)) (qss_one (qs_ret (qe_and (qe_cb (id := "isinstance") call_isi cd_isi (by rfl) W.m_isinstance bt_isinstance (qa_cons (qv 5) (qa_cons (qe_bltn (n := "tuple") (by rfl) W.m_tuple (by decide +kernel)) (qa_nil)))) (qe_one (qe_all (own := [("layer", 8)]) (g := gName 8) (by simp [Wd.Ts]) rfl hr.r (by rfl) W.m_all W.T39.tab rfl sc39.nd (blkOk_by (N := ["thing", "_", "many", "embeds", "places", "layers", "outs", "width", "layer"]) (sc := defScope (top 39)) (by decide +kernel)) rfl (by decide +kernel) (by decide +kernel) (qi_any (qv 5)) (fun _ _ _ _ _ _ _ => pg_name (i := 8) sc39.nd rfl (by first | exact .inl rfl | exact .inr rfl)) (tg_name (by simp)) (gm_name) (fun _ _ _ _ _ _ _ h1 h2 => have hz5 : RoomG _ _ := ⟨h1, h2.trans hr.g⟩; qe_call (ok__is_layer W) (hz5.mono (by decide)) (by rfl) W.D40.g W.D40.kp W.D40.b Dl.takes0 (qa_cons (qv 8) (qa_cons (qv 7) (qa_nil)))))))))))))) fun _ _ _ _ _ h => h
/-! _are_model_weights -/
def r__are_model_weights : TSd := dRet (dAnd (dCall 1 sp_are_weights (dCons (dVar 0) (dNil))) (dOp (eqA false) (dCB lenD (dCons (dVar 0) (dNil))) (dVar 1)))
def sp__are_model_weights : SpD := fun ds M Q E => r__are_model_weights { nx := fun _ M' => Q .non M', rt := Q } E (startD ["thing", "many"] ds) M
theorem ok__are_model_weights : FnD P w K mg base W.Ts 5 W.a37 W.d37 2 ["thing", "many"] sp__are_model_weights :=
  fnD (N := ["thing", "many"]) (ps := ["thing", "many"]) W.D37.F rfl sc37 (fun A outer s H E hr => qss_one (qs_ret (qe_and (qe_call (ok_are_weights W) (hr.mono (by decide)) (by rfl) W.D12.g W.D12.kp W.D12.b takesD (qa_cons (qv 0) (qa_nil))) (qe_one (qe_cmp (op_eqA hr.r) od_eqA (qe_cb (id := "len") cr_lenH cd_len (by rfl) W.m_len bt_len (qa_cons (qv 0) (qa_nil))) (qv 1) (nomark _)))))) fun _ _ _ _ _ h => h
/-! _is_entry -/
def r__is_entry : TSd := dSeq (dIfS (dNotT (dTest (dCall 2 sp_is_tuple_of (dCons (dVar 0) (dCons (dC (.int 2)) (dNil)))))) (dRet (dC (.bl false))) (dNext)) (dSeq (dAsg (dVar 0) (dGTup 2 (dGCons (dGN 3) (dGCons (dGN 4) (dGNil))))) (dRet (dAnd (dCall 2 sp_are_tokens (dCons (dVar 3) (dCons (dVar 1) (dNil)))) (dAnd (dOp (cmpD false) (dCB lenD (dCons (dVar 3) (dNil))) (dVar 2)) (dCall 2 sp__are_model_weights (dCons (dVar 4) (dCons (dVar 1) (dNil))))))))
def sp__is_entry : SpD := fun ds M Q E => r__is_entry { nx := fun _ M' => Q .non M', rt := Q } E (startD ["thing", "many", "k", "last", "weights"] ds) M
theorem ok__is_entry : FnD P w K mg base W.Ts 6 W.a36 W.d36 3 ["thing", "many", "k"] sp__is_entry :=
  fnD (N := ["thing", "many", "k", "last", "weights"]) (ps := ["thing", "many", "k"]) W.D36.F rfl sc36 (fun A outer s H E hr => qss_cons (qs_if (qt_not (qt_val (qe_call (ok_is_tuple_of W) (hr.mono (by decide)) (by rfl) W.D13.g W.D13.kp W.D13.b takesD (qa_cons (qv 0) (qa_cons (qe_int) (qa_nil)))))) (qss_one (qs_ret (qe_bl))) (qss_nil)) (qss_cons (qs_asg (qv 0) (qg_tupA rfl (qgs_cons (qg_name (i := 3) sc36.nd rfl (by first | exact .inl rfl | exact .inr rfl)) (qgs_cons (qg_name (i := 4) sc36.nd rfl (by first | exact .inl rfl | exact .inr rfl)) (qgs_nil))))) (qss_one (qs_ret (qe_and (qe_call (ok_are_tokens W) (hr.mono (by decide)) (by rfl) W.D11.g W.D11.kp W.D11.b takesD (qa_cons (qv 3) (qa_cons (qv 1) (qa_nil)))) (qe_and (qe_cmp op_leH od_leH (qe_cb (id := "len") cr_lenH cd_len (by rfl) W.m_len bt_len (qa_cons (qv 3) (qa_nil))) (qv 2) (nomark _)) (qe_one (qe_call (ok__are_model_weights W) (hr.mono (by decide)) (by rfl) W.D37.g W.D37.kp W.D37.b takesD (qa_cons (qv 4) (qa_cons (qv 1) (qa_nil))))))))))) fun _ _ _ _ _ h => h
/-! _is_window_model -/
def r__is_window_model : TSd := dSeq (dIfS (dOrT (dNotT (dTest (dCall 2 sp_is_tuple_of (dCons (dVar 0) (dCons (dC (.int 5)) (dNil)))))) (dTest (dOp (eqA true) (dOp ixA (dVar 0) (dC (.int 0))) (dC (.str "window"))))) (dRet (dC (.bl false))) (dNext)) (dSeq (dAsg (dVar 0) (dGTup 5 (dGCons (dGN 1) (dGCons (dGN 5) (dGCons (dGN 4) (dGCons (dGN 2) (dGCons (dGN 3) (dGNil)))))))) (dSeq (dIfS (dNotT (dAndT (dTest (dCall 2 sp_is_integer_from (dCons (dVar 5) (dCons (dC (.int 2)) (dNil))))) (dAndT (dTest (dCall 2 sp_is_integer_from (dCons (dVar 4) (dCons (dC (.int 0)) (dNil))))) (dTest (dCB isiD (dCons (dVar 2) (dCons (dC (.ty "tuple")) (dNil)))))))) (dRet (dC (.bl false))) (dNext)) (dSeq (dIfS (dNotT (dTest (dAll (dWalk (dVar 2)) (dGN 6) (dCall 3 sp__is_entry (dCons (dVar 6) (dCons (dVar 5) (dCons (dVar 4) (dNil))))) [6]))) (dRet (dC (.bl false))) (dNext)) (dRet (dAnd (dCall 2 sp__are_model_weights (dCons (dVar 3) (dCons (dVar 5) (dNil)))) (dCall 1 sp_is_ascending (dCons (dLc (dWalk (dVar 2)) (dGTup 2 (dGCons (dGN 7) (dGCons (dGN 1) (dGNil)))) (dYes) (dVar 7) [7, 1]) (dNil))))))))
def sp__is_window_model : SpD := fun ds M Q E => r__is_window_model { nx := fun _ M' => Q .non M', rt := Q } E (startD ["thing", "_", "entries", "default", "k", "many", "entry", "last"] ds) M
theorem ok__is_window_model : FnD P w K mg base W.Ts 8 W.a35 W.d35 1 ["thing"] sp__is_window_model :=
  fnD (N := ["thing", "_", "entries", "default", "k", "many", "entry", "last"]) (ps := ["thing"]) W.D35.F W.T35.code sc35 (fun A outer s H E hr => qss_cons (qs_if (QW.t (qw_or (qt_not (qt_val (qe_call (ok_is_tuple_of W) (hr.mono (by decide)) (by rfl) W.D13.g W.D13.kp W.D13.b takesD (qa_cons (qv 0) (qa_cons (qe_int) (qa_nil)))))) (qw_or1 (qt_cmp (op_neA hr.r) od_neA (qe_at hr.r (qv 0) (qe_int)) (qe_str) (nomark _))))) (qss_one (qs_ret (qe_bl))) (qss_nil)) (qss_cons (qs_asg (qv 0) (qg_tupA rfl (qgs_cons (qg_name (i := 1) sc35.nd rfl (by first | exact .inl rfl | exact .inr rfl)) (qgs_cons (qg_name (i := 5) sc35.nd rfl (by first | exact .inl rfl | exact .inr rfl)) (qgs_cons (qg_name (i := 4) sc35.nd rfl (by first | exact .inl rfl | exact .inr rfl)) (qgs_cons (qg_name (i := 2) sc35.nd rfl (by first | exact .inl rfl | exact .inr rfl)) (qgs_cons (qg_name (i := 3) sc35.nd rfl (by first | exact .inl rfl | exact .inr rfl)) (qgs_nil)))))))) (qss_cons (qs_if (qt_not (QW.t (qw_and (qt_val (qe_call (ok_is_integer_from W) (hr.mono (by decide)) (by rfl) W.D8.g W.D8.kp W.D8.b takesD (qa_cons (qv 5) (qa_cons (qe_int) (qa_nil))))) (qw_and (qt_val (qe_call (ok_is_integer_from W) (hr.mono (by decide)) (by rfl) W.D8.g W.D8.kp W.D8.b takesD (qa_cons (qv 4) (qa_cons (qe_int) (qa_nil))))) (qw_and1 (qt_val (qe_cb (id := "isinstance") call_isi cd_isi (by rfl) W.m_isinstance bt_isinstance (qa_cons (qv 2) (qa_cons (qe_bltn (n := "tuple") (by rfl) W.m_tuple (by decide +kernel)) (qa_nil)))))))))) (qss_one (qs_ret (qe_bl))) (qss_nil)) (qss_cons (qs_if (qt_not (qt_val (qe_all (own := [("entry", 6)]) (g := gName 6) (by simp [Wd.Ts]) rfl hr.r (by rfl) W.m_all W.T35.tab rfl sc35.nd (blkOk_by (N := ["thing", "_", "entries", "default", "k", "many", "entry", "last"]) (sc := defScope (top 35)) (by decide +kernel)) rfl (by decide +kernel) (by decide +kernel) (qi_any (qv 2)) (fun _ _ _ _ _ _ _ => pg_name (i := 6) sc35.nd rfl (by first | exact .inl rfl | exact .inr rfl)) (tg_name (by simp)) (gm_name) (fun _ _ _ _ _ _ _ h1 h2 => have hz7 : RoomG _ _ := ⟨h1, h2.trans hr.g⟩; qe_call (ok__is_entry W) (hz7.mono (by decide)) (by rfl) W.D36.g W.D36.kp W.D36.b Dl.takes0 (qa_cons (qv 6) (qa_cons (qv 5) (qa_cons (qv 4) (qa_nil)))))))) (qss_one (qs_ret (qe_bl))) (qss_nil)) (qss_one (qs_ret (qe_and (qe_call (ok__are_model_weights W) (hr.mono (by decide)) (by rfl) W.D37.g W.D37.kp W.D37.b takesD (qa_cons (qv 3) (qa_cons (qv 5) (qa_nil)))) (qe_one (qe_call (ok_is_ascending W) (hr.mono (by decide)) (by rfl) W.D14.g W.D14.kp W.D14.b takesD (qa_cons (qe_lc (own := [("last", 7), ("_", 1)]) (g := gTup K 2 (gCons (gName 7) (gCons (gName 1) (gNil)))) rfl sc35.nd (qi_any (qv 2)) (blkOk_by (N := ["thing", "_", "entries", "default", "k", "many", "entry", "last"]) (sc := defScope (top 35)) (by decide +kernel)) (fun _ _ _ _ _ => pg_tup rfl (pgs_cons (pg_name (i := 7) sc35.nd rfl (by first | exact .inl rfl | exact .inr rfl)) (pgs_cons (pg_name (i := 1) sc35.nd rfl (by first | exact .inl rfl | exact .inr rfl)) (pgs_nil)))) (tg_tup (tgs_cons (gm_name) (gm_cons (gm_name) (gm_nil)) (tg_name (by simp)) (tgs_cons (gm_name) (gm_nil) (tg_name (by simp)) (tgs_nil)))) (gm_tup (gm_cons (gm_name) (gm_cons (gm_name) (gm_nil)))) (fun _ _ _ _ _ => qts_nil) (fun _ _ _ _ _ => qv 7)) (qa_nil))))))))))) fun _ _ _ _ _ h => h
/-! is_model -/
def r_is_model : TSd := dRet (dOr (dCall 1 sp__is_window_model (dCons (dVar 0) (dNil))) (dCall 1 sp__is_network (dCons (dVar 0) (dNil))))
def sp_is_model : SpD := fun ds M Q E => r_is_model { nx := fun _ M' => Q .non M', rt := Q } E (startD ["thing"] ds) M
theorem ok_is_model : FnD P w K mg base W.Ts 10 W.a22 W.d22 1 ["thing"] sp_is_model :=
  fnD (N := ["thing"]) (ps := ["thing"]) W.D22.F rfl sc22 (fun A outer s H E hr => qss_one (qs_ret (qe_or (qe_call (ok__is_window_model W) (hr.mono (by decide)) (by rfl) W.D35.g W.D35.kp W.D35.b takesD (qa_cons (qv 0) (qa_nil))) (qe_one (qe_call (ok__is_network W) (hr.mono (by decide)) (by rfl) W.D39.g W.D39.kp W.D39.b takesD (qa_cons (qv 0) (qa_nil))))))) fun _ _ _ _ _ h => h
/-! _need_model -/
def r__need_model : TSd := dIfS (dNotT (dTest (dCall 1 sp_is_model (dCons (dVar 0) (dNil))))) (dNever) (dNext)
def sp__need_model : SpD := fun ds M Q E => r__need_model { nx := fun _ M' => Q .non M', rt := Q } E (startD ["model"] ds) M
theorem ok__need_model : FnD P w K mg base W.Ts 11 W.a33 W.d33 1 ["model"] sp__need_model :=
  fnD (N := ["model"]) (ps := ["model"]) W.D33.F rfl sc33 (fun A outer s H E hr => qss_one (qs_if (qt_not (qt_val (qe_call (ok_is_model W) (hr.mono (by decide)) (by rfl) W.D22.g W.D22.kp W.D22.b takesD (qa_cons (qv 0) (qa_nil))))) (qss_one (qs_never)) (qss_nil))) fun _ _ _ _ _ h => h
/-! model_size -/
def r_model_size : TSd := dSeq (dDrop (dCall 1 sp__need_model (dCons (dVar 0) (dNil)))) (dRet (dOp ixA (dVar 0) (dC (.int 1))))
def sp_model_size : SpD := fun ds M Q E => r_model_size { nx := fun _ M' => Q .non M', rt := Q } E (startD ["model"] ds) M
theorem ok_model_size : FnD P w K mg base W.Ts 12 W.a23 W.d23 1 ["model"] sp_model_size :=
  fnD (N := ["model"]) (ps := ["model"]) W.D23.F rfl sc23 (fun A outer s H E hr => qss_cons (qs_expr (qe_call (ok__need_model W) (hr.mono (by decide)) (by rfl) W.D33.g W.D33.kp W.D33.b takesD (qa_cons (qv 0) (qa_nil)))) (qss_one (qs_ret (qe_at hr.r (qv 0) (qe_int))))) fun _ _ _ _ _ h => h
/-! _need_tokens -/
def r__need_tokens : TSd := dIfS (dOrT (dNotT (dTest (dCall 2 sp_are_tokens (dCons (dVar 1) (dCons (dOp ixA (dVar 0) (dC (.int 1))) (dNil)))))) (dTest (dOp (eqA false) (dVar 1) (dTup (dNil))))) (dNever) (dNext)
def sp__need_tokens : SpD := fun ds M Q E => r__need_tokens { nx := fun _ M' => Q .non M', rt := Q } E (startD ["model", "tokens"] ds) M
theorem ok__need_tokens : FnD P w K mg base W.Ts 6 W.a34 W.d34 2 ["model", "tokens"] sp__need_tokens :=
  fnD (N := ["model", "tokens"]) (ps := ["model", "tokens"]) W.D34.F rfl sc34 (fun A outer s H E hr => qss_one (qs_if (QW.t (qw_or (qt_not (qt_val (qe_call (ok_are_tokens W) (hr.mono (by decide)) (by rfl) W.D11.g W.D11.kp W.D11.b takesD (qa_cons (qv 1) (qa_cons (qe_at hr.r (qv 0) (qe_int)) (qa_nil)))))) (qw_or1 (qt_cmp (op_eqA hr.r) od_eqA (qv 1) (qe_tup (qa_nil)) (nomark _))))) (qss_one (qs_never)) (qss_nil))) fun _ _ _ _ _ h => h
end
end Z8
set_option Elab.async false
set_option linter.all false
set_option maxRecDepth 100000
set_option maxHeartbeats 4000000
namespace Z8
open PySem PySem.Spec PyProof.Rows L2 GxR Gn Dl
section
variable {P : Program} {w : World} {K : PySem.W.Frag} {mg : Str → Option Value} {base : Heap} (W : Wd K mg base)
/-! _window_weights -/
def r__window_weights : TSd := dSeq (dAsg (dVar 0) (dGTup 5 (dGCons (dGN 2) (dGCons (dGN 2) (dGCons (dGN 3) (dGCons (dGN 4) (dGCons (dGN 5) (dGNil)))))))) (dSeq (dSet 6 (dSl (dVar 1) (dPart (dCB (max2D true) (dCons (dC (.int 0)) (dCons (dOp subD (dCB lenD (dCons (dVar 1) (dNil))) (dVar 3)) (dNil))))) (dNo))) (dSeq (dFor (dWalk (dVar 4)) (dGTup 2 (dGCons (dGN 7) (dGCons (dGN 8) (dGNil)))) (dIfS (dTest (dOp (eqA false) (dVar 7) (dVar 6))) (dRet (dVar 8)) (dNext))) (dRet (dVar 5))))
def sp__window_weights : SpD := fun ds M Q E => r__window_weights { nx := fun _ M' => Q .non M', rt := Q } E (startD ["model", "tokens", "_", "k", "entries", "default", "seen", "last", "weights"] ds) M
theorem ok__window_weights : FnD P w K mg base W.Ts 1 W.a38 W.d38 2 ["model", "tokens"] sp__window_weights :=
  fnD (N := ["model", "tokens", "_", "k", "entries", "default", "seen", "last", "weights"]) (ps := ["model", "tokens"]) W.D38.F rfl sc38 (fun A outer s H E hr => qss_cons (qs_asg (qv 0) (qg_tupA rfl (qgs_cons (qg_name (i := 2) sc38.nd rfl (by first | exact .inl rfl | exact .inr rfl)) (qgs_cons (qg_name (i := 2) sc38.nd rfl (by first | exact .inl rfl | exact .inr rfl)) (qgs_cons (qg_name (i := 3) sc38.nd rfl (by first | exact .inl rfl | exact .inr rfl)) (qgs_cons (qg_name (i := 4) sc38.nd rfl (by first | exact .inl rfl | exact .inr rfl)) (qgs_cons (qg_name (i := 5) sc38.nd rfl (by first | exact .inl rfl | exact .inr rfl)) (qgs_nil)))))))) (qss_cons (qs_set (i := 6) sc38.nd rfl (by first | exact .inl rfl | exact .inr rfl) (qe_slice (qv 1) (qo_some (qe_cb (id := "max") (call_max2 rfl) cd_max2 (by rfl) W.m_max bt_max (qa_cons (qe_int) (qa_cons (qe_sub (qe_cb (id := "len") cr_lenH cd_len (by rfl) W.m_len bt_len (qa_cons (qv 1) (qa_nil))) (qv 3)) (qa_nil))))) (qo_none))) (qss_cons (qs_for passD rfl (qi_any (qv 4)) (qg_tupA rfl (qgs_cons (qg_name (i := 7) sc38.nd rfl (by first | exact .inl rfl | exact .inr rfl)) (qgs_cons (qg_name (i := 8) sc38.nd rfl (by first | exact .inl rfl | exact .inr rfl)) (qgs_nil)))) (qss_one (qs_if (qt_cmp (op_eqA hr.r) od_eqA (qv 7) (qv 6) (nomark _)) (qss_one (qs_ret (qv 8))) (qss_nil)))) (qss_one (qs_ret (qv 5)))))) fun _ _ _ _ _ h => h
/-! _clipped -/
def r__clipped : TSd := dRet (dCB (max2D true) (dCons (dNeg (dC (.int 20))) (dCons (dCB (max2D false) (dCons (dC (.int 20)) (dCons (dVar 0) (dNil)))) (dNil))))
def sp__clipped : SpD := fun ds M Q E => r__clipped { nx := fun _ M' => Q .non M', rt := Q } E (startD ["item"] ds) M
theorem ok__clipped : FnD P w K mg base W.Ts 1 W.a49 W.d49 1 ["item"] sp__clipped :=
  fnD (N := ["item"]) (ps := ["item"]) W.D49.F rfl sc49 (fun A outer s H E hr => qss_one (qs_ret (qe_cb (id := "max") (call_max2 rfl) cd_max2 (by rfl) W.m_max bt_max (qa_cons (qe_neg (qe_globI (by rfl) W.g_GREATEST_ITEM)) (qa_cons (qe_cb (id := "min") (call_min2 rfl) cd_min2 (by rfl) W.m_min bt_min (qa_cons (qe_globI (by rfl) W.g_GREATEST_ITEM) (qa_cons (qv 0) (qa_nil)))) (qa_nil)))))) fun _ _ _ _ _ h => h
/-! _clipped_sum -/
def r__clipped_sum : TSd := dRet (dCB tupOfD (dCons (dLc (dZip (dCons (dVar 0) (dCons (dVar 1) (dNil)))) (dGTup 2 (dGCons (dGN 2) (dGCons (dGN 3) (dGNil)))) (dYes) (dCall 1 sp__clipped (dCons (dOp addD (dVar 2) (dVar 3)) (dNil))) [2, 3]) (dNil)))
def sp__clipped_sum : SpD := fun ds M Q E => r__clipped_sum { nx := fun _ M' => Q .non M', rt := Q } E (startD ["one", "other", "item", "partner"] ds) M
theorem ok__clipped_sum : FnD P w K mg base W.Ts 2 W.a48 W.d48 2 ["one", "other"] sp__clipped_sum :=
  fnD (N := ["one", "other", "item", "partner"]) (ps := ["one", "other"]) W.D48.F rfl sc48 (fun A outer s H E hr => qss_one (qs_ret (qe_cty (T := "tuple") call_tuple_of cd_tup (by rfl) W.m_tuple bt_tuple (qa_cons (qe_lc (own := [("item", 2), ("partner", 3)]) (g := gTup K 2 (gCons (gName 2) (gCons (gName 3) (gNil)))) rfl sc48.nd (qi_zip (by rfl) W.m_zip (qa_cons (qv 0) (qa_cons (qv 1) (qa_nil)))) (blkOk_by (N := ["one", "other", "item", "partner"]) (sc := defScope (top 48)) (by decide +kernel)) (fun _ _ _ _ _ => pg_tup rfl (pgs_cons (pg_name (i := 2) sc48.nd rfl (by first | exact .inl rfl | exact .inr rfl)) (pgs_cons (pg_name (i := 3) sc48.nd rfl (by first | exact .inl rfl | exact .inr rfl)) (pgs_nil)))) (tg_tup (tgs_cons (gm_name) (gm_cons (gm_name) (gm_nil)) (tg_name (by simp)) (tgs_cons (gm_name) (gm_nil) (tg_name (by simp)) (tgs_nil)))) (gm_tup (gm_cons (gm_name) (gm_cons (gm_name) (gm_nil)))) (fun _ _ _ _ _ => qts_nil) (fun _ _ _ _ _ => qe_call (ok__clipped W) (hr.mono (by decide)) (by rfl) W.D49.g W.D49.kp W.D49.b Dl.takes0 (qa_cons (qe_add (qv 2) (qv 3)) (qa_nil)))) (qa_nil))))) fun _ _ _ _ _ h => h
/-! _scalar_product -/
def r__scalar_product : TSd := dRet (dCB sumHD (dCons (dLc (dZip (dCons (dVar 0) (dCons (dVar 1) (dNil)))) (dGTup 2 (dGCons (dGN 2) (dGCons (dGN 3) (dGNil)))) (dYes) (dOp mulA (dVar 2) (dVar 3)) [2, 3]) (dNil)))
def sp__scalar_product : SpD := fun ds M Q E => r__scalar_product { nx := fun _ M' => Q .non M', rt := Q } E (startD ["one", "other", "item", "partner"] ds) M
theorem ok__scalar_product : FnD P w K mg base W.Ts 1 W.a47 W.d47 2 ["one", "other"] sp__scalar_product :=
  fnD (N := ["one", "other", "item", "partner"]) (ps := ["one", "other"]) W.D47.F rfl sc47 (fun A outer s H E hr => qss_one (qs_ret (qe_cb (id := "sum") (cr_sumH rfl) cd_sumH (by rfl) W.m_sum bt_sum (qa_cons (qe_lc (own := [("item", 2), ("partner", 3)]) (g := gTup K 2 (gCons (gName 2) (gCons (gName 3) (gNil)))) rfl sc47.nd (qi_zip (by rfl) W.m_zip (qa_cons (qv 0) (qa_cons (qv 1) (qa_nil)))) (blkOk_by (N := ["one", "other", "item", "partner"]) (sc := defScope (top 47)) (by decide +kernel)) (fun _ _ _ _ _ => pg_tup rfl (pgs_cons (pg_name (i := 2) sc47.nd rfl (by first | exact .inl rfl | exact .inr rfl)) (pgs_cons (pg_name (i := 3) sc47.nd rfl (by first | exact .inl rfl | exact .inr rfl)) (pgs_nil)))) (tg_tup (tgs_cons (gm_name) (gm_cons (gm_name) (gm_nil)) (tg_name (by simp)) (tgs_cons (gm_name) (gm_nil) (tg_name (by simp)) (tgs_nil)))) (gm_tup (gm_cons (gm_name) (gm_cons (gm_name) (gm_nil)))) (fun _ _ _ _ _ => qts_nil) (fun _ _ _ _ _ => qe_mulA (qv 2) (qv 3))) (qa_nil))))) fun _ _ _ _ _ h => h
/-! _times -/
def r__times : TSd := dRet (dCB tupOfD (dCons (dLc (dWalk (dVar 0)) (dGN 2) (dYes) (dCall 2 sp__scalar_product (dCons (dVar 2) (dCons (dVar 1) (dNil)))) [2]) (dNil)))
def sp__times : SpD := fun ds M Q E => r__times { nx := fun _ M' => Q .non M', rt := Q } E (startD ["matrix", "vector", "row"] ds) M
theorem ok__times : FnD P w K mg base W.Ts 2 W.a46 W.d46 2 ["matrix", "vector"] sp__times :=
  fnD (N := ["matrix", "vector", "row"]) (ps := ["matrix", "vector"]) W.D46.F rfl sc46 (fun A outer s H E hr => qss_one (qs_ret (qe_cty (T := "tuple") call_tuple_of cd_tup (by rfl) W.m_tuple bt_tuple (qa_cons (qe_lc (own := [("row", 2)]) (g := gName 2) rfl sc46.nd (qi_any (qv 0)) (blkOk_by (N := ["matrix", "vector", "row"]) (sc := defScope (top 46)) (by decide +kernel)) (fun _ _ _ _ _ => pg_name (i := 2) sc46.nd rfl (by first | exact .inl rfl | exact .inr rfl)) (tg_name (by simp)) (gm_name) (fun _ _ _ _ _ => qts_nil) (fun _ _ _ _ _ => qe_call (ok__scalar_product W) (hr.mono (by decide)) (by rfl) W.D47.g W.D47.kp W.D47.b Dl.takes0 (qa_cons (qv 2) (qa_cons (qv 1) (qa_nil))))) (qa_nil))))) fun _ _ _ _ _ h => h
/-! _shares -/
def r__shares : TSd := dSeq (dSet 1 (dCB maxHD (dCons (dVar 0) (dNil)))) (dRet (dCB tupOfD (dCons (dLc (dWalk (dVar 0)) (dGN 2) (dYes) (dOp shrD (dC (.int 64)) (dCB (max2D false) (dCons (dC (.int 6)) (dCons (dOp subD (dVar 1) (dVar 2)) (dNil))))) [2]) (dNil))))
def sp__shares : SpD := fun ds M Q E => r__shares { nx := fun _ M' => Q .non M', rt := Q } E (startD ["scores", "greatest", "score"] ds) M
theorem ok__shares : FnD P w K mg base W.Ts 1 W.a45 W.d45 1 ["scores"] sp__shares :=
  fnD (N := ["scores", "greatest", "score"]) (ps := ["scores"]) W.D45.F rfl sc45 (fun A outer s H E hr => qss_cons (qs_set (i := 1) sc45.nd rfl (by first | exact .inl rfl | exact .inr rfl) (qe_cb (id := "max") (cr_maxH rfl) cd_maxH (by rfl) W.m_max bt_max (qa_cons (qv 0) (qa_nil)))) (qss_one (qs_ret (qe_cty (T := "tuple") call_tuple_of cd_tup (by rfl) W.m_tuple bt_tuple (qa_cons (qe_lc (own := [("score", 2)]) (g := gName 2) rfl sc45.nd (qi_any (qv 0)) (blkOk_by (N := ["scores", "greatest", "score"]) (sc := defScope (top 45)) (by decide +kernel)) (fun _ _ _ _ _ => pg_name (i := 2) sc45.nd rfl (by first | exact .inl rfl | exact .inr rfl)) (tg_name (by simp)) (gm_name) (fun _ _ _ _ _ => qts_nil) (fun _ _ _ _ _ => qe_shr (qe_globI (by rfl) W.g_GREATEST_SHARE) (qe_cb (id := "min") (call_min2 rfl) cd_min2 (by rfl) W.m_min bt_min (qa_cons (qe_globI (by rfl) W.g_MOST_HALVINGS) (qa_cons (qe_sub (qv 1) (qv 2)) (qa_nil)))))) (qa_nil)))))) fun _ _ _ _ _ h => h
/-! _mixed -/
def r__mixed : TSd := dSeq (dSet 2 (dCall 1 sp__shares (dCons (dLc (dWalk (dVar 1)) (dGTup 2 (dGCons (dGN 7) (dGCons (dGN 5) (dGNil)))) (dYes) (dCall 2 sp__scalar_product (dCons (dVar 0) (dCons (dVar 7) (dNil)))) [7, 5]) (dNil)))) (dSeq (dSet 3 (dCB sumHD (dCons (dVar 2) (dNil)))) (dSeq (dSet 4 (dLc (dWalk (dVar 1)) (dGTup 2 (dGCons (dGN 5) (dGCons (dGN 6) (dGNil)))) (dYes) (dVar 6) [5, 6])) (dRet (dCB tupOfD (dCons (dLc (dZipS (dVar 4)) (dGN 8) (dYes) (dOp fdivD (dCall 2 sp__scalar_product (dCons (dVar 2) (dCons (dVar 8) (dNil)))) (dVar 3)) [8]) (dNil))))))
def sp__mixed : SpD := fun ds M Q E => r__mixed { nx := fun _ M' => Q .non M', rt := Q } E (startD ["asked", "pairs", "shares", "whole", "worths", "_", "worth", "key", "column"] ds) M
theorem ok__mixed : FnD P w K mg base W.Ts 2 W.a44 W.d44 2 ["asked", "pairs"] sp__mixed :=
  fnD (N := ["asked", "pairs", "shares", "whole", "worths", "_", "worth", "key", "column"]) (ps := ["asked", "pairs"]) W.D44.F rfl sc44 (fun A outer s H E hr => qss_cons (qs_set (i := 2) sc44.nd rfl (by first | exact .inl rfl | exact .inr rfl) (qe_call (ok__shares W) (hr.mono (by decide)) (by rfl) W.D45.g W.D45.kp W.D45.b takesD (qa_cons (qe_lc (own := [("key", 7), ("_", 5)]) (g := gTup K 2 (gCons (gName 7) (gCons (gName 5) (gNil)))) rfl sc44.nd (qi_any (qv 1)) (blkOk_by (N := ["asked", "pairs", "shares", "whole", "worths", "_", "worth", "key", "column"]) (sc := defScope (top 44)) (by decide +kernel)) (fun _ _ _ _ _ => pg_tup rfl (pgs_cons (pg_name (i := 7) sc44.nd rfl (by first | exact .inl rfl | exact .inr rfl)) (pgs_cons (pg_name (i := 5) sc44.nd rfl (by first | exact .inl rfl | exact .inr rfl)) (pgs_nil)))) (tg_tup (tgs_cons (gm_name) (gm_cons (gm_name) (gm_nil)) (tg_name (by simp)) (tgs_cons (gm_name) (gm_nil) (tg_name (by simp)) (tgs_nil)))) (gm_tup (gm_cons (gm_name) (gm_cons (gm_name) (gm_nil)))) (fun _ _ _ _ _ => qts_nil) (fun _ _ _ _ _ => qe_call (ok__scalar_product W) (hr.mono (by decide)) (by rfl) W.D47.g W.D47.kp W.D47.b Dl.takes0 (qa_cons (qv 0) (qa_cons (qv 7) (qa_nil))))) (qa_nil)))) (qss_cons (qs_set (i := 3) sc44.nd rfl (by first | exact .inl rfl | exact .inr rfl) (qe_cb (id := "sum") (cr_sumH rfl) cd_sumH (by rfl) W.m_sum bt_sum (qa_cons (qv 2) (qa_nil)))) (qss_cons (qs_setLc (i := 4) (own := [("_", 5), ("worth", 6)]) (g := gTup K 2 (gCons (gName 5) (gCons (gName 6) (gNil)))) rfl sc44.nd rfl rfl (sw_true rfl rfl rfl (by decide +kernel)) (qi_any (qv 1)) (blkOk_by (N := ["asked", "pairs", "shares", "whole", "worths", "_", "worth", "key", "column"]) (sc := defScope (top 44)) (by decide +kernel)) (fun _ _ _ _ _ => pg_tup rfl (pgs_cons (pg_name (i := 5) sc44.nd rfl (by first | exact .inl rfl | exact .inr rfl)) (pgs_cons (pg_name (i := 6) sc44.nd rfl (by first | exact .inl rfl | exact .inr rfl)) (pgs_nil)))) (tg_tup (tgs_cons (gm_name) (gm_cons (gm_name) (gm_nil)) (tg_name (by simp)) (tgs_cons (gm_name) (gm_nil) (tg_name (by simp)) (tgs_nil)))) (gm_tup (gm_cons (gm_name) (gm_cons (gm_name) (gm_nil)))) (fun _ _ _ _ _ => qts_nil) (fun _ _ _ _ _ => qv 6)) (qss_one (qs_ret (qe_cty (T := "tuple") call_tuple_of cd_tup (by rfl) W.m_tuple bt_tuple (qa_cons (qe_lc (own := [("column", 8)]) (g := gName 8) rfl sc44.nd (qi_zipS (by rfl) W.m_zip (qv 4)) (blkOk_by (N := ["asked", "pairs", "shares", "whole", "worths", "_", "worth", "key", "column"]) (sc := defScope (top 44)) (by decide +kernel)) (fun _ _ _ _ _ => pg_name (i := 8) sc44.nd rfl (by first | exact .inl rfl | exact .inr rfl)) (tg_name (by simp)) (gm_name) (fun _ _ _ _ _ => qts_nil) (fun _ _ _ _ _ => qe_fdiv (qe_call (ok__scalar_product W) (hr.mono (by decide)) (by rfl) W.D47.g W.D47.kp W.D47.b Dl.takes0 (qa_cons (qv 2) (qa_cons (qv 8) (qa_nil)))) (qv 3))) (qa_nil)))))))) fun _ _ _ _ _ h => h
/-! _network_step -/
def r__network_step : TSd := dSeq (dAsg (dVar 0) (dGTup 7 (dGCons (dGN 3) (dGCons (dGN 3) (dGCons (dGN 3) (dGCons (dGN 4) (dGCons (dGN 5) (dGCons (dGN 6) (dGCons (dGN 7) (dGNil)))))))))) (dSeq (dSet 8 (dCall 2 sp__clipped_sum (dCons (dOp ixA (dVar 4) (dVar 2)) (dCons (dOp ixA (dVar 5) (dOp modD (dCB lenD (dCons (dVar 1) (dNil))) (dCB lenD (dCons (dVar 5) (dNil))))) (dNil))))) (dSeq (dSet 9 (dLst (dNil))) (dSeq (dFor (dEnumA (dCons (dVar 6) (dNil))) (dGTup 2 (dGCons (dGN 10) (dGCons (dGTup 4 (dGCons (dGN 11) (dGCons (dGN 12) (dGCons (dGN 13) (dGCons (dGN 14) (dGNil)))))) (dGNil)))) (dSeq (dSet 15 (dTup (dCons (dCall 2 sp__times (dCons (dVar 12) (dCons (dVar 8) (dNil)))) (dCons (dCall 2 sp__times (dCons (dVar 13) (dCons (dVar 8) (dNil)))) (dNil))))) (dSeq (dDrop (dBM isLst appendD (dVar 9) (dCons (dVar 15) (dNil)))) (dSeq (dSet 16 (dOp addD (dLc (dWalk (dVar 1)) (dGN 18) (dYes) (dOp ixA (dVar 18) (dVar 10)) [18]) (dLst (dCons (dVar 15) (dNil))))) (dSeq (dSet 17 (dCall 2 sp__mixed (dCons (dCall 2 sp__times (dCons (dVar 11) (dCons (dVar 8) (dNil)))) (dCons (dVar 16) (dNil))))) (dSet 8 (dCall 2 sp__clipped_sum (dCons (dVar 8) (dCons (dCall 2 sp__times (dCons (dVar 14) (dCons (dVar 17) (dNil)))) (dNil)))))))))) (dRet (dTup (dCons (dCB tupOfD (dCons (dVar 9) (dNil))) (dCons (dCall 1 sp__shares (dCons (dCall 2 sp__times (dCons (dVar 7) (dCons (dVar 8) (dNil)))) (dNil))) (dNil))))))))
def sp__network_step : SpD := fun ds M Q E => r__network_step { nx := fun _ M' => Q .non M', rt := Q } E (startD ["model", "rows", "token", "_", "embeds", "places", "layers", "outs", "state", "row", "at", "asking", "keys", "worths", "mixing", "pair", "pairs", "mixed", "earlier"] ds) M
theorem ok__network_step : FnD P w K mg base W.Ts 3 W.a43 W.d43 3 ["model", "rows", "token"] sp__network_step :=
  fnD (N := ["model", "rows", "token", "_", "embeds", "places", "layers", "outs", "state", "row", "at", "asking", "keys", "worths", "mixing", "pair", "pairs", "mixed", "earlier"]) (ps := ["model", "rows", "token"]) W.D43.F rfl sc43 (fun A outer s H E hr => qss_cons (qs_asg (qv 0) (qg_tupA rfl (qgs_cons (qg_name (i := 3) sc43.nd rfl (by first | exact .inl rfl | exact .inr rfl)) (qgs_cons (qg_name (i := 3) sc43.nd rfl (by first | exact .inl rfl | exact .inr rfl)) (qgs_cons (qg_name (i := 3) sc43.nd rfl (by first | exact .inl rfl | exact .inr rfl)) (qgs_cons (qg_name (i := 4) sc43.nd rfl (by first | exact .inl rfl | exact .inr rfl)) (qgs_cons (qg_name (i := 5) sc43.nd rfl (by first | exact .inl rfl | exact .inr rfl)) (qgs_cons (qg_name (i := 6) sc43.nd rfl (by first | exact .inl rfl | exact .inr rfl)) (qgs_cons (qg_name (i := 7) sc43.nd rfl (by first | exact .inl rfl | exact .inr rfl)) (qgs_nil)))))))))) (qss_cons (qs_set (i := 8) sc43.nd rfl (by first | exact .inl rfl | exact .inr rfl) (qe_call (ok__clipped_sum W) (hr.mono (by decide)) (by rfl) W.D48.g W.D48.kp W.D48.b takesD (qa_cons (qe_at hr.r (qv 4) (qv 2)) (qa_cons (qe_at hr.r (qv 5) (qe_mod (qe_cb (id := "len") cr_lenH cd_len (by rfl) W.m_len bt_len (qa_cons (qv 1) (qa_nil))) (qe_cb (id := "len") cr_lenH cd_len (by rfl) W.m_len bt_len (qa_cons (qv 5) (qa_nil))))) (qa_nil))))) (qss_cons (qs_set (i := 9) sc43.nd rfl (by first | exact .inl rfl | exact .inr rfl) (qe_lst (qa_nil))) (qss_cons (qs_for passD rfl (qi_enumA (by rfl) W.m_enumerate (qa_cons (qv 6) (qa_nil))) (qg_tupA rfl (qgs_cons (qg_name (i := 10) sc43.nd rfl (by first | exact .inl rfl | exact .inr rfl)) (qgs_cons (qg_tupA rfl (qgs_cons (qg_name (i := 11) sc43.nd rfl (by first | exact .inl rfl | exact .inr rfl)) (qgs_cons (qg_name (i := 12) sc43.nd rfl (by first | exact .inl rfl | exact .inr rfl)) (qgs_cons (qg_name (i := 13) sc43.nd rfl (by first | exact .inl rfl | exact .inr rfl)) (qgs_cons (qg_name (i := 14) sc43.nd rfl (by first | exact .inl rfl | exact .inr rfl)) (qgs_nil)))))) (qgs_nil)))) (qss_cons (qs_set (i := 15) sc43.nd rfl (by first | exact .inl rfl | exact .inr rfl) (qe_tup (qa_cons (qe_call (ok__times W) (hr.mono (by decide)) (by rfl) W.D46.g W.D46.kp W.D46.b takesD (qa_cons (qv 12) (qa_cons (qv 8) (qa_nil)))) (qa_cons (qe_call (ok__times W) (hr.mono (by decide)) (by rfl) W.D46.g W.D46.kp W.D46.b takesD (qa_cons (qv 13) (qa_cons (qv 8) (qa_nil)))) (qa_nil))))) (qss_cons (qs_expr (qe_append (qv 9) (qa_cons (qv 15) (qa_nil)))) (qss_cons (qs_set (i := 16) sc43.nd rfl (by first | exact .inl rfl | exact .inr rfl) (qe_add (qe_lc (own := [("earlier", 18)]) (g := gName 18) rfl sc43.nd (qi_any (qv 1)) (blkOk_by (N := ["model", "rows", "token", "_", "embeds", "places", "layers", "outs", "state", "row", "at", "asking", "keys", "worths", "mixing", "pair", "pairs", "mixed", "earlier"]) (sc := defScope (top 43)) (by decide +kernel)) (fun _ _ _ _ _ => pg_name (i := 18) sc43.nd rfl (by first | exact .inl rfl | exact .inr rfl)) (tg_name (by simp)) (gm_name) (fun _ _ _ _ _ => qts_nil) (fun _ _ _ _ _ => qe_at hr.r (qv 18) (qv 10))) (qe_lst (qa_cons (qv 15) (qa_nil))))) (qss_cons (qs_set (i := 17) sc43.nd rfl (by first | exact .inl rfl | exact .inr rfl) (qe_call (ok__mixed W) (hr.mono (by decide)) (by rfl) W.D44.g W.D44.kp W.D44.b takesD (qa_cons (qe_call (ok__times W) (hr.mono (by decide)) (by rfl) W.D46.g W.D46.kp W.D46.b takesD (qa_cons (qv 11) (qa_cons (qv 8) (qa_nil)))) (qa_cons (qv 16) (qa_nil))))) (qss_one (qs_set (i := 8) sc43.nd rfl (by first | exact .inl rfl | exact .inr rfl) (qe_call (ok__clipped_sum W) (hr.mono (by decide)) (by rfl) W.D48.g W.D48.kp W.D48.b takesD (qa_cons (qv 8) (qa_cons (qe_call (ok__times W) (hr.mono (by decide)) (by rfl) W.D46.g W.D46.kp W.D46.b takesD (qa_cons (qv 14) (qa_cons (qv 17) (qa_nil)))) (qa_nil))))))))))) (qss_one (qs_ret (qe_tup (qa_cons (qe_cty (T := "tuple") call_tuple_of cd_tup (by rfl) W.m_tuple bt_tuple (qa_cons (qv 9) (qa_nil))) (qa_cons (qe_call (ok__shares W) (hr.mono (by decide)) (by rfl) W.D45.g W.D45.kp W.D45.b takesD (qa_cons (qe_call (ok__times W) (hr.mono (by decide)) (by rfl) W.D46.g W.D46.kp W.D46.b takesD (qa_cons (qv 7) (qa_cons (qv 8) (qa_nil)))) (qa_nil))) (qa_nil)))))))))) fun _ _ _ _ _ h => h
/-! next_row -/
def r_next_row : TSd := dSeq (dIfS (dTest (dOp (eqA false) (dOp ixA (dVar 0) (dC (.int 0))) (dC (.str "window")))) (dSeq (dSet 3 (dOp addD (dCB tupOfD (dCons (dLc (dWalk (dVar 1)) (dGN 4) (dYes) (dOp ixA (dVar 4) (dC (.int 0))) [4]) (dNil))) (dTup (dCons (dVar 2) (dNil))))) (dRet (dTup (dCons (dTup (dCons (dVar 2) (dNil))) (dCons (dCall 2 sp__window_weights (dCons (dVar 0) (dCons (dVar 3) (dNil)))) (dNil)))))) (dNext)) (dRet (dCall 3 sp__network_step (dCons (dVar 0) (dCons (dVar 1) (dCons (dVar 2) (dNil))))))
def sp_next_row : SpD := fun ds M Q E => r_next_row { nx := fun _ M' => Q .non M', rt := Q } E (startD ["model", "rows", "token", "tokens", "row"] ds) M
theorem ok_next_row : FnD P w K mg base W.Ts 4 W.a32 W.d32 3 ["model", "rows", "token"] sp_next_row :=
  fnD (N := ["model", "rows", "token", "tokens", "row"]) (ps := ["model", "rows", "token"]) W.D32.F rfl sc32 (fun A outer s H E hr => qss_cons (qs_if (qt_cmp (op_eqA hr.r) od_eqA (qe_at hr.r (qv 0) (qe_int)) (qe_str) (nomark _)) (qss_cons (qs_set (i := 3) sc32.nd rfl (by first | exact .inl rfl | exact .inr rfl) (qe_add (qe_cty (T := "tuple") call_tuple_of cd_tup (by rfl) W.m_tuple bt_tuple (qa_cons (qe_lc (own := [("row", 4)]) (g := gName 4) rfl sc32.nd (qi_any (qv 1)) (blkOk_by (N := ["model", "rows", "token", "tokens", "row"]) (sc := defScope (top 32)) (by decide +kernel)) (fun _ _ _ _ _ => pg_name (i := 4) sc32.nd rfl (by first | exact .inl rfl | exact .inr rfl)) (tg_name (by simp)) (gm_name) (fun _ _ _ _ _ => qts_nil) (fun _ _ _ _ _ => qe_at hr.r (qv 4) (qe_int))) (qa_nil))) (qe_tup (qa_cons (qv 2) (qa_nil))))) (qss_one (qs_ret (qe_tup (qa_cons (qe_tup (qa_cons (qv 2) (qa_nil))) (qa_cons (qe_call (ok__window_weights W) (hr.mono (by decide)) (by rfl) W.D38.g W.D38.kp W.D38.b takesD (qa_cons (qv 0) (qa_cons (qv 3) (qa_nil)))) (qa_nil))))))) (qss_nil)) (qss_one (qs_ret (qe_call (ok__network_step W) (hr.mono (by decide)) (by rfl) W.D43.g W.D43.kp W.D43.b takesD (qa_cons (qv 0) (qa_cons (qv 1) (qa_cons (qv 2) (qa_nil)))))))) fun _ _ _ _ _ h => h
/-! rows_after -/
def r_rows_after : TSd := dSeq (dSet 2 (dTup (dNil))) (dSeq (dFor (dWalk (dVar 1)) (dGN 3) (dSeq (dSet 4 (dOp ixA (dCall 3 sp_next_row (dCons (dVar 0) (dCons (dVar 2) (dCons (dVar 3) (dNil))))) (dC (.int 0)))) (dSet 2 (dTup (dStar (dVar 2) (dCons (dVar 4) (dNil))))))) (dRet (dVar 2)))
def sp_rows_after : SpD := fun ds M Q E => r_rows_after { nx := fun _ M' => Q .non M', rt := Q } E (startD ["model", "tokens", "rows", "token", "row"] ds) M
theorem ok_rows_after : FnD P w K mg base W.Ts 5 W.a31 W.d31 2 ["model", "tokens"] sp_rows_after :=
  fnD (N := ["model", "tokens", "rows", "token", "row"]) (ps := ["model", "tokens"]) W.D31.F rfl sc31 (fun A outer s H E hr => qss_cons (qs_set (i := 2) sc31.nd rfl (by first | exact .inl rfl | exact .inr rfl) (qe_tup (qa_nil))) (qss_cons (qs_for passD rfl (qi_any (qv 1)) (qg_name (i := 3) sc31.nd rfl (by first | exact .inl rfl | exact .inr rfl)) (qss_cons (qs_set (i := 4) sc31.nd rfl (by first | exact .inl rfl | exact .inr rfl) (qe_at hr.r (qe_call (ok_next_row W) (hr.mono (by decide)) (by rfl) W.D32.g W.D32.kp W.D32.b takesD (qa_cons (qv 0) (qa_cons (qv 2) (qa_cons (qv 3) (qa_nil))))) (qe_int))) (qss_one (qs_set (i := 2) sc31.nd rfl (by first | exact .inl rfl | exact .inr rfl) (qe_tup (qa_star hr.r.hd (qv 2) (qa_cons (qv 4) (qa_nil)))))))) (qss_one (qs_ret (qv 2))))) fun _ _ _ _ _ h => h
/-! weights_after -/
def r_weights_after : TSd := dSeq (dIfS (dTest (dOp (eqA false) (dOp ixA (dVar 0) (dC (.int 0))) (dC (.str "window")))) (dRet (dCall 2 sp__window_weights (dCons (dVar 0) (dCons (dVar 1) (dNil))))) (dNext)) (dSeq (dSet 2 (dCall 2 sp_rows_after (dCons (dVar 0) (dCons (dSl (dVar 1) (dNo) (dPart (dNeg (dC (.int 1))))) (dNil))))) (dRet (dOp ixA (dCall 3 sp_next_row (dCons (dVar 0) (dCons (dVar 2) (dCons (dOp ixA (dVar 1) (dNeg (dC (.int 1)))) (dNil))))) (dC (.int 1)))))
def sp_weights_after : SpD := fun ds M Q E => r_weights_after { nx := fun _ M' => Q .non M', rt := Q } E (startD ["model", "tokens", "rows"] ds) M
theorem ok_weights_after : FnD P w K mg base W.Ts 6 W.a30 W.d30 2 ["model", "tokens"] sp_weights_after :=
  fnD (N := ["model", "tokens", "rows"]) (ps := ["model", "tokens"]) W.D30.F rfl sc30 (fun A outer s H E hr => qss_cons (qs_if (qt_cmp (op_eqA hr.r) od_eqA (qe_at hr.r (qv 0) (qe_int)) (qe_str) (nomark _)) (qss_one (qs_ret (qe_call (ok__window_weights W) (hr.mono (by decide)) (by rfl) W.D38.g W.D38.kp W.D38.b takesD (qa_cons (qv 0) (qa_cons (qv 1) (qa_nil)))))) (qss_nil)) (qss_cons (qs_set (i := 2) sc30.nd rfl (by first | exact .inl rfl | exact .inr rfl) (qe_call (ok_rows_after W) (hr.mono (by decide)) (by rfl) W.D31.g W.D31.kp W.D31.b takesD (qa_cons (qv 0) (qa_cons (qe_slice (qv 1) (qo_none) (qo_some (qe_neg (qe_int)))) (qa_nil))))) (qss_one (qs_ret (qe_at hr.r (qe_call (ok_next_row W) (hr.mono (by decide)) (by rfl) W.D32.g W.D32.kp W.D32.b takesD (qa_cons (qv 0) (qa_cons (qv 2) (qa_cons (qe_at hr.r (qv 1) (qe_neg (qe_int))) (qa_nil))))) (qe_int)))))) fun _ _ _ _ _ h => h
/-! model_weights -/
def r_model_weights : TSd := dSeq (dDrop (dCall 1 sp__need_model (dCons (dVar 0) (dNil)))) (dSeq (dDrop (dCall 2 sp__need_tokens (dCons (dVar 0) (dCons (dVar 1) (dNil))))) (dRet (dCall 2 sp_weights_after (dCons (dVar 0) (dCons (dVar 1) (dNil))))))
def sp_model_weights : SpD := fun ds M Q E => r_model_weights { nx := fun _ M' => Q .non M', rt := Q } E (startD ["model", "tokens"] ds) M
theorem ok_model_weights : FnD P w K mg base W.Ts 12 W.a24 W.d24 2 ["model", "tokens"] sp_model_weights :=
  fnD (N := ["model", "tokens"]) (ps := ["model", "tokens"]) W.D24.F rfl sc24 (fun A outer s H E hr => qss_cons (qs_expr (qe_call (ok__need_model W) (hr.mono (by decide)) (by rfl) W.D33.g W.D33.kp W.D33.b takesD (qa_cons (qv 0) (qa_nil)))) (qss_cons (qs_expr (qe_call (ok__need_tokens W) (hr.mono (by decide)) (by rfl) W.D34.g W.D34.kp W.D34.b takesD (qa_cons (qv 0) (qa_cons (qv 1) (qa_nil))))) (qss_one (qs_ret (qe_call (ok_weights_after W) (hr.mono (by decide)) (by rfl) W.D30.g W.D30.kp W.D30.b takesD (qa_cons (qv 0) (qa_cons (qv 1) (qa_nil)))))))) fun _ _ _ _ _ h => h
/-! rows_of -/
def r_rows_of : TSd := dSeq (dDrop (dCall 1 sp__need_model (dCons (dVar 0) (dNil)))) (dSeq (dDrop (dCall 2 sp__need_tokens (dCons (dVar 0) (dCons (dVar 1) (dNil))))) (dRet (dCall 2 sp_rows_after (dCons (dVar 0) (dCons (dVar 1) (dNil))))))
def sp_rows_of : SpD := fun ds M Q E => r_rows_of { nx := fun _ M' => Q .non M', rt := Q } E (startD ["model", "tokens"] ds) M
theorem ok_rows_of : FnD P w K mg base W.Ts 12 W.a25 W.d25 2 ["model", "tokens"] sp_rows_of :=
  fnD (N := ["model", "tokens"]) (ps := ["model", "tokens"]) W.D25.F rfl sc25 (fun A outer s H E hr => qss_cons (qs_expr (qe_call (ok__need_model W) (hr.mono (by decide)) (by rfl) W.D33.g W.D33.kp W.D33.b takesD (qa_cons (qv 0) (qa_nil)))) (qss_cons (qs_expr (qe_call (ok__need_tokens W) (hr.mono (by decide)) (by rfl) W.D34.g W.D34.kp W.D34.b takesD (qa_cons (qv 0) (qa_cons (qv 1) (qa_nil))))) (qss_one (qs_ret (qe_call (ok_rows_after W) (hr.mono (by decide)) (by rfl) W.D31.g W.D31.kp W.D31.b takesD (qa_cons (qv 0) (qa_cons (qv 1) (qa_nil)))))))) fun _ _ _ _ _ h => h
/-! is_row -/
def r_is_row : TSd := dSeq (dIfS (dTest (dOp (eqA false) (dOp ixA (dVar 0) (dC (.int 0))) (dC (.str "window")))) (dRet (dAnd (dCall 2 sp_is_tuple_of (dCons (dVar 1) (dCons (dC (.int 1)) (dNil)))) (dCall 2 sp_is_token (dCons (dOp ixA (dVar 1) (dC (.int 0))) (dCons (dOp ixA (dVar 0) (dC (.int 1))) (dNil)))))) (dNext)) (dSeq (dSet 3 (dOp ixA (dVar 0) (dC (.int 2)))) (dSeq (dSet 2 (dOp ixA (dVar 0) (dC (.int 5)))) (dRet (dAnd (dCall 2 sp_is_tuple_of (dCons (dVar 1) (dCons (dCB lenD (dCons (dVar 2) (dNil))) (dNil)))) (dAll (dWalk (dVar 1)) (dGN 4) (dCall 3 sp__are_vectors (dCons (dVar 4) (dCons (dC (.int 2)) (dCons (dVar 3) (dNil))))) [4])))))
def sp_is_row : SpD := fun ds M Q E => r_is_row { nx := fun _ M' => Q .non M', rt := Q } E (startD ["model", "thing", "layers", "width", "pair"] ds) M
theorem ok_is_row : FnD P w K mg base W.Ts 7 W.a29 W.d29 2 ["model", "thing"] sp_is_row :=
  fnD (N := ["model", "thing", "layers", "width", "pair"]) (ps := ["model", "thing"]) W.D29.F W.T29.code sc29 (fun A outer s H E hr => qss_cons (qs_if (qt_cmp (op_eqA hr.r) od_eqA (qe_at hr.r (qv 0) (qe_int)) (qe_str) (nomark _)) (qss_one (qs_ret (qe_and (qe_call (ok_is_tuple_of W) (hr.mono (by decide)) (by rfl) W.D13.g W.D13.kp W.D13.b takesD (qa_cons (qv 1) (qa_cons (qe_int) (qa_nil)))) (qe_one (qe_call (ok_is_token W) (hr.mono (by decide)) (by rfl) W.D10.g W.D10.kp W.D10.b takesD (qa_cons (qe_at hr.r (qv 1) (qe_int)) (qa_cons (qe_at hr.r (qv 0) (qe_int)) (qa_nil)))))))) (qss_nil)) (qss_cons (qs_set (i := 3) sc29.nd rfl (by first | exact .inl rfl | exact .inr rfl) (qe_at hr.r (qv 0) (qe_int))) (qss_cons (qs_set (i := 2) sc29.nd rfl (by first | exact .inl rfl | exact .inr rfl) (qe_at hr.r (qv 0) (qe_int))) (qss_one (qs_ret (qe_and (qe_call (ok_is_tuple_of W) (hr.mono (by decide)) (by rfl) W.D13.g W.D13.kp W.D13.b takesD (qa_cons (qv 1) (qa_cons (qe_cb (id := "len") cr_lenH cd_len (by rfl) W.m_len bt_len (qa_cons (qv 2) (qa_nil))) (qa_nil)))) (qe_one (qe_all (own := [("pair", 4)]) (g := gName 4) (by simp [Wd.Ts]) rfl hr.r (by rfl) W.m_all W.T29.tab rfl sc29.nd (blkOk_by (N := ["model", "thing", "layers", "width", "pair"]) (sc := defScope (top 29)) (by decide +kernel)) rfl (by decide +kernel) (by decide +kernel) (qi_any (qv 1)) (fun _ _ _ _ _ _ _ => pg_name (i := 4) sc29.nd rfl (by first | exact .inl rfl | exact .inr rfl)) (tg_name (by simp)) (gm_name) (fun _ _ _ _ _ _ _ h1 h2 => have hz9 : RoomG _ _ := ⟨h1, h2.trans hr.g⟩; qe_call (ok__are_vectors W) (hz9.mono (by decide)) (by rfl) W.D41.g W.D41.kp W.D41.b Dl.takes0 (qa_cons (qv 4) (qa_cons (qe_int) (qa_cons (qv 3) (qa_nil))))))))))))) fun _ _ _ _ _ h => h
end
end Z8
set_option Elab.async false
set_option linter.all false
set_option maxRecDepth 100000
set_option maxHeartbeats 4000000
namespace Z8
open PySem PySem.Spec PyProof.Rows L2 GxR Gn Dl
section
variable {P : Program} {w : World} {K : PySem.W.Frag} {mg : Str → Option Value} {base : Heap} (W : Wd K mg base)
/-! are_rows -/
def r_are_rows : TSd := dRet (dAnd (dCB isiD (dCons (dVar 1) (dCons (dC (.ty "tuple")) (dNil)))) (dAll (dWalk (dVar 1)) (dGN 2) (dCall 2 sp_is_row (dCons (dVar 0) (dCons (dVar 2) (dNil)))) [2]))
def sp_are_rows : SpD := fun ds M Q E => r_are_rows { nx := fun _ M' => Q .non M', rt := Q } E (startD ["model", "thing", "row"] ds) M
theorem ok_are_rows : FnD P w K mg base W.Ts 9 W.a28 W.d28 2 ["model", "thing"] sp_are_rows :=
  fnD (N := ["model", "thing", "row"]) (ps := ["model", "thing"]) W.D28.F W.T28.code sc28 (fun A outer s H E hr => qss_one (qs_ret (qe_and (qe_cb (id := "isinstance") call_isi cd_isi (by rfl) W.m_isinstance bt_isinstance (qa_cons (qv 1) (qa_cons (qe_bltn (n := "tuple") (by rfl) W.m_tuple (by decide +kernel)) (qa_nil)))) (qe_one (qe_all (own := [("row", 2)]) (g := gName 2) (by simp [Wd.Ts]) rfl hr.r (by rfl) W.m_all W.T28.tab rfl sc28.nd (blkOk_by (N := ["model", "thing", "row"]) (sc := defScope (top 28)) (by decide +kernel)) rfl (by decide +kernel) (by decide +kernel) (qi_any (qv 1)) (fun _ _ _ _ _ _ _ => pg_name (i := 2) sc28.nd rfl (by first | exact .inl rfl | exact .inr rfl)) (tg_name (by simp)) (gm_name) (fun _ _ _ _ _ _ _ h1 h2 => have hz8 : RoomG _ _ := ⟨h1, h2.trans hr.g⟩; qe_call (ok_is_row W) (hz8.mono (by decide)) (by rfl) W.D29.g W.D29.kp W.D29.b Dl.takes0 (qa_cons (qv 0) (qa_cons (qv 2) (qa_nil))))))))) fun _ _ _ _ _ h => h
/-! stepped -/
def r_stepped : TSd := dSeq (dDrop (dCall 1 sp__need_model (dCons (dVar 0) (dNil)))) (dSeq (dIfS (dNotT (dTest (dCall 2 sp_are_rows (dCons (dVar 0) (dCons (dVar 1) (dNil)))))) (dNever) (dNext)) (dSeq (dIfS (dNotT (dTest (dCall 2 sp_is_token (dCons (dVar 2) (dCons (dOp ixA (dVar 0) (dC (.int 1))) (dNil)))))) (dNever) (dNext)) (dRet (dCall 3 sp_next_row (dCons (dVar 0) (dCons (dVar 1) (dCons (dVar 2) (dNil))))))))
def sp_stepped : SpD := fun ds M Q E => r_stepped { nx := fun _ M' => Q .non M', rt := Q } E (startD ["model", "rows", "token"] ds) M
theorem ok_stepped : FnD P w K mg base W.Ts 12 W.a26 W.d26 3 ["model", "rows", "token"] sp_stepped :=
  fnD (N := ["model", "rows", "token"]) (ps := ["model", "rows", "token"]) W.D26.F rfl sc26 (fun A outer s H E hr => qss_cons (qs_expr (qe_call (ok__need_model W) (hr.mono (by decide)) (by rfl) W.D33.g W.D33.kp W.D33.b takesD (qa_cons (qv 0) (qa_nil)))) (qss_cons (qs_if (qt_not (qt_val (qe_call (ok_are_rows W) (hr.mono (by decide)) (by rfl) W.D28.g W.D28.kp W.D28.b takesD (qa_cons (qv 0) (qa_cons (qv 1) (qa_nil)))))) (qss_one (qs_never)) (qss_nil)) (qss_cons (qs_if (qt_not (qt_val (qe_call (ok_is_token W) (hr.mono (by decide)) (by rfl) W.D10.g W.D10.kp W.D10.b takesD (qa_cons (qv 2) (qa_cons (qe_at hr.r (qv 0) (qe_int)) (qa_nil)))))) (qss_one (qs_never)) (qss_nil)) (qss_one (qs_ret (qe_call (ok_next_row W) (hr.mono (by decide)) (by rfl) W.D32.g W.D32.kp W.D32.b takesD (qa_cons (qv 0) (qa_cons (qv 1) (qa_cons (qv 2) (qa_nil)))))))))) fun _ _ _ _ _ h => h
/-! judge_rows -/
def r_judge_rows : TSd := dSeq (dDrop (dCall 1 sp__need_model (dCons (dVar 0) (dNil)))) (dSeq (dDrop (dCall 2 sp__need_tokens (dCons (dVar 0) (dCons (dVar 1) (dNil))))) (dSeq (dIfS (dNotT (dTest (dCB isiD (dCons (dVar 2) (dCons (dC (.ty "tuple")) (dNil)))))) (dRet (dTup (dCons (dC (.str "none")) (dNil)))) (dNext)) (dRet (dCall 2 sp_certificate (dCons (dCall 2 sp_rows_after (dCons (dVar 0) (dCons (dVar 1) (dNil)))) (dCons (dVar 2) (dNil)))))))
def sp_judge_rows : SpD := fun ds M Q E => r_judge_rows { nx := fun _ M' => Q .non M', rt := Q } E (startD ["model", "tokens", "thing"] ds) M
theorem ok_judge_rows : FnD P w K mg base W.Ts 12 W.a27 W.d27 3 ["model", "tokens", "thing"] sp_judge_rows :=
  fnD (N := ["model", "tokens", "thing"]) (ps := ["model", "tokens", "thing"]) W.D27.F rfl sc27 (fun A outer s H E hr => qss_cons (qs_expr (qe_call (ok__need_model W) (hr.mono (by decide)) (by rfl) W.D33.g W.D33.kp W.D33.b takesD (qa_cons (qv 0) (qa_nil)))) (qss_cons (qs_expr (qe_call (ok__need_tokens W) (hr.mono (by decide)) (by rfl) W.D34.g W.D34.kp W.D34.b takesD (qa_cons (qv 0) (qa_cons (qv 1) (qa_nil))))) (qss_cons (qs_if (qt_not (qt_val (qe_cb (id := "isinstance") call_isi cd_isi (by rfl) W.m_isinstance bt_isinstance (qa_cons (qv 2) (qa_cons (qe_bltn (n := "tuple") (by rfl) W.m_tuple (by decide +kernel)) (qa_nil)))))) (qss_one (qs_ret (qe_tup (qa_cons (qe_str) (qa_nil))))) (qss_nil)) (qss_one (qs_ret (qe_call (ok_certificate W) (hr.mono (by decide)) (by rfl) W.D17.g W.D17.kp W.D17.b takesD (qa_cons (qe_call (ok_rows_after W) (hr.mono (by decide)) (by rfl) W.D31.g W.D31.kp W.D31.b takesD (qa_cons (qv 0) (qa_cons (qv 1) (qa_nil)))) (qa_cons (qv 2) (qa_nil))))))))) fun _ _ _ _ _ h => h
/-! _law_deck -/
def r__law_deck : TSd := dSeq (dSet 2 (dVar 1)) (dSeq (dFor (dWalk (dSl (dVar 0) (dNo) (dPart (dC (.int 63))))) (dGN 3) (dSet 2 (dOp modD (dCB intOfD (dCons (dOp addD (dOp addD (dOp mulA (dVar 2) (dC (.int 47293))) (dOp modD (dCB intOfD (dCons (dVar 3) (dNil))) (dC (.int 2147483629)))) (dC (.int 61))) (dNil))) (dC (.int 2147483563))))) (dRet (dDisp [(dC (.str "left"), dRev (dCB lstOfD (dCons (dSl (dVar 0) (dNo) (dPart (dC (.int 63)))) (dNil)))), (dC (.str "mixed"), dVar 2), (dC (.str "draws"), dC (.int 0))])))
def sp__law_deck : SpD := fun ds M Q E => r__law_deck { nx := fun _ M' => Q .non M', rt := Q } E (startD ["script", "seed", "mixed", "cell"] ds) M
theorem ok__law_deck : FnD P w K mg base W.Ts 1 W.a51 W.d51 2 ["script", "seed"] sp__law_deck :=
  fnD (N := ["script", "seed", "mixed", "cell"]) (ps := ["script", "seed"]) W.D51.F rfl sc51 (fun A outer s H E hr => qss_cons (qs_set (i := 2) sc51.nd rfl (by first | exact .inl rfl | exact .inr rfl) (qv 1)) (qss_cons (qs_for passD rfl (qi_any (qe_slice (qv 0) (qo_none) (qo_some (qe_int)))) (qg_name (i := 3) sc51.nd rfl (by first | exact .inl rfl | exact .inr rfl)) (qss_one (qs_set (i := 2) sc51.nd rfl (by first | exact .inl rfl | exact .inr rfl) (qe_mod (qe_cty (T := "int") call_int1 cd_int (by rfl) W.m_int bt_int (qa_cons (qe_add (qe_add (qe_mulA (qv 2) (qe_int)) (qe_mod (qe_cty (T := "int") call_int1 cd_int (by rfl) W.m_int bt_int (qa_cons (qv 3) (qa_nil))) (qe_int))) (qe_int)) (qa_nil))) (qe_int))))) (qss_one (qs_ret (qe_disp (trs := [(dC (.str "left"), dRev (dCB lstOfD (dCons (dSl (dVar 0) (dNo) (dPart (dC (.int 63)))) (dNil)))), (dC (.str "mixed"), dVar 2), (dC (.str "draws"), dC (.int 0))]) (pps_cons (qe_str) (qe_rev (qe_cty (T := "list") (cr_lstOf hr.r.hd) cd_lst (by rfl) W.m_list bt_list (qa_cons (qe_slice (qv 0) (qo_none) (qo_some (qe_int))) (qa_nil)))) (pps_cons (qe_str) (qv 2) (pps_cons (qe_str) (qe_int) (pps_nil))))))))) fun _ _ _ _ _ h => h
/-! _law_draw -/
def r__law_draw : TSd := dSeq (dPut (dVar 0) (dC (.str "draws")) (dOp addD (dOp ixA (dVar 0) (dC (.str "draws"))) (dC (.int 1)))) (dSeq (dIfS (dTest (dOp (eqA true) (dOp ixA (dVar 0) (dC (.str "left"))) (dLst (dNil)))) (dSeq (dSet 2 (dBM0 isLst popD (dOp ixA (dVar 0) (dC (.str "left"))))) (dSeq (dIfS (dTest (dOp geD (dVar 2) (dOp powD (dC (.int 10)) (dC (.int 18))))) (dSeq (dDrop (dBM isLst appendD (dOp ixA (dVar 0) (dC (.str "left"))) (dCons (dOp fdivD (dVar 2) (dCB (max2D true) (dCons (dC (.int 2)) (dCons (dVar 1) (dNil))))) (dNil)))) (dRet (dOp modD (dCB intOfD (dCons (dVar 2) (dNil))) (dVar 1)))) (dNext)) (dPut (dVar 0) (dC (.str "mixed")) (dOp modD (dCB intOfD (dCons (dOp addD (dOp addD (dOp mulA (dOp ixA (dVar 0) (dC (.str "mixed"))) (dC (.int 39373))) (dOp modD (dCB intOfD (dCons (dVar 2) (dNil))) (dC (.int 2147483629)))) (dC (.int 53))) (dNil))) (dC (.int 2147483587)))))) (dNext)) (dSeq (dSet 3 (dOp modD (dCB intOfD (dCons (dOp addD (dOp ixA (dVar 0) (dC (.str "mixed"))) (dOp mulA (dC (.int 31337)) (dOp ixA (dVar 0) (dC (.str "draws"))))) (dNil))) (dC (.int 2147483647)))) (dSeq (dSet 3 (dOp modD (dCB intOfD (dCons (dOp addD (dOp addD (dOp mulA (dVar 3) (dVar 3)) (dOp mulA (dC (.int 48271)) (dOp ixA (dVar 0) (dC (.str "draws"))))) (dC (.int 59))) (dNil))) (dC (.int 2147483629)))) (dSeq (dSet 3 (dOp modD (dCB intOfD (dCons (dOp addD (dOp mulA (dVar 3) (dC (.int 69621))) (dC (.int 77))) (dNil))) (dC (.int 2147483563)))) (dRet (dOp modD (dCB intOfD (dCons (dOp fdivD (dVar 3) (dC (.int 64))) (dNil))) (dVar 1)))))))
def sp__law_draw : SpD := fun ds M Q E => r__law_draw { nx := fun _ M' => Q .non M', rt := Q } E (startD ["deck", "many", "cell", "figure"] ds) M
theorem ok__law_draw : FnD P w K mg base W.Ts 1 W.a52 W.d52 2 ["deck", "many"] sp__law_draw :=
  fnD (N := ["deck", "many", "cell", "figure"]) (ps := ["deck", "many"]) W.D52.F rfl sc52 (fun A outer s H E hr => qss_cons (qs_putA hr.r (qv 0) (qe_str) (qe_add (qe_at hr.r (qv 0) (qe_str)) (qe_int))) (qss_cons (qs_if (qt_cmp (op_neA hr.r) od_neA (qe_at hr.r (qv 0) (qe_str)) (qe_lst (qa_nil)) (nomark _)) (qss_cons (qs_set (i := 2) sc52.nd rfl (by first | exact .inl rfl | exact .inr rfl) (qe_pop0 (qe_at hr.r (qv 0) (qe_str)))) (qss_cons (qs_if (qt_cmp (op_rI0 op_ge) od_ge (qv 2) (qe_pow (qe_int) (qe_int)) (nomark _)) (qss_cons (qs_expr (qe_append (qe_at hr.r (qv 0) (qe_str)) (qa_cons (qe_fdiv (qv 2) (qe_cb (id := "max") (call_max2 rfl) cd_max2 (by rfl) W.m_max bt_max (qa_cons (qe_int) (qa_cons (qv 1) (qa_nil))))) (qa_nil)))) (qss_one (qs_ret (qe_mod (qe_cty (T := "int") call_int1 cd_int (by rfl) W.m_int bt_int (qa_cons (qv 2) (qa_nil))) (qv 1))))) (qss_nil)) (qss_one (qs_putA hr.r (qv 0) (qe_str) (qe_mod (qe_cty (T := "int") call_int1 cd_int (by rfl) W.m_int bt_int (qa_cons (qe_add (qe_add (qe_mulA (qe_at hr.r (qv 0) (qe_str)) (qe_int)) (qe_mod (qe_cty (T := "int") call_int1 cd_int (by rfl) W.m_int bt_int (qa_cons (qv 2) (qa_nil))) (qe_int))) (qe_int)) (qa_nil))) (qe_int)))))) (qss_nil)) (qss_cons (qs_set (i := 3) sc52.nd rfl (by first | exact .inl rfl | exact .inr rfl) (qe_mod (qe_cty (T := "int") call_int1 cd_int (by rfl) W.m_int bt_int (qa_cons (qe_add (qe_at hr.r (qv 0) (qe_str)) (qe_mulA (qe_int) (qe_at hr.r (qv 0) (qe_str)))) (qa_nil))) (qe_int))) (qss_cons (qs_set (i := 3) sc52.nd rfl (by first | exact .inl rfl | exact .inr rfl) (qe_mod (qe_cty (T := "int") call_int1 cd_int (by rfl) W.m_int bt_int (qa_cons (qe_add (qe_add (qe_mulA (qv 3) (qv 3)) (qe_mulA (qe_int) (qe_at hr.r (qv 0) (qe_str)))) (qe_int)) (qa_nil))) (qe_int))) (qss_cons (qs_set (i := 3) sc52.nd rfl (by first | exact .inl rfl | exact .inr rfl) (qe_mod (qe_cty (T := "int") call_int1 cd_int (by rfl) W.m_int bt_int (qa_cons (qe_add (qe_mulA (qv 3) (qe_int)) (qe_int)) (qa_nil))) (qe_int))) (qss_one (qs_ret (qe_mod (qe_cty (T := "int") call_int1 cd_int (by rfl) W.m_int bt_int (qa_cons (qe_fdiv (qv 3) (qe_int)) (qa_nil))) (qv 1))))))))) fun _ _ _ _ _ h => h
/-! _law_pick -/
def r__law_pick : TSd := dRet (dOp ixA (dVar 1) (dCall 2 sp__law_draw (dCons (dVar 0) (dCons (dCB lenD (dCons (dVar 1) (dNil))) (dNil)))))
def sp__law_pick : SpD := fun ds M Q E => r__law_pick { nx := fun _ M' => Q .non M', rt := Q } E (startD ["deck", "some"] ds) M
theorem ok__law_pick : FnD P w K mg base W.Ts 2 W.a53 W.d53 2 ["deck", "some"] sp__law_pick :=
  fnD (N := ["deck", "some"]) (ps := ["deck", "some"]) W.D53.F rfl sc53 (fun A outer s H E hr => qss_one (qs_ret (qe_at hr.r (qv 1) (qe_call (ok__law_draw W) (hr.mono (by decide)) (by rfl) W.D52.g W.D52.kp W.D52.b takesD (qa_cons (qv 0) (qa_cons (qe_cb (id := "len") cr_lenH cd_len (by rfl) W.m_len bt_len (qa_cons (qv 1) (qa_nil))) (qa_nil))))))) fun _ _ _ _ _ h => h
/-! _law_instead -/
def r__law_instead : TSd := dRet (dOp addD (dOp addD (dSl (dVar 0) (dNo) (dPart (dVar 1))) (dTup (dCons (dVar 2) (dNil)))) (dSl (dVar 0) (dPart (dOp addD (dVar 1) (dC (.int 1)))) (dNo)))
def sp__law_instead : SpD := fun ds M Q E => r__law_instead { nx := fun _ M' => Q .non M', rt := Q } E (startD ["some", "at", "item"] ds) M
theorem ok__law_instead : FnD P w K mg base W.Ts 1 W.a54 W.d54 3 ["some", "at", "item"] sp__law_instead :=
  fnD (N := ["some", "at", "item"]) (ps := ["some", "at", "item"]) W.D54.F rfl sc54 (fun A outer s H E hr => qss_one (qs_ret (qe_add (qe_add (qe_slice (qv 0) (qo_none) (qo_some (qv 1))) (qe_tup (qa_cons (qv 2) (qa_nil)))) (qe_slice (qv 0) (qo_some (qe_add (qv 1) (qe_int))) (qo_none))))) fun _ _ _ _ _ h => h
/-! _law_drawn_weights -/
def r__law_drawn_weights : TSd := dSeq (dSet 2 (dLc (dRange1 (dCons (dVar 1) (dNil))) (dGN 3) (dYes) (dCall 2 sp__law_pick (dCons (dVar 0) (dCons (dLst (dCons (dC (.int 0)) (dCons (dC (.int 1)) (dCons (dC (.int 1)) (dCons (dC (.int 2)) (dCons (dC (.int 3)) (dCons (dC (.int 5)) (dCons (dCall 2 sp__law_draw (dCons (dVar 0) (dCons (dC (.int 30)) (dNil)))) (dCons (dCall 2 sp__law_draw (dCons (dVar 0) (dCons (dC (.int 1001)) (dNil)))) (dNil)))))))))) (dNil)))) [3])) (dSeq (dIfS (dTest (dOp (eqA false) (dCB sumHD (dCons (dVar 2) (dNil))) (dC (.int 0)))) (dPut (dVar 2) (dCall 2 sp__law_draw (dCons (dVar 0) (dCons (dVar 1) (dNil)))) (dOp addD (dC (.int 1)) (dCall 2 sp__law_draw (dCons (dVar 0) (dCons (dC (.int 9)) (dNil)))))) (dNext)) (dRet (dCB tupOfD (dCons (dVar 2) (dNil)))))
def sp__law_drawn_weights : SpD := fun ds M Q E => r__law_drawn_weights { nx := fun _ M' => Q .non M', rt := Q } E (startD ["deck", "wide", "found", "at"] ds) M
theorem ok__law_drawn_weights : FnD P w K mg base W.Ts 3 W.a55 W.d55 2 ["deck", "wide"] sp__law_drawn_weights :=
  fnD (N := ["deck", "wide", "found", "at"]) (ps := ["deck", "wide"]) W.D55.F rfl sc55 (fun A outer s H E hr => qss_cons (qs_setLc (i := 2) (own := [("at", 3)]) (g := gName 3) rfl sc55.nd rfl rfl (sw_true rfl rfl rfl (by decide +kernel)) (qi_range1 (by rfl) W.m_range (qa_cons (qv 1) (qa_nil))) (blkOk_by (N := ["deck", "wide", "found", "at"]) (sc := defScope (top 55)) (by decide +kernel)) (fun _ _ _ _ _ => pg_name (i := 3) sc55.nd rfl (by first | exact .inl rfl | exact .inr rfl)) (tg_name (by simp)) (gm_name) (fun _ _ _ _ _ => qts_nil) (fun _ _ _ _ _ => qe_call (ok__law_pick W) (hr.mono (by decide)) (by rfl) W.D53.g W.D53.kp W.D53.b Dl.takes0 (qa_cons (qv 0) (qa_cons (qe_lst (qa_cons (qe_int) (qa_cons (qe_int) (qa_cons (qe_int) (qa_cons (qe_int) (qa_cons (qe_int) (qa_cons (qe_int) (qa_cons (qe_call (ok__law_draw W) (hr.mono (by decide)) (by rfl) W.D52.g W.D52.kp W.D52.b Dl.takes0 (qa_cons (qv 0) (qa_cons (qe_int) (qa_nil)))) (qa_cons (qe_call (ok__law_draw W) (hr.mono (by decide)) (by rfl) W.D52.g W.D52.kp W.D52.b Dl.takes0 (qa_cons (qv 0) (qa_cons (qe_int) (qa_nil)))) (qa_nil)))))))))) (qa_nil))))) (qss_cons (qs_if (qt_cmp (op_eqA hr.r) od_eqA (qe_cb (id := "sum") (cr_sumH rfl) cd_sumH (by rfl) W.m_sum bt_sum (qa_cons (qv 2) (qa_nil))) (qe_int) (nomark _)) (qss_one (qs_putA hr.r (qv 2) (qe_call (ok__law_draw W) (hr.mono (by decide)) (by rfl) W.D52.g W.D52.kp W.D52.b takesD (qa_cons (qv 0) (qa_cons (qv 1) (qa_nil)))) (qe_add (qe_int) (qe_call (ok__law_draw W) (hr.mono (by decide)) (by rfl) W.D52.g W.D52.kp W.D52.b takesD (qa_cons (qv 0) (qa_cons (qe_int) (qa_nil))))))) (qss_nil)) (qss_one (qs_ret (qe_cty (T := "tuple") call_tuple_of cd_tup (by rfl) W.m_tuple bt_tuple (qa_cons (qv 2) (qa_nil))))))) fun _ _ _ _ _ h => h
/-! _law_drawn_window -/
def r__law_drawn_window : TSd := dSeq (dAsg (dTup (dCons (dCall 2 sp__law_pick (dCons (dVar 0) (dCons (dLst (dCons (dC (.int 2)) (dCons (dC (.int 3)) (dCons (dC (.int 4)) (dCons (dC (.int 5)) (dCons (dC (.int 6)) (dCons (dC (.int 3)) (dCons (dC (.int 8)) (dNil))))))))) (dNil)))) (dCons (dCall 2 sp__law_pick (dCons (dVar 0) (dCons (dLst (dCons (dC (.int 1)) (dCons (dC (.int 2)) (dCons (dC (.int 0)) (dCons (dC (.int 1)) (dCons (dC (.int 3)) (dNil))))))) (dNil)))) (dCons (dNewT) (dNil))))) (dGTup 3 (dGCons (dGN 1) (dGCons (dGN 2) (dGCons (dGN 3) (dGNil)))))) (dSeq (dFor (dRange1 (dCons (dCall 2 sp__law_draw (dCons (dVar 0) (dCons (dCall 2 sp__law_pick (dCons (dVar 0) (dCons (dLst (dCons (dC (.int 9)) (dCons (dC (.int 9)) (dCons (dC (.int 9)) (dCons (dC (.int 30)) (dNil)))))) (dNil)))) (dNil)))) (dNil))) (dGN 4) (dSeq (dSet 5 (dCB tupOfD (dCons (dLc (dRange1 (dCons (dCall 2 sp__law_draw (dCons (dVar 0) (dCons (dOp addD (dVar 2) (dC (.int 1))) (dNil)))) (dNil))) (dGN 6) (dYes) (dCall 2 sp__law_draw (dCons (dVar 0) (dCons (dVar 1) (dNil)))) [6]) (dNil)))) (dPutT (dVar 3) (dVar 5) (dCall 2 sp__law_drawn_weights (dCons (dVar 0) (dCons (dVar 1) (dNil))))))) (dRet (dTup (dCons (dC (.str "window")) (dCons (dVar 1) (dCons (dVar 2) (dCons (dCB tupOfD (dCons (dLc (dWalk (dCB sortTD (dCons (dVar 3) (dNil)))) (dGN 5) (dYes) (dTup (dCons (dVar 5) (dCons (dOp ixT (dVar 3) (dVar 5)) (dNil)))) [5]) (dNil))) (dCons (dCall 2 sp__law_drawn_weights (dCons (dVar 0) (dCons (dVar 1) (dNil)))) (dNil)))))))))
def sp__law_drawn_window : SpD := fun ds M Q E => r__law_drawn_window { nx := fun _ M' => Q .non M', rt := Q } E (startD ["deck", "wide", "k", "entries", "turn", "last", "at"] ds) M
theorem ok__law_drawn_window : FnD P w K mg base W.Ts 4 W.a56 W.d56 1 ["deck"] sp__law_drawn_window :=
  fnD (N := ["deck", "wide", "k", "entries", "turn", "last", "at"]) (ps := ["deck"]) W.D56.F rfl sc56 (fun A outer s H E hr => qss_cons (qs_asg (qe_tup (qa_cons (qe_call (ok__law_pick W) (hr.mono (by decide)) (by rfl) W.D53.g W.D53.kp W.D53.b takesD (qa_cons (qv 0) (qa_cons (qe_lst (qa_cons (qe_int) (qa_cons (qe_int) (qa_cons (qe_int) (qa_cons (qe_int) (qa_cons (qe_int) (qa_cons (qe_int) (qa_cons (qe_int) (qa_nil))))))))) (qa_nil)))) (qa_cons (qe_call (ok__law_pick W) (hr.mono (by decide)) (by rfl) W.D53.g W.D53.kp W.D53.b takesD (qa_cons (qv 0) (qa_cons (qe_lst (qa_cons (qe_int) (qa_cons (qe_int) (qa_cons (qe_int) (qa_cons (qe_int) (qa_cons (qe_int) (qa_nil))))))) (qa_nil)))) (qa_cons (qe_newT) (qa_nil))))) (qg_tupA rfl (qgs_cons (qg_name (i := 1) sc56.nd rfl (by first | exact .inl rfl | exact .inr rfl)) (qgs_cons (qg_name (i := 2) sc56.nd rfl (by first | exact .inl rfl | exact .inr rfl)) (qgs_cons (qg_name (i := 3) sc56.nd rfl (by first | exact .inl rfl | exact .inr rfl)) (qgs_nil)))))) (qss_cons (qs_for passD rfl (qi_range1 (by rfl) W.m_range (qa_cons (qe_call (ok__law_draw W) (hr.mono (by decide)) (by rfl) W.D52.g W.D52.kp W.D52.b takesD (qa_cons (qv 0) (qa_cons (qe_call (ok__law_pick W) (hr.mono (by decide)) (by rfl) W.D53.g W.D53.kp W.D53.b takesD (qa_cons (qv 0) (qa_cons (qe_lst (qa_cons (qe_int) (qa_cons (qe_int) (qa_cons (qe_int) (qa_cons (qe_int) (qa_nil)))))) (qa_nil)))) (qa_nil)))) (qa_nil))) (qg_name (i := 4) sc56.nd rfl (by first | exact .inl rfl | exact .inr rfl)) (qss_cons (qs_set (i := 5) sc56.nd rfl (by first | exact .inl rfl | exact .inr rfl) (qe_cty (T := "tuple") call_tuple_of cd_tup (by rfl) W.m_tuple bt_tuple (qa_cons (qe_lc (own := [("at", 6)]) (g := gName 6) rfl sc56.nd (qi_range1 (by rfl) W.m_range (qa_cons (qe_call (ok__law_draw W) (hr.mono (by decide)) (by rfl) W.D52.g W.D52.kp W.D52.b takesD (qa_cons (qv 0) (qa_cons (qe_add (qv 2) (qe_int)) (qa_nil)))) (qa_nil))) (blkOk_by (N := ["deck", "wide", "k", "entries", "turn", "last", "at"]) (sc := defScope (top 56)) (by decide +kernel)) (fun _ _ _ _ _ => pg_name (i := 6) sc56.nd rfl (by first | exact .inl rfl | exact .inr rfl)) (tg_name (by simp)) (gm_name) (fun _ _ _ _ _ => qts_nil) (fun _ _ _ _ _ => qe_call (ok__law_draw W) (hr.mono (by decide)) (by rfl) W.D52.g W.D52.kp W.D52.b Dl.takes0 (qa_cons (qv 0) (qa_cons (qv 1) (qa_nil))))) (qa_nil)))) (qss_one (qs_putTA hr.r (qv 3) (qv 5) (qe_call (ok__law_drawn_weights W) (hr.mono (by decide)) (by rfl) W.D55.g W.D55.kp W.D55.b takesD (qa_cons (qv 0) (qa_cons (qv 1) (qa_nil)))))))) (qss_one (qs_ret (qe_tup (qa_cons (qe_str) (qa_cons (qv 1) (qa_cons (qv 2) (qa_cons (qe_cty (T := "tuple") call_tuple_of cd_tup (by rfl) W.m_tuple bt_tuple (qa_cons (qe_lc (own := [("last", 5)]) (g := gName 5) rfl sc56.nd (qi_any (qe_cb (id := "sorted") (cr_sortTR hr.r rfl) cd_sortT (by rfl) W.m_sorted bt_sorted (qa_cons (qv 3) (qa_nil)))) (blkOk_by (N := ["deck", "wide", "k", "entries", "turn", "last", "at"]) (sc := defScope (top 56)) (by decide +kernel)) (fun _ _ _ _ _ => pg_name (i := 5) sc56.nd rfl (by first | exact .inl rfl | exact .inr rfl)) (tg_name (by simp)) (gm_name) (fun _ _ _ _ _ => qts_nil) (fun _ _ _ _ _ => qe_tup (qa_cons (qv 5) (qa_cons (qe_atT hr.r (qv 3) (qv 5)) (qa_nil))))) (qa_nil))) (qa_cons (qe_call (ok__law_drawn_weights W) (hr.mono (by decide)) (by rfl) W.D55.g W.D55.kp W.D55.b takesD (qa_cons (qv 0) (qa_cons (qv 1) (qa_nil)))) (qa_nil))))))))))) fun _ _ _ _ _ h => h
/-! _law_drawn_vectors -/
def r__law_drawn_vectors : TSd := dRet (dCB tupOfD (dCons (dLc (dRange1 (dCons (dVar 1) (dNil))) (dGN 3) (dYes) (dCB tupOfD (dCons (dLc (dRange1 (dCons (dVar 2) (dNil))) (dGN 4) (dYes) (dOp subD (dCall 2 sp__law_draw (dCons (dVar 0) (dCons (dC (.int 11)) (dNil)))) (dC (.int 5))) [4]) (dNil))) [3]) (dNil)))
def sp__law_drawn_vectors : SpD := fun ds M Q E => r__law_drawn_vectors { nx := fun _ M' => Q .non M', rt := Q } E (startD ["deck", "many", "d", "at", "x"] ds) M
theorem ok__law_drawn_vectors : FnD P w K mg base W.Ts 2 W.a57 W.d57 3 ["deck", "many", "d"] sp__law_drawn_vectors :=
  fnD (N := ["deck", "many", "d", "at", "x"]) (ps := ["deck", "many", "d"]) W.D57.F rfl sc57 (fun A outer s H E hr => qss_one (qs_ret (qe_cty (T := "tuple") call_tuple_of cd_tup (by rfl) W.m_tuple bt_tuple (qa_cons (qe_lc (own := [("at", 3)]) (g := gName 3) rfl sc57.nd (qi_range1 (by rfl) W.m_range (qa_cons (qv 1) (qa_nil))) (blkOk_by (N := ["deck", "many", "d", "at", "x"]) (sc := defScope (top 57)) (by decide +kernel)) (fun _ _ _ _ _ => pg_name (i := 3) sc57.nd rfl (by first | exact .inl rfl | exact .inr rfl)) (tg_name (by simp)) (gm_name) (fun _ _ _ _ _ => qts_nil) (fun _ _ _ _ _ => qe_cty (T := "tuple") call_tuple_of cd_tup (by rfl) W.m_tuple bt_tuple (qa_cons (qe_lc (own := [("x", 4)]) (g := gName 4) rfl sc57.nd (qi_range1 (by rfl) W.m_range (qa_cons (qv 2) (qa_nil))) (blkOk_by (by kernel_rfl)) (fun _ _ _ _ _ => pg_name (i := 4) sc57.nd rfl (by first | exact .inl rfl | exact .inr rfl)) (tg_name (by simp)) (gm_name) (fun _ _ _ _ _ => qts_nil) (fun _ _ _ _ _ => qe_sub (qe_call (ok__law_draw W) (hr.mono (by decide)) (by rfl) W.D52.g W.D52.kp W.D52.b Dl.takes0 (qa_cons (qv 0) (qa_cons (qe_int) (qa_nil)))) (qe_int))) (qa_nil)))) (qa_nil))))) fun _ _ _ _ _ h => h
/-! _law_drawn_net -/
def r__law_drawn_net : TSd := dSeq (dAsg (dTup (dCons (dOp addD (dC (.int 2)) (dCall 2 sp__law_draw (dCons (dVar 0) (dCons (dC (.int 4)) (dNil))))) (dCons (dOp addD (dC (.int 1)) (dCall 2 sp__law_draw (dCons (dVar 0) (dCons (dC (.int 3)) (dNil))))) (dNil)))) (dGTup 2 (dGCons (dGN 1) (dGCons (dGN 2) (dGNil))))) (dSeq (dSet 3 (dCB tupOfD (dCons (dLc (dRange1 (dCons (dCall 2 sp__law_pick (dCons (dVar 0) (dCons (dLst (dCons (dC (.int 1)) (dCons (dC (.int 2)) (dCons (dC (.int 0)) (dCons (dC (.int 1)) (dCons (dC (.int 2)) (dNil))))))) (dNil)))) (dNil))) (dGN 4) (dYes) (dCB tupOfD (dCons (dLc (dRange1 (dCons (dC (.int 4)) (dNil))) (dGN 5) (dYes) (dCall 3 sp__law_drawn_vectors (dCons (dVar 0) (dCons (dVar 2) (dCons (dVar 2) (dNil))))) [5]) (dNil))) [4]) (dNil)))) (dRet (dTup (dCons (dC (.str "net")) (dCons (dVar 1) (dCons (dVar 2) (dCons (dCall 3 sp__law_drawn_vectors (dCons (dVar 0) (dCons (dVar 1) (dCons (dVar 2) (dNil))))) (dCons (dCall 3 sp__law_drawn_vectors (dCons (dVar 0) (dCons (dOp addD (dC (.int 1)) (dCall 2 sp__law_draw (dCons (dVar 0) (dCons (dC (.int 4)) (dNil))))) (dCons (dVar 2) (dNil))))) (dCons (dVar 3) (dCons (dCall 3 sp__law_drawn_vectors (dCons (dVar 0) (dCons (dVar 1) (dCons (dVar 2) (dNil))))) (dNil)))))))))))
def sp__law_drawn_net : SpD := fun ds M Q E => r__law_drawn_net { nx := fun _ M' => Q .non M', rt := Q } E (startD ["deck", "wide", "d", "layers", "turn", "at"] ds) M
theorem ok__law_drawn_net : FnD P w K mg base W.Ts 3 W.a58 W.d58 1 ["deck"] sp__law_drawn_net :=
  fnD (N := ["deck", "wide", "d", "layers", "turn", "at"]) (ps := ["deck"]) W.D58.F rfl sc58 (fun A outer s H E hr => qss_cons (qs_asg (qe_tup (qa_cons (qe_add (qe_int) (qe_call (ok__law_draw W) (hr.mono (by decide)) (by rfl) W.D52.g W.D52.kp W.D52.b takesD (qa_cons (qv 0) (qa_cons (qe_int) (qa_nil))))) (qa_cons (qe_add (qe_int) (qe_call (ok__law_draw W) (hr.mono (by decide)) (by rfl) W.D52.g W.D52.kp W.D52.b takesD (qa_cons (qv 0) (qa_cons (qe_int) (qa_nil))))) (qa_nil)))) (qg_tupA rfl (qgs_cons (qg_name (i := 1) sc58.nd rfl (by first | exact .inl rfl | exact .inr rfl)) (qgs_cons (qg_name (i := 2) sc58.nd rfl (by first | exact .inl rfl | exact .inr rfl)) (qgs_nil))))) (qss_cons (qs_set (i := 3) sc58.nd rfl (by first | exact .inl rfl | exact .inr rfl) (qe_cty (T := "tuple") call_tuple_of cd_tup (by rfl) W.m_tuple bt_tuple (qa_cons (qe_lc (own := [("turn", 4)]) (g := gName 4) rfl sc58.nd (qi_range1 (by rfl) W.m_range (qa_cons (qe_call (ok__law_pick W) (hr.mono (by decide)) (by rfl) W.D53.g W.D53.kp W.D53.b takesD (qa_cons (qv 0) (qa_cons (qe_lst (qa_cons (qe_int) (qa_cons (qe_int) (qa_cons (qe_int) (qa_cons (qe_int) (qa_cons (qe_int) (qa_nil))))))) (qa_nil)))) (qa_nil))) (blkOk_by (N := ["deck", "wide", "d", "layers", "turn", "at"]) (sc := defScope (top 58)) (by decide +kernel)) (fun _ _ _ _ _ => pg_name (i := 4) sc58.nd rfl (by first | exact .inl rfl | exact .inr rfl)) (tg_name (by simp)) (gm_name) (fun _ _ _ _ _ => qts_nil) (fun _ _ _ _ _ => qe_cty (T := "tuple") call_tuple_of cd_tup (by rfl) W.m_tuple bt_tuple (qa_cons (qe_lc (own := [("at", 5)]) (g := gName 5) rfl sc58.nd (qi_range1 (by rfl) W.m_range (qa_cons (qe_int) (qa_nil))) (blkOk_by (by kernel_rfl)) (fun _ _ _ _ _ => pg_name (i := 5) sc58.nd rfl (by first | exact .inl rfl | exact .inr rfl)) (tg_name (by simp)) (gm_name) (fun _ _ _ _ _ => qts_nil) (fun _ _ _ _ _ => qe_call (ok__law_drawn_vectors W) (hr.mono (by decide)) (by rfl) W.D57.g W.D57.kp W.D57.b Dl.takes0 (qa_cons (qv 0) (qa_cons (qv 2) (qa_cons (qv 2) (qa_nil)))))) (qa_nil)))) (qa_nil)))) (qss_one (qs_ret (qe_tup (qa_cons (qe_str) (qa_cons (qv 1) (qa_cons (qv 2) (qa_cons (qe_call (ok__law_drawn_vectors W) (hr.mono (by decide)) (by rfl) W.D57.g W.D57.kp W.D57.b takesD (qa_cons (qv 0) (qa_cons (qv 1) (qa_cons (qv 2) (qa_nil))))) (qa_cons (qe_call (ok__law_drawn_vectors W) (hr.mono (by decide)) (by rfl) W.D57.g W.D57.kp W.D57.b takesD (qa_cons (qv 0) (qa_cons (qe_add (qe_int) (qe_call (ok__law_draw W) (hr.mono (by decide)) (by rfl) W.D52.g W.D52.kp W.D52.b takesD (qa_cons (qv 0) (qa_cons (qe_int) (qa_nil))))) (qa_cons (qv 2) (qa_nil))))) (qa_cons (qv 3) (qa_cons (qe_call (ok__law_drawn_vectors W) (hr.mono (by decide)) (by rfl) W.D57.g W.D57.kp W.D57.b takesD (qa_cons (qv 0) (qa_cons (qv 1) (qa_cons (qv 2) (qa_nil))))) (qa_nil))))))))))))) fun _ _ _ _ _ h => h
/-! _law_drawn_tokens -/
def r__law_drawn_tokens : TSd := dRet (dCB tupOfD (dCons (dLc (dRange1 (dCons (dOp addD (dC (.int 1)) (dCall 2 sp__law_draw (dCons (dVar 0) (dCons (dVar 2) (dNil))))) (dNil))) (dGN 3) (dYes) (dCall 2 sp__law_draw (dCons (dVar 0) (dCons (dVar 1) (dNil)))) [3]) (dNil)))
def sp__law_drawn_tokens : SpD := fun ds M Q E => r__law_drawn_tokens { nx := fun _ M' => Q .non M', rt := Q } E (startD ["deck", "wide", "many", "at"] ds) M
theorem ok__law_drawn_tokens : FnD P w K mg base W.Ts 2 W.a59 W.d59 3 ["deck", "wide", "many"] sp__law_drawn_tokens :=
  fnD (N := ["deck", "wide", "many", "at"]) (ps := ["deck", "wide", "many"]) W.D59.F rfl sc59 (fun A outer s H E hr => qss_one (qs_ret (qe_cty (T := "tuple") call_tuple_of cd_tup (by rfl) W.m_tuple bt_tuple (qa_cons (qe_lc (own := [("at", 3)]) (g := gName 3) rfl sc59.nd (qi_range1 (by rfl) W.m_range (qa_cons (qe_add (qe_int) (qe_call (ok__law_draw W) (hr.mono (by decide)) (by rfl) W.D52.g W.D52.kp W.D52.b takesD (qa_cons (qv 0) (qa_cons (qv 2) (qa_nil))))) (qa_nil))) (blkOk_by (N := ["deck", "wide", "many", "at"]) (sc := defScope (top 59)) (by decide +kernel)) (fun _ _ _ _ _ => pg_name (i := 3) sc59.nd rfl (by first | exact .inl rfl | exact .inr rfl)) (tg_name (by simp)) (gm_name) (fun _ _ _ _ _ => qts_nil) (fun _ _ _ _ _ => qe_call (ok__law_draw W) (hr.mono (by decide)) (by rfl) W.D52.g W.D52.kp W.D52.b Dl.takes0 (qa_cons (qv 0) (qa_cons (qv 1) (qa_nil))))) (qa_nil))))) fun _ _ _ _ _ h => h
/-! _law_product -/
def r__law_product : TSd := dRet (dCB sumHD (dCons (dLc (dZip (dCons (dVar 0) (dCons (dVar 1) (dNil)))) (dGTup 2 (dGCons (dGN 2) (dGCons (dGN 3) (dGNil)))) (dYes) (dOp mulA (dVar 2) (dVar 3)) [2, 3]) (dNil)))
def sp__law_product : SpD := fun ds M Q E => r__law_product { nx := fun _ M' => Q .non M', rt := Q } E (startD ["one", "other", "x", "y"] ds) M
theorem ok__law_product : FnD P w K mg base W.Ts 1 W.a60 W.d60 2 ["one", "other"] sp__law_product :=
  fnD (N := ["one", "other", "x", "y"]) (ps := ["one", "other"]) W.D60.F rfl sc60 (fun A outer s H E hr => qss_one (qs_ret (qe_cb (id := "sum") (cr_sumH rfl) cd_sumH (by rfl) W.m_sum bt_sum (qa_cons (qe_lc (own := [("x", 2), ("y", 3)]) (g := gTup K 2 (gCons (gName 2) (gCons (gName 3) (gNil)))) rfl sc60.nd (qi_zip (by rfl) W.m_zip (qa_cons (qv 0) (qa_cons (qv 1) (qa_nil)))) (blkOk_by (N := ["one", "other", "x", "y"]) (sc := defScope (top 60)) (by decide +kernel)) (fun _ _ _ _ _ => pg_tup rfl (pgs_cons (pg_name (i := 2) sc60.nd rfl (by first | exact .inl rfl | exact .inr rfl)) (pgs_cons (pg_name (i := 3) sc60.nd rfl (by first | exact .inl rfl | exact .inr rfl)) (pgs_nil)))) (tg_tup (tgs_cons (gm_name) (gm_cons (gm_name) (gm_nil)) (tg_name (by simp)) (tgs_cons (gm_name) (gm_nil) (tg_name (by simp)) (tgs_nil)))) (gm_tup (gm_cons (gm_name) (gm_cons (gm_name) (gm_nil)))) (fun _ _ _ _ _ => qts_nil) (fun _ _ _ _ _ => qe_mulA (qv 2) (qv 3))) (qa_nil))))) fun _ _ _ _ _ h => h
/-! _law_times -/
def r__law_times : TSd := dRet (dCB tupOfD (dCons (dLc (dWalk (dVar 0)) (dGN 2) (dYes) (dCall 2 sp__law_product (dCons (dVar 2) (dCons (dVar 1) (dNil)))) [2]) (dNil)))
def sp__law_times : SpD := fun ds M Q E => r__law_times { nx := fun _ M' => Q .non M', rt := Q } E (startD ["matrix", "vector", "row"] ds) M
theorem ok__law_times : FnD P w K mg base W.Ts 2 W.a61 W.d61 2 ["matrix", "vector"] sp__law_times :=
  fnD (N := ["matrix", "vector", "row"]) (ps := ["matrix", "vector"]) W.D61.F rfl sc61 (fun A outer s H E hr => qss_one (qs_ret (qe_cty (T := "tuple") call_tuple_of cd_tup (by rfl) W.m_tuple bt_tuple (qa_cons (qe_lc (own := [("row", 2)]) (g := gName 2) rfl sc61.nd (qi_any (qv 0)) (blkOk_by (N := ["matrix", "vector", "row"]) (sc := defScope (top 61)) (by decide +kernel)) (fun _ _ _ _ _ => pg_name (i := 2) sc61.nd rfl (by first | exact .inl rfl | exact .inr rfl)) (tg_name (by simp)) (gm_name) (fun _ _ _ _ _ => qts_nil) (fun _ _ _ _ _ => qe_call (ok__law_product W) (hr.mono (by decide)) (by rfl) W.D60.g W.D60.kp W.D60.b Dl.takes0 (qa_cons (qv 2) (qa_cons (qv 1) (qa_nil))))) (qa_nil))))) fun _ _ _ _ _ h => h
end
end Z8
set_option Elab.async false
set_option linter.all false
set_option maxRecDepth 100000
set_option maxHeartbeats 4000000
namespace Z8
open PySem PySem.Spec PyProof.Rows L2 GxR Gn Dl
section
variable {P : Program} {w : World} {K : PySem.W.Frag} {mg : Str → Option Value} {base : Heap} (W : Wd K mg base)
/-! _law_clipped -/
def r__law_clipped : TSd := dRet (dCB tupOfD (dCons (dLc (dWalk (dVar 0)) (dGN 1) (dYes) (dCB (max2D true) (dCons (dNeg (dC (.int 20))) (dCons (dCB (max2D false) (dCons (dC (.int 20)) (dCons (dVar 1) (dNil)))) (dNil)))) [1]) (dNil)))
def sp__law_clipped : SpD := fun ds M Q E => r__law_clipped { nx := fun _ M' => Q .non M', rt := Q } E (startD ["vector", "x"] ds) M
theorem ok__law_clipped : FnD P w K mg base W.Ts 1 W.a62 W.d62 1 ["vector"] sp__law_clipped :=
  fnD (N := ["vector", "x"]) (ps := ["vector"]) W.D62.F rfl sc62 (fun A outer s H E hr => qss_one (qs_ret (qe_cty (T := "tuple") call_tuple_of cd_tup (by rfl) W.m_tuple bt_tuple (qa_cons (qe_lc (own := [("x", 1)]) (g := gName 1) rfl sc62.nd (qi_any (qv 0)) (blkOk_by (N := ["vector", "x"]) (sc := defScope (top 62)) (by decide +kernel)) (fun _ _ _ _ _ => pg_name (i := 1) sc62.nd rfl (by first | exact .inl rfl | exact .inr rfl)) (tg_name (by simp)) (gm_name) (fun _ _ _ _ _ => qts_nil) (fun _ _ _ _ _ => qe_cb (id := "max") (call_max2 rfl) cd_max2 (by rfl) W.m_max bt_max (qa_cons (qe_neg (qe_int)) (qa_cons (qe_cb (id := "min") (call_min2 rfl) cd_min2 (by rfl) W.m_min bt_min (qa_cons (qe_int) (qa_cons (qv 1) (qa_nil)))) (qa_nil))))) (qa_nil))))) fun _ _ _ _ _ h => h
/-! _law_doubled -/
def r__law_doubled : TSd := dSeq (dSet 1 (dC (.int 1))) (dSeq (dFor (dRange1 (dCons (dCB (max2D false) (dCons (dC (.int 6)) (dCons (dVar 0) (dNil)))) (dNil))) (dGN 2) (dSet 1 (dOp mulA (dC (.int 2)) (dVar 1)))) (dRet (dVar 1)))
def sp__law_doubled : SpD := fun ds M Q E => r__law_doubled { nx := fun _ M' => Q .non M', rt := Q } E (startD ["many", "found", "turn"] ds) M
theorem ok__law_doubled : FnD P w K mg base W.Ts 1 W.a63 W.d63 1 ["many"] sp__law_doubled :=
  fnD (N := ["many", "found", "turn"]) (ps := ["many"]) W.D63.F rfl sc63 (fun A outer s H E hr => qss_cons (qs_set (i := 1) sc63.nd rfl (by first | exact .inl rfl | exact .inr rfl) (qe_int)) (qss_cons (qs_for passD rfl (qi_range1 (by rfl) W.m_range (qa_cons (qe_cb (id := "min") (call_min2 rfl) cd_min2 (by rfl) W.m_min bt_min (qa_cons (qe_int) (qa_cons (qv 0) (qa_nil)))) (qa_nil))) (qg_name (i := 2) sc63.nd rfl (by first | exact .inl rfl | exact .inr rfl)) (qss_one (qs_set (i := 1) sc63.nd rfl (by first | exact .inl rfl | exact .inr rfl) (qe_mulA (qe_int) (qv 1))))) (qss_one (qs_ret (qv 1))))) fun _ _ _ _ _ h => h
/-! _law_mixed -/
def r__law_mixed : TSd := dSeq (dSet 3 (dLc (dWalk (dVar 1)) (dGN 6) (dYes) (dCall 1 sp__law_doubled (dCons (dCB (max2D true) (dCons (dC (.int 0)) (dCons (dOp addD (dOp subD (dC (.int 6)) (dCB maxHD (dCons (dVar 1) (dNil)))) (dVar 6)) (dNil)))) (dNil))) [6])) (dSeq (dSet 4 (dLst (dNil))) (dSeq (dFor (dRange1 (dCons (dCB lenD (dCons (dOp ixA (dVar 0) (dC (.int 2))) (dNil))) (dNil))) (dGN 5) (dDrop (dBM isLst appendD (dVar 4) (dCons (dOp fdivD (dCB sumHD (dCons (dLc (dZip (dCons (dVar 3) (dCons (dVar 2) (dNil)))) (dGTup 2 (dGCons (dGN 7) (dGCons (dGN 8) (dGNil)))) (dYes) (dOp mulA (dVar 7) (dOp ixA (dVar 8) (dVar 5))) [7, 8]) (dNil))) (dCB sumHD (dCons (dVar 3) (dNil)))) (dNil))))) (dRet (dCB tupOfD (dCons (dVar 4) (dNil))))))
def sp__law_mixed : SpD := fun ds M Q E => r__law_mixed { nx := fun _ M' => Q .non M', rt := Q } E (startD ["layer", "scores", "worths", "shares", "found", "k", "score", "share", "worth"] ds) M
theorem ok__law_mixed : FnD P w K mg base W.Ts 2 W.a64 W.d64 3 ["layer", "scores", "worths"] sp__law_mixed :=
  fnD (N := ["layer", "scores", "worths", "shares", "found", "k", "score", "share", "worth"]) (ps := ["layer", "scores", "worths"]) W.D64.F rfl sc64 (fun A outer s H E hr => qss_cons (qs_setLc (i := 3) (own := [("score", 6)]) (g := gName 6) rfl sc64.nd rfl rfl (sw_true rfl rfl rfl (by decide +kernel)) (qi_any (qv 1)) (blkOk_by (N := ["layer", "scores", "worths", "shares", "found", "k", "score", "share", "worth"]) (sc := defScope (top 64)) (by decide +kernel)) (fun _ _ _ _ _ => pg_name (i := 6) sc64.nd rfl (by first | exact .inl rfl | exact .inr rfl)) (tg_name (by simp)) (gm_name) (fun _ _ _ _ _ => qts_nil) (fun _ _ _ _ _ => qe_call (ok__law_doubled W) (hr.mono (by decide)) (by rfl) W.D63.g W.D63.kp W.D63.b Dl.takes0 (qa_cons (qe_cb (id := "max") (call_max2 rfl) cd_max2 (by rfl) W.m_max bt_max (qa_cons (qe_int) (qa_cons (qe_add (qe_sub (qe_int) (qe_cb (id := "max") (cr_maxH rfl) cd_maxH (by rfl) W.m_max bt_max (qa_cons (qv 1) (qa_nil)))) (qv 6)) (qa_nil)))) (qa_nil)))) (qss_cons (qs_set (i := 4) sc64.nd rfl (by first | exact .inl rfl | exact .inr rfl) (qe_lst (qa_nil))) (qss_cons (qs_for passD rfl (qi_range1 (by rfl) W.m_range (qa_cons (qe_cb (id := "len") cr_lenH cd_len (by rfl) W.m_len bt_len (qa_cons (qe_at hr.r (qv 0) (qe_int)) (qa_nil))) (qa_nil))) (qg_name (i := 5) sc64.nd rfl (by first | exact .inl rfl | exact .inr rfl)) (qss_one (qs_expr (qe_append (qv 4) (qa_cons (qe_fdiv (qe_cb (id := "sum") (cr_sumH rfl) cd_sumH (by rfl) W.m_sum bt_sum (qa_cons (qe_lc (own := [("share", 7), ("worth", 8)]) (g := gTup K 2 (gCons (gName 7) (gCons (gName 8) (gNil)))) rfl sc64.nd (qi_zip (by rfl) W.m_zip (qa_cons (qv 3) (qa_cons (qv 2) (qa_nil)))) (blkOk_by (N := ["layer", "scores", "worths", "shares", "found", "k", "score", "share", "worth"]) (sc := defScope (top 64)) (by decide +kernel)) (fun _ _ _ _ _ => pg_tup rfl (pgs_cons (pg_name (i := 7) sc64.nd rfl (by first | exact .inl rfl | exact .inr rfl)) (pgs_cons (pg_name (i := 8) sc64.nd rfl (by first | exact .inl rfl | exact .inr rfl)) (pgs_nil)))) (tg_tup (tgs_cons (gm_name) (gm_cons (gm_name) (gm_nil)) (tg_name (by simp)) (tgs_cons (gm_name) (gm_nil) (tg_name (by simp)) (tgs_nil)))) (gm_tup (gm_cons (gm_name) (gm_cons (gm_name) (gm_nil)))) (fun _ _ _ _ _ => qts_nil) (fun _ _ _ _ _ => qe_mulA (qv 7) (qe_at hr.r (qv 8) (qv 5)))) (qa_nil))) (qe_cb (id := "sum") (cr_sumH rfl) cd_sumH (by rfl) W.m_sum bt_sum (qa_cons (qv 3) (qa_nil)))) (qa_nil)))))) (qss_one (qs_ret (qe_cty (T := "tuple") call_tuple_of cd_tup (by rfl) W.m_tuple bt_tuple (qa_cons (qv 4) (qa_nil)))))))) fun _ _ _ _ _ h => h
/-! _law_net_step -/
def r__law_net_step : TSd := dSeq (dAsg (dVar 0) (dGTup 7 (dGCons (dGN 3) (dGCons (dGN 4) (dGCons (dGN 5) (dGCons (dGN 6) (dGCons (dGN 7) (dGCons (dGN 8) (dGCons (dGN 9) (dGNil)))))))))) (dSeq (dSet 10 (dOp ixA (dVar 7) (dOp modD (dCB intOfD (dCons (dCB lenD (dCons (dVar 1) (dNil))) (dNil))) (dCB lenD (dCons (dVar 7) (dNil)))))) (dSeq (dPar 11 12 (dCons (dCall 1 sp__law_clipped (dCons (dLc (dZip (dCons (dOp ixA (dVar 6) (dVar 2)) (dCons (dVar 10) (dNil)))) (dGTup 2 (dGCons (dGN 21) (dGCons (dGN 22) (dGNil)))) (dYes) (dOp addD (dVar 21) (dVar 22)) [21, 22]) (dNil))) (dCons (dLst (dNil)) (dNil)))) (dSeq (dFor (dEnumA (dCons (dVar 8) (dNil))) (dGTup 2 (dGCons (dGN 13) (dGCons (dGN 14) (dGNil)))) (dSeq (dPar 15 16 (dCons (dCall 2 sp__law_times (dCons (dOp ixA (dVar 14) (dC (.int 1))) (dCons (dVar 11) (dNil)))) (dCons (dCall 2 sp__law_times (dCons (dOp ixA (dVar 14) (dC (.int 2))) (dCons (dVar 11) (dNil)))) (dNil)))) (dSeq (dSet 17 (dCall 2 sp__law_times (dCons (dOp ixA (dVar 14) (dC (.int 0))) (dCons (dVar 11) (dNil))))) (dSeq (dPar 18 19 (dCons (dOp addD (dLc (dWalk (dVar 1)) (dGN 24) (dYes) (dOp ixA (dOp ixA (dVar 24) (dVar 13)) (dC (.int 0))) [24]) (dLst (dCons (dVar 15) (dNil)))) (dCons (dOp addD (dLc (dWalk (dVar 1)) (dGN 24) (dYes) (dOp ixA (dOp ixA (dVar 24) (dVar 13)) (dC (.int 1))) [24]) (dLst (dCons (dVar 16) (dNil)))) (dNil)))) (dSeq (dSet 20 (dCall 3 sp__law_mixed (dCons (dVar 14) (dCons (dLc (dWalk (dVar 18)) (dGN 23) (dYes) (dCall 2 sp__law_product (dCons (dVar 17) (dCons (dVar 23) (dNil)))) [23]) (dCons (dVar 19) (dNil)))))) (dSeq (dDrop (dBM isLst appendD (dVar 12) (dCons (dTup (dCons (dVar 15) (dCons (dVar 16) (dNil)))) (dNil)))) (dSet 11 (dCall 1 sp__law_clipped (dCons (dLc (dZip (dCons (dVar 11) (dCons (dCall 2 sp__law_times (dCons (dOp ixA (dVar 14) (dC (.int 3))) (dCons (dVar 20) (dNil)))) (dNil)))) (dGTup 2 (dGCons (dGN 21) (dGCons (dGN 22) (dGNil)))) (dYes) (dOp addD (dVar 21) (dVar 22)) [21, 22]) (dNil)))))))))) (dRet (dTup (dCons (dCB tupOfD (dCons (dVar 12) (dNil))) (dCons (dVar 11) (dNil))))))))
def sp__law_net_step : SpD := fun ds M Q E => r__law_net_step { nx := fun _ M' => Q .non M', rt := Q } E (startD ["model", "rows", "token", "word", "wide", "d", "embeds", "places", "layers", "outs", "place", "state", "found", "at", "layer", "key", "worth", "look", "keys", "worths", "near", "x", "y", "it", "row"] ds) M
theorem ok__law_net_step : FnD P w K mg base W.Ts 3 W.a65 W.d65 3 ["model", "rows", "token"] sp__law_net_step :=
  fnD (N := ["model", "rows", "token", "word", "wide", "d", "embeds", "places", "layers", "outs", "place", "state", "found", "at", "layer", "key", "worth", "look", "keys", "worths", "near", "x", "y", "it", "row"]) (ps := ["model", "rows", "token"]) W.D65.F rfl sc65 (fun A outer s H E hr => qss_cons (qs_asg (qv 0) (qg_tupA rfl (qgs_cons (qg_name (i := 3) sc65.nd rfl (by first | exact .inl rfl | exact .inr rfl)) (qgs_cons (qg_name (i := 4) sc65.nd rfl (by first | exact .inl rfl | exact .inr rfl)) (qgs_cons (qg_name (i := 5) sc65.nd rfl (by first | exact .inl rfl | exact .inr rfl)) (qgs_cons (qg_name (i := 6) sc65.nd rfl (by first | exact .inl rfl | exact .inr rfl)) (qgs_cons (qg_name (i := 7) sc65.nd rfl (by first | exact .inl rfl | exact .inr rfl)) (qgs_cons (qg_name (i := 8) sc65.nd rfl (by first | exact .inl rfl | exact .inr rfl)) (qgs_cons (qg_name (i := 9) sc65.nd rfl (by first | exact .inl rfl | exact .inr rfl)) (qgs_nil)))))))))) (qss_cons (qs_set (i := 10) sc65.nd rfl (by first | exact .inl rfl | exact .inr rfl) (qe_at hr.r (qv 7) (qe_mod (qe_cty (T := "int") call_int1 cd_int (by rfl) W.m_int bt_int (qa_cons (qe_cb (id := "len") cr_lenH cd_len (by rfl) W.m_len bt_len (qa_cons (qv 1) (qa_nil))) (qa_nil))) (qe_cb (id := "len") cr_lenH cd_len (by rfl) W.m_len bt_len (qa_cons (qv 7) (qa_nil)))))) (qss_cons (qs_par (i := 11) (j := 12) rfl sc65.nd rfl rfl (by decide) rfl rfl (qa_cons (qe_call (ok__law_clipped W) (hr.mono (by decide)) (by rfl) W.D62.g W.D62.kp W.D62.b takesD (qa_cons (qe_lc (own := [("x", 21), ("y", 22)]) (g := gTup K 2 (gCons (gName 21) (gCons (gName 22) (gNil)))) rfl sc65.nd (qi_zip (by rfl) W.m_zip (qa_cons (qe_at hr.r (qv 6) (qv 2)) (qa_cons (qv 10) (qa_nil)))) (blkOk_by (N := ["model", "rows", "token", "word", "wide", "d", "embeds", "places", "layers", "outs", "place", "state", "found", "at", "layer", "key", "worth", "look", "keys", "worths", "near", "x", "y", "it", "row"]) (sc := defScope (top 65)) (by decide +kernel)) (fun _ _ _ _ _ => pg_tup rfl (pgs_cons (pg_name (i := 21) sc65.nd rfl (by first | exact .inl rfl | exact .inr rfl)) (pgs_cons (pg_name (i := 22) sc65.nd rfl (by first | exact .inl rfl | exact .inr rfl)) (pgs_nil)))) (tg_tup (tgs_cons (gm_name) (gm_cons (gm_name) (gm_nil)) (tg_name (by simp)) (tgs_cons (gm_name) (gm_nil) (tg_name (by simp)) (tgs_nil)))) (gm_tup (gm_cons (gm_name) (gm_cons (gm_name) (gm_nil)))) (fun _ _ _ _ _ => qts_nil) (fun _ _ _ _ _ => qe_add (qv 21) (qv 22))) (qa_nil))) (qa_cons (qe_lst (qa_nil)) (qa_nil))) (by rfl)) (qss_cons (qs_for passD rfl (qi_enumA (by rfl) W.m_enumerate (qa_cons (qv 8) (qa_nil))) (qg_tupA rfl (qgs_cons (qg_name (i := 13) sc65.nd rfl (by first | exact .inl rfl | exact .inr rfl)) (qgs_cons (qg_name (i := 14) sc65.nd rfl (by first | exact .inl rfl | exact .inr rfl)) (qgs_nil)))) (qss_cons (qs_par (i := 15) (j := 16) rfl sc65.nd rfl rfl (by decide) rfl rfl (qa_cons (qe_call (ok__law_times W) (hr.mono (by decide)) (by rfl) W.D61.g W.D61.kp W.D61.b takesD (qa_cons (qe_at hr.r (qv 14) (qe_int)) (qa_cons (qv 11) (qa_nil)))) (qa_cons (qe_call (ok__law_times W) (hr.mono (by decide)) (by rfl) W.D61.g W.D61.kp W.D61.b takesD (qa_cons (qe_at hr.r (qv 14) (qe_int)) (qa_cons (qv 11) (qa_nil)))) (qa_nil))) (by rfl)) (qss_cons (qs_set (i := 17) sc65.nd rfl (by first | exact .inl rfl | exact .inr rfl) (qe_call (ok__law_times W) (hr.mono (by decide)) (by rfl) W.D61.g W.D61.kp W.D61.b takesD (qa_cons (qe_at hr.r (qv 14) (qe_int)) (qa_cons (qv 11) (qa_nil))))) (qss_cons (qs_par (i := 18) (j := 19) rfl sc65.nd rfl rfl (by decide) rfl rfl (qa_cons (qe_add (qe_lc (own := [("row", 24)]) (g := gName 24) rfl sc65.nd (qi_any (qv 1)) (blkOk_by (N := ["model", "rows", "token", "word", "wide", "d", "embeds", "places", "layers", "outs", "place", "state", "found", "at", "layer", "key", "worth", "look", "keys", "worths", "near", "x", "y", "it", "row"]) (sc := defScope (top 65)) (by decide +kernel)) (fun _ _ _ _ _ => pg_name (i := 24) sc65.nd rfl (by first | exact .inl rfl | exact .inr rfl)) (tg_name (by simp)) (gm_name) (fun _ _ _ _ _ => qts_nil) (fun _ _ _ _ _ => qe_at hr.r (qe_at hr.r (qv 24) (qv 13)) (qe_int))) (qe_lst (qa_cons (qv 15) (qa_nil)))) (qa_cons (qe_add (qe_lc (own := [("row", 24)]) (g := gName 24) rfl sc65.nd (qi_any (qv 1)) (blkOk_by (N := ["model", "rows", "token", "word", "wide", "d", "embeds", "places", "layers", "outs", "place", "state", "found", "at", "layer", "key", "worth", "look", "keys", "worths", "near", "x", "y", "it", "row"]) (sc := defScope (top 65)) (by decide +kernel)) (fun _ _ _ _ _ => pg_name (i := 24) sc65.nd rfl (by first | exact .inl rfl | exact .inr rfl)) (tg_name (by simp)) (gm_name) (fun _ _ _ _ _ => qts_nil) (fun _ _ _ _ _ => qe_at hr.r (qe_at hr.r (qv 24) (qv 13)) (qe_int))) (qe_lst (qa_cons (qv 16) (qa_nil)))) (qa_nil))) (by rfl)) (qss_cons (qs_set (i := 20) sc65.nd rfl (by first | exact .inl rfl | exact .inr rfl) (qe_call (ok__law_mixed W) (hr.mono (by decide)) (by rfl) W.D64.g W.D64.kp W.D64.b takesD (qa_cons (qv 14) (qa_cons (qe_lc (own := [("it", 23)]) (g := gName 23) rfl sc65.nd (qi_any (qv 18)) (blkOk_by (N := ["model", "rows", "token", "word", "wide", "d", "embeds", "places", "layers", "outs", "place", "state", "found", "at", "layer", "key", "worth", "look", "keys", "worths", "near", "x", "y", "it", "row"]) (sc := defScope (top 65)) (by decide +kernel)) (fun _ _ _ _ _ => pg_name (i := 23) sc65.nd rfl (by first | exact .inl rfl | exact .inr rfl)) (tg_name (by simp)) (gm_name) (fun _ _ _ _ _ => qts_nil) (fun _ _ _ _ _ => qe_call (ok__law_product W) (hr.mono (by decide)) (by rfl) W.D60.g W.D60.kp W.D60.b Dl.takes0 (qa_cons (qv 17) (qa_cons (qv 23) (qa_nil))))) (qa_cons (qv 19) (qa_nil)))))) (qss_cons (qs_expr (qe_append (qv 12) (qa_cons (qe_tup (qa_cons (qv 15) (qa_cons (qv 16) (qa_nil)))) (qa_nil)))) (qss_one (qs_set (i := 11) sc65.nd rfl (by first | exact .inl rfl | exact .inr rfl) (qe_call (ok__law_clipped W) (hr.mono (by decide)) (by rfl) W.D62.g W.D62.kp W.D62.b takesD (qa_cons (qe_lc (own := [("x", 21), ("y", 22)]) (g := gTup K 2 (gCons (gName 21) (gCons (gName 22) (gNil)))) rfl sc65.nd (qi_zip (by rfl) W.m_zip (qa_cons (qv 11) (qa_cons (qe_call (ok__law_times W) (hr.mono (by decide)) (by rfl) W.D61.g W.D61.kp W.D61.b takesD (qa_cons (qe_at hr.r (qv 14) (qe_int)) (qa_cons (qv 20) (qa_nil)))) (qa_nil)))) (blkOk_by (N := ["model", "rows", "token", "word", "wide", "d", "embeds", "places", "layers", "outs", "place", "state", "found", "at", "layer", "key", "worth", "look", "keys", "worths", "near", "x", "y", "it", "row"]) (sc := defScope (top 65)) (by decide +kernel)) (fun _ _ _ _ _ => pg_tup rfl (pgs_cons (pg_name (i := 21) sc65.nd rfl (by first | exact .inl rfl | exact .inr rfl)) (pgs_cons (pg_name (i := 22) sc65.nd rfl (by first | exact .inl rfl | exact .inr rfl)) (pgs_nil)))) (tg_tup (tgs_cons (gm_name) (gm_cons (gm_name) (gm_nil)) (tg_name (by simp)) (tgs_cons (gm_name) (gm_nil) (tg_name (by simp)) (tgs_nil)))) (gm_tup (gm_cons (gm_name) (gm_cons (gm_name) (gm_nil)))) (fun _ _ _ _ _ => qts_nil) (fun _ _ _ _ _ => qe_add (qv 21) (qv 22))) (qa_nil))))))))))) (qss_one (qs_ret (qe_tup (qa_cons (qe_cty (T := "tuple") call_tuple_of cd_tup (by rfl) W.m_tuple bt_tuple (qa_cons (qv 12) (qa_nil))) (qa_cons (qv 11) (qa_nil)))))))))) fun _ _ _ _ _ h => h
/-! _law_net_weights -/
def r__law_net_weights : TSd := dSeq (dSet 2 (dLc (dWalk (dOp ixA (dVar 0) (dC (.int 6)))) (dGN 3) (dYes) (dCall 2 sp__law_product (dCons (dVar 3) (dCons (dVar 1) (dNil)))) [3])) (dRet (dCB tupOfD (dCons (dLc (dWalk (dVar 2)) (dGN 4) (dYes) (dCall 1 sp__law_doubled (dCons (dCB (max2D true) (dCons (dC (.int 0)) (dCons (dOp addD (dOp subD (dC (.int 6)) (dCB maxHD (dCons (dVar 2) (dNil)))) (dVar 4)) (dNil)))) (dNil))) [4]) (dNil))))
def sp__law_net_weights : SpD := fun ds M Q E => r__law_net_weights { nx := fun _ M' => Q .non M', rt := Q } E (startD ["model", "state", "products", "out", "product"] ds) M
theorem ok__law_net_weights : FnD P w K mg base W.Ts 2 W.a66 W.d66 2 ["model", "state"] sp__law_net_weights :=
  fnD (N := ["model", "state", "products", "out", "product"]) (ps := ["model", "state"]) W.D66.F rfl sc66 (fun A outer s H E hr => qss_cons (qs_set (i := 2) sc66.nd rfl (by first | exact .inl rfl | exact .inr rfl) (qe_lc (own := [("out", 3)]) (g := gName 3) rfl sc66.nd (qi_any (qe_at hr.r (qv 0) (qe_int))) (blkOk_by (N := ["model", "state", "products", "out", "product"]) (sc := defScope (top 66)) (by decide +kernel)) (fun _ _ _ _ _ => pg_name (i := 3) sc66.nd rfl (by first | exact .inl rfl | exact .inr rfl)) (tg_name (by simp)) (gm_name) (fun _ _ _ _ _ => qts_nil) (fun _ _ _ _ _ => qe_call (ok__law_product W) (hr.mono (by decide)) (by rfl) W.D60.g W.D60.kp W.D60.b Dl.takes0 (qa_cons (qv 3) (qa_cons (qv 1) (qa_nil)))))) (qss_one (qs_ret (qe_cty (T := "tuple") call_tuple_of cd_tup (by rfl) W.m_tuple bt_tuple (qa_cons (qe_lc (own := [("product", 4)]) (g := gName 4) rfl sc66.nd (qi_any (qv 2)) (blkOk_by (N := ["model", "state", "products", "out", "product"]) (sc := defScope (top 66)) (by decide +kernel)) (fun _ _ _ _ _ => pg_name (i := 4) sc66.nd rfl (by first | exact .inl rfl | exact .inr rfl)) (tg_name (by simp)) (gm_name) (fun _ _ _ _ _ => qts_nil) (fun _ _ _ _ _ => qe_call (ok__law_doubled W) (hr.mono (by decide)) (by rfl) W.D63.g W.D63.kp W.D63.b Dl.takes0 (qa_cons (qe_cb (id := "max") (call_max2 rfl) cd_max2 (by rfl) W.m_max bt_max (qa_cons (qe_int) (qa_cons (qe_add (qe_sub (qe_int) (qe_cb (id := "max") (cr_maxH rfl) cd_maxH (by rfl) W.m_max bt_max (qa_cons (qv 2) (qa_nil)))) (qv 4)) (qa_nil)))) (qa_nil)))) (qa_nil)))))) fun _ _ _ _ _ h => h
/-! _law_window_weights -/
def r__law_window_weights : TSd := dSeq (dSet 2 (dSl (dVar 1) (dPart (dCB (max2D true) (dCons (dC (.int 0)) (dCons (dOp subD (dCB lenD (dCons (dVar 1) (dNil))) (dOp ixA (dVar 0) (dC (.int 2)))) (dNil))))) (dNo))) (dSeq (dFor (dWalk (dOp ixA (dVar 0) (dC (.int 3)))) (dGN 3) (dIfS (dTest (dOp (eqA false) (dOp ixA (dVar 3) (dC (.int 0))) (dVar 2))) (dRet (dOp ixA (dVar 3) (dC (.int 1)))) (dNext))) (dRet (dOp ixA (dVar 0) (dC (.int 4)))))
def sp__law_window_weights : SpD := fun ds M Q E => r__law_window_weights { nx := fun _ M' => Q .non M', rt := Q } E (startD ["model", "tokens", "last", "entry"] ds) M
theorem ok__law_window_weights : FnD P w K mg base W.Ts 1 W.a67 W.d67 2 ["model", "tokens"] sp__law_window_weights :=
  fnD (N := ["model", "tokens", "last", "entry"]) (ps := ["model", "tokens"]) W.D67.F rfl sc67 (fun A outer s H E hr => qss_cons (qs_set (i := 2) sc67.nd rfl (by first | exact .inl rfl | exact .inr rfl) (qe_slice (qv 1) (qo_some (qe_cb (id := "max") (call_max2 rfl) cd_max2 (by rfl) W.m_max bt_max (qa_cons (qe_int) (qa_cons (qe_sub (qe_cb (id := "len") cr_lenH cd_len (by rfl) W.m_len bt_len (qa_cons (qv 1) (qa_nil))) (qe_at hr.r (qv 0) (qe_int))) (qa_nil))))) (qo_none))) (qss_cons (qs_for passD rfl (qi_any (qe_at hr.r (qv 0) (qe_int))) (qg_name (i := 3) sc67.nd rfl (by first | exact .inl rfl | exact .inr rfl)) (qss_one (qs_if (qt_cmp (op_eqA hr.r) od_eqA (qe_at hr.r (qv 3) (qe_int)) (qv 2) (nomark _)) (qss_one (qs_ret (qe_at hr.r (qv 3) (qe_int)))) (qss_nil)))) (qss_one (qs_ret (qe_at hr.r (qv 0) (qe_int)))))) fun _ _ _ _ _ h => h
/-! _law_stepped -/
def r__law_stepped : TSd := dSeq (dIfS (dTest (dOp (eqA false) (dOp ixA (dVar 0) (dC (.int 0))) (dC (.str "window")))) (dRet (dTup (dCons (dTup (dCons (dVar 2) (dNil))) (dCons (dCall 2 sp__law_window_weights (dCons (dVar 0) (dCons (dOp addD (dCB tupOfD (dCons (dLc (dWalk (dVar 1)) (dGN 3) (dYes) (dOp ixA (dVar 3) (dC (.int 0))) [3]) (dNil))) (dTup (dCons (dVar 2) (dNil)))) (dNil)))) (dNil))))) (dNext)) (dSeq (dAsg (dCall 3 sp__law_net_step (dCons (dVar 0) (dCons (dVar 1) (dCons (dVar 2) (dNil))))) (dGTup 2 (dGCons (dGN 3) (dGCons (dGN 4) (dGNil))))) (dRet (dTup (dCons (dVar 3) (dCons (dCall 2 sp__law_net_weights (dCons (dVar 0) (dCons (dVar 4) (dNil)))) (dNil))))))
def sp__law_stepped : SpD := fun ds M Q E => r__law_stepped { nx := fun _ M' => Q .non M', rt := Q } E (startD ["model", "rows", "token", "row", "state"] ds) M
theorem ok__law_stepped : FnD P w K mg base W.Ts 4 W.a68 W.d68 3 ["model", "rows", "token"] sp__law_stepped :=
  fnD (N := ["model", "rows", "token", "row", "state"]) (ps := ["model", "rows", "token"]) W.D68.F rfl sc68 (fun A outer s H E hr => qss_cons (qs_if (qt_cmp (op_eqA hr.r) od_eqA (qe_at hr.r (qv 0) (qe_int)) (qe_str) (nomark _)) (qss_one (qs_ret (qe_tup (qa_cons (qe_tup (qa_cons (qv 2) (qa_nil))) (qa_cons (qe_call (ok__law_window_weights W) (hr.mono (by decide)) (by rfl) W.D67.g W.D67.kp W.D67.b takesD (qa_cons (qv 0) (qa_cons (qe_add (qe_cty (T := "tuple") call_tuple_of cd_tup (by rfl) W.m_tuple bt_tuple (qa_cons (qe_lc (own := [("row", 3)]) (g := gName 3) rfl sc68.nd (qi_any (qv 1)) (blkOk_by (N := ["model", "rows", "token", "row", "state"]) (sc := defScope (top 68)) (by decide +kernel)) (fun _ _ _ _ _ => pg_name (i := 3) sc68.nd rfl (by first | exact .inl rfl | exact .inr rfl)) (tg_name (by simp)) (gm_name) (fun _ _ _ _ _ => qts_nil) (fun _ _ _ _ _ => qe_at hr.r (qv 3) (qe_int))) (qa_nil))) (qe_tup (qa_cons (qv 2) (qa_nil)))) (qa_nil)))) (qa_nil)))))) (qss_nil)) (qss_cons (qs_asg (qe_call (ok__law_net_step W) (hr.mono (by decide)) (by rfl) W.D65.g W.D65.kp W.D65.b takesD (qa_cons (qv 0) (qa_cons (qv 1) (qa_cons (qv 2) (qa_nil))))) (qg_tupA rfl (qgs_cons (qg_name (i := 3) sc68.nd rfl (by first | exact .inl rfl | exact .inr rfl)) (qgs_cons (qg_name (i := 4) sc68.nd rfl (by first | exact .inl rfl | exact .inr rfl)) (qgs_nil))))) (qss_one (qs_ret (qe_tup (qa_cons (qv 3) (qa_cons (qe_call (ok__law_net_weights W) (hr.mono (by decide)) (by rfl) W.D66.g W.D66.kp W.D66.b takesD (qa_cons (qv 0) (qa_cons (qv 4) (qa_nil)))) (qa_nil)))))))) fun _ _ _ _ _ h => h
/-! _law_rows -/
def r__law_rows : TSd := dSeq (dSet 2 (dLst (dNil))) (dSeq (dFor (dWalk (dVar 1)) (dGN 3) (dDrop (dBM isLst appendD (dVar 2) (dCons (dIf (dTest (dOp (eqA false) (dOp ixA (dVar 0) (dC (.int 0))) (dC (.str "window")))) (dTup (dCons (dVar 3) (dNil))) (dOp ixA (dCall 3 sp__law_net_step (dCons (dVar 0) (dCons (dVar 2) (dCons (dVar 3) (dNil))))) (dC (.int 0)))) (dNil))))) (dRet (dCB tupOfD (dCons (dVar 2) (dNil)))))
def sp__law_rows : SpD := fun ds M Q E => r__law_rows { nx := fun _ M' => Q .non M', rt := Q } E (startD ["model", "tokens", "found", "token"] ds) M
theorem ok__law_rows : FnD P w K mg base W.Ts 4 W.a69 W.d69 2 ["model", "tokens"] sp__law_rows :=
  fnD (N := ["model", "tokens", "found", "token"]) (ps := ["model", "tokens"]) W.D69.F rfl sc69 (fun A outer s H E hr => qss_cons (qs_set (i := 2) sc69.nd rfl (by first | exact .inl rfl | exact .inr rfl) (qe_lst (qa_nil))) (qss_cons (qs_for passD rfl (qi_any (qv 1)) (qg_name (i := 3) sc69.nd rfl (by first | exact .inl rfl | exact .inr rfl)) (qss_one (qs_expr (qe_append (qv 2) (qa_cons (qe_if (qt_cmp (op_eqA hr.r) od_eqA (qe_at hr.r (qv 0) (qe_int)) (qe_str) (nomark _)) (qe_tup (qa_cons (qv 3) (qa_nil))) (qe_at hr.r (qe_call (ok__law_net_step W) (hr.mono (by decide)) (by rfl) W.D65.g W.D65.kp W.D65.b takesD (qa_cons (qv 0) (qa_cons (qv 2) (qa_cons (qv 3) (qa_nil))))) (qe_int))) (qa_nil)))))) (qss_one (qs_ret (qe_cty (T := "tuple") call_tuple_of cd_tup (by rfl) W.m_tuple bt_tuple (qa_cons (qv 2) (qa_nil))))))) fun _ _ _ _ _ h => h
/-! _law_changed_rows -/
def r__law_changed_rows : TSd := dSeq (dSet 2 (dCall 2 sp__law_draw (dCons (dVar 0) (dCons (dCB lenD (dCons (dVar 1) (dNil))) (dNil))))) (dSeq (dPar 3 4 (dCons (dCall 2 sp__law_draw (dCons (dVar 0) (dCons (dCB lenD (dCons (dOp ixA (dVar 1) (dVar 2)) (dNil))) (dNil)))) (dCons (dCall 2 sp__law_draw (dCons (dVar 0) (dCons (dC (.int 2)) (dNil)))) (dNil)))) (dSeq (dSet 5 (dOp ixA (dOp ixA (dVar 1) (dVar 2)) (dVar 3))) (dSeq (dSet 6 (dCall 2 sp__law_draw (dCons (dVar 0) (dCons (dCB lenD (dCons (dOp ixA (dVar 5) (dVar 4)) (dNil))) (dNil))))) (dSeq (dSet 5 (dCall 3 sp__law_instead (dCons (dVar 5) (dCons (dVar 4) (dCons (dCall 3 sp__law_instead (dCons (dOp ixA (dVar 5) (dVar 4)) (dCons (dVar 6) (dCons (dOp addD (dOp ixA (dOp ixA (dVar 5) (dVar 4)) (dVar 6)) (dCall 2 sp__law_pick (dCons (dVar 0) (dCons (dLst (dCons (dC (.int 1)) (dCons (dNeg (dC (.int 1))) (dCons (dC (.int 7)) (dNil))))) (dNil))))) (dNil))))) (dNil)))))) (dRet (dCall 3 sp__law_instead (dCons (dVar 1) (dCons (dVar 2) (dCons (dCall 3 sp__law_instead (dCons (dOp ixA (dVar 1) (dVar 2)) (dCons (dVar 3) (dCons (dVar 5) (dNil))))) (dNil))))))))))
def sp__law_changed_rows : SpD := fun ds M Q E => r__law_changed_rows { nx := fun _ M' => Q .non M', rt := Q } E (startD ["deck", "rows", "at", "k", "j", "pair", "x"] ds) M
theorem ok__law_changed_rows : FnD P w K mg base W.Ts 3 W.a70 W.d70 2 ["deck", "rows"] sp__law_changed_rows :=
  fnD (N := ["deck", "rows", "at", "k", "j", "pair", "x"]) (ps := ["deck", "rows"]) W.D70.F rfl sc70 (fun A outer s H E hr => qss_cons (qs_set (i := 2) sc70.nd rfl (by first | exact .inl rfl | exact .inr rfl) (qe_call (ok__law_draw W) (hr.mono (by decide)) (by rfl) W.D52.g W.D52.kp W.D52.b takesD (qa_cons (qv 0) (qa_cons (qe_cb (id := "len") cr_lenH cd_len (by rfl) W.m_len bt_len (qa_cons (qv 1) (qa_nil))) (qa_nil))))) (qss_cons (qs_par (i := 3) (j := 4) rfl sc70.nd rfl rfl (by decide) rfl rfl (qa_cons (qe_call (ok__law_draw W) (hr.mono (by decide)) (by rfl) W.D52.g W.D52.kp W.D52.b takesD (qa_cons (qv 0) (qa_cons (qe_cb (id := "len") cr_lenH cd_len (by rfl) W.m_len bt_len (qa_cons (qe_at hr.r (qv 1) (qv 2)) (qa_nil))) (qa_nil)))) (qa_cons (qe_call (ok__law_draw W) (hr.mono (by decide)) (by rfl) W.D52.g W.D52.kp W.D52.b takesD (qa_cons (qv 0) (qa_cons (qe_int) (qa_nil)))) (qa_nil))) (by rfl)) (qss_cons (qs_set (i := 5) sc70.nd rfl (by first | exact .inl rfl | exact .inr rfl) (qe_at hr.r (qe_at hr.r (qv 1) (qv 2)) (qv 3))) (qss_cons (qs_set (i := 6) sc70.nd rfl (by first | exact .inl rfl | exact .inr rfl) (qe_call (ok__law_draw W) (hr.mono (by decide)) (by rfl) W.D52.g W.D52.kp W.D52.b takesD (qa_cons (qv 0) (qa_cons (qe_cb (id := "len") cr_lenH cd_len (by rfl) W.m_len bt_len (qa_cons (qe_at hr.r (qv 5) (qv 4)) (qa_nil))) (qa_nil))))) (qss_cons (qs_set (i := 5) sc70.nd rfl (by first | exact .inl rfl | exact .inr rfl) (qe_call (ok__law_instead W) (hr.mono (by decide)) (by rfl) W.D54.g W.D54.kp W.D54.b takesD (qa_cons (qv 5) (qa_cons (qv 4) (qa_cons (qe_call (ok__law_instead W) (hr.mono (by decide)) (by rfl) W.D54.g W.D54.kp W.D54.b takesD (qa_cons (qe_at hr.r (qv 5) (qv 4)) (qa_cons (qv 6) (qa_cons (qe_add (qe_at hr.r (qe_at hr.r (qv 5) (qv 4)) (qv 6)) (qe_call (ok__law_pick W) (hr.mono (by decide)) (by rfl) W.D53.g W.D53.kp W.D53.b takesD (qa_cons (qv 0) (qa_cons (qe_lst (qa_cons (qe_int) (qa_cons (qe_neg (qe_int)) (qa_cons (qe_int) (qa_nil))))) (qa_nil))))) (qa_nil))))) (qa_nil)))))) (qss_one (qs_ret (qe_call (ok__law_instead W) (hr.mono (by decide)) (by rfl) W.D54.g W.D54.kp W.D54.b takesD (qa_cons (qv 1) (qa_cons (qv 2) (qa_cons (qe_call (ok__law_instead W) (hr.mono (by decide)) (by rfl) W.D54.g W.D54.kp W.D54.b takesD (qa_cons (qe_at hr.r (qv 1) (qv 2)) (qa_cons (qv 3) (qa_cons (qv 5) (qa_nil))))) (qa_nil)))))))))))) fun _ _ _ _ _ h => h
/-! law -/
def r_law : TSd := dSeq (dSet 1 (dCall 2 sp__law_deck (dCons (dVar 0) (dCons (dC (.int 14408008)) (dNil))))) (dSeq (dFor (dRange1 (dCons (dC (.int 2)) (dNil))) (dGN 2) (dSeq (dSet 3 (dIf (dTest (dOp (eqA false) (dCall 2 sp__law_draw (dCons (dVar 1) (dCons (dC (.int 3)) (dNil)))) (dC (.int 0)))) (dCall 1 sp__law_drawn_window (dCons (dVar 1) (dNil))) (dCall 1 sp__law_drawn_net (dCons (dVar 1) (dNil))))) (dSeq (dIfS (dTest (dOp (eqA true) (dCB reprID (dCons (dCall 1 sp_model_size (dCons (dVar 3) (dNil))) (dNil))) (dCB reprID (dCons (dOp ixA (dVar 3) (dC (.int 1))) (dNil))))) (dRet (dC (.bl false))) (dNext)) (dSeq (dSet 4 (dOp addD (dCall 3 sp__law_drawn_tokens (dCons (dVar 1) (dCons (dOp ixA (dVar 3) (dC (.int 1))) (dCons (dC (.int 11)) (dNil))))) (dTup (dCons (dCall 2 sp__law_draw (dCons (dVar 1) (dCons (dOp ixA (dVar 3) (dC (.int 1))) (dNil)))) (dNil))))) (dSeq (dPar 5 6 (dCons (dCall 2 sp__law_rows (dCons (dVar 3) (dCons (dVar 4) (dNil)))) (dCons (dTup (dNil)) (dNil)))) (dSeq (dFor (dEnumA (dCons (dVar 4) (dNil))) (dGTup 2 (dGCons (dGN 7) (dGCons (dGN 8) (dGNil)))) (dSeq (dAsg (dIf (dTest (dOp (eqA false) (dVar 2) (dC (.int 0)))) (dCall 3 sp_stepped (dCons (dVar 3) (dCons (dVar 6) (dCons (dVar 8) (dNil))))) (dCallW 3 [2, 1, 0] sp_stepped (dCons (dVar 8) (dCons (dVar 6) (dCons (dVar 3) (dNil)))))) (dGTup 2 (dGCons (dGN 9) (dGCons (dGN 10) (dGNil))))) (dSeq (dIfS (dTest (dOp (eqA true) (dCB reprD (dCons (dTup (dCons (dVar 9) (dCons (dVar 10) (dNil)))) (dNil))) (dCB reprD (dCons (dCall 3 sp__law_stepped (dCons (dVar 3) (dCons (dSl (dVar 5) (dNo) (dPart (dVar 7))) (dCons (dVar 8) (dNil))))) (dNil))))) (dRet (dC (.bl false))) (dNext)) (dSeq (dSet 6 (dOp addD (dVar 6) (dTup (dCons (dVar 9) (dNil))))) (dIfS (dAndT (dTest (dOp (eqA false) (dOp modD (dCB intOfD (dCons (dVar 7) (dNil))) (dC (.int 3))) (dC (.int 0)))) (dTest (dOp (eqA true) (dCB reprD (dCons (dCall 2 sp_model_weights (dCons (dVar 3) (dCons (dSl (dVar 4) (dNo) (dPart (dOp addD (dVar 7) (dC (.int 1))))) (dNil)))) (dNil))) (dCB reprD (dCons (dVar 10) (dNil)))))) (dRet (dC (.bl false))) (dNext)))))) (dSeq (dIfS (dOrT (dTest (dOp (eqA true) (dCB reprD (dCons (dTup (dCons (dVar 6) (dCons (dCall 2 sp_rows_of (dCons (dVar 3) (dCons (dVar 4) (dNil)))) (dNil)))) (dNil))) (dCB reprD (dCons (dTup (dCons (dVar 5) (dCons (dVar 5) (dNil)))) (dNil))))) (dTest (dOp (eqA true) (dCB reprD (dCons (dCall 3 sp_judge_rows (dCons (dVar 3) (dCons (dVar 4) (dCons (dVar 6) (dNil))))) (dNil))) (dCB reprD (dCons (dTup (dCons (dC (.str "right")) (dNil))) (dNil)))))) (dRet (dC (.bl false))) (dNext)) (dSeq (dSet 7 (dOp addD (dC (.int 1)) (dCall 2 sp__law_draw (dCons (dVar 1) (dCons (dOp subD (dCB lenD (dCons (dVar 4) (dNil))) (dC (.int 1))) (dNil)))))) (dSeq (dIfS (dTest (dOp (eqA true) (dCB reprD (dCons (dCallW 2 [1, 0] sp_rows_of (dCons (dSl (dVar 4) (dNo) (dPart (dVar 7))) (dCons (dVar 3) (dNil)))) (dNil))) (dCB reprD (dCons (dSl (dVar 6) (dNo) (dPart (dVar 7))) (dNil))))) (dRet (dC (.bl false))) (dNext)) (dSeq (dIfS (dAndT (dTest (dOp (eqA false) (dOp ixA (dVar 3) (dC (.int 0))) (dC (.str "net")))) (dTest (dOp (eqA true) (dOp ixA (dVar 3) (dC (.int 5))) (dTup (dNil))))) (dSeq (dSet 11 (dCall 2 sp__law_changed_rows (dCons (dVar 1) (dCons (dSl (dVar 5) (dNo) (dPart (dVar 7))) (dNil))))) (dIfS (dTest (dOp (eqA true) (dCB reprD (dCons (dCall 3 sp_stepped (dCons (dVar 3) (dCons (dVar 11) (dCons (dOp ixA (dVar 4) (dVar 7)) (dNil))))) (dNil))) (dCB reprD (dCons (dCall 3 sp__law_stepped (dCons (dVar 3) (dCons (dVar 11) (dCons (dOp ixA (dVar 4) (dVar 7)) (dNil))))) (dNil))))) (dRet (dC (.bl false))) (dNext))) (dNext)) (dSeq (dPar 12 13 (dCons (dCall 2 sp_rows_of (dCons (dVar 3) (dCons (dSl (dVar 4) (dNo) (dPart (dVar 7))) (dNil)))) (dCons (dCall 3 sp__law_drawn_tokens (dCons (dVar 1) (dCons (dOp ixA (dVar 3) (dC (.int 1))) (dCons (dC (.int 5)) (dNil))))) (dNil)))) (dSeq (dFor (dWalk (dVar 13)) (dGN 8) (dSet 12 (dOp addD (dVar 12) (dTup (dCons (dOp ixA (dCall 3 sp_stepped (dCons (dVar 3) (dCons (dVar 12) (dCons (dVar 8) (dNil))))) (dC (.int 0))) (dNil)))))) (dIfS (dTest (dOp (eqA true) (dCB reprD (dCons (dVar 12) (dNil))) (dCB reprD (dCons (dCall 2 sp__law_rows (dCons (dVar 3) (dCons (dOp addD (dSl (dVar 4) (dNo) (dPart (dVar 7))) (dVar 13)) (dNil)))) (dNil))))) (dRet (dC (.bl false))) (dNext)))))))))))))) (dRet (dC (.bl true))))
def sp_law : SpD := fun ds M Q E => r_law { nx := fun _ M' => Q .non M', rt := Q } E (startD ["script", "deck", "turn", "model", "tokens", "due", "rows", "at", "token", "row", "weights", "far", "near", "more"] ds) M
theorem ok_law : FnD P w K mg base W.Ts 13 W.a71 W.d71 1 ["script"] sp_law :=
  fnD (N := ["script", "deck", "turn", "model", "tokens", "due", "rows", "at", "token", "row", "weights", "far", "near", "more"]) (ps := ["script"]) W.D71.F rfl sc71 (fun A outer s H E hr => qss_cons (qs_set (i := 1) sc71.nd rfl (by first | exact .inl rfl | exact .inr rfl) (qe_call (ok__law_deck W) (hr.mono (by decide)) (by rfl) W.D51.g W.D51.kp W.D51.b takesD (qa_cons (qv 0) (qa_cons (qe_int) (qa_nil))))) (qss_cons (qs_for passD rfl (qi_range1 (by rfl) W.m_range (qa_cons (qe_int) (qa_nil))) (qg_name (i := 2) sc71.nd rfl (by first | exact .inl rfl | exact .inr rfl)) (qss_cons (qs_set (i := 3) sc71.nd rfl (by first | exact .inl rfl | exact .inr rfl) (qe_if (qt_cmp (op_eqA hr.r) od_eqA (qe_call (ok__law_draw W) (hr.mono (by decide)) (by rfl) W.D52.g W.D52.kp W.D52.b takesD (qa_cons (qv 1) (qa_cons (qe_int) (qa_nil)))) (qe_int) (nomark _)) (qe_call (ok__law_drawn_window W) (hr.mono (by decide)) (by rfl) W.D56.g W.D56.kp W.D56.b takesD (qa_cons (qv 1) (qa_nil))) (qe_call (ok__law_drawn_net W) (hr.mono (by decide)) (by rfl) W.D58.g W.D58.kp W.D58.b takesD (qa_cons (qv 1) (qa_nil))))) (qss_cons (qs_if (qt_cmp (op_neA hr.r) od_neA (qe_cb (id := "repr") SkE.call_repr_int cd_reprI (by rfl) W.m_repr bt_repr (qa_cons (qe_call (ok_model_size W) (hr.mono (by decide)) (by rfl) W.D23.g W.D23.kp W.D23.b takesD (qa_cons (qv 3) (qa_nil))) (qa_nil))) (qe_cb (id := "repr") SkE.call_repr_int cd_reprI (by rfl) W.m_repr bt_repr (qa_cons (qe_at hr.r (qv 3) (qe_int)) (qa_nil))) (nomark _)) (qss_one (qs_ret (qe_bl))) (qss_nil)) (qss_cons (qs_set (i := 4) sc71.nd rfl (by first | exact .inl rfl | exact .inr rfl) (qe_add (qe_call (ok__law_drawn_tokens W) (hr.mono (by decide)) (by rfl) W.D59.g W.D59.kp W.D59.b takesD (qa_cons (qv 1) (qa_cons (qe_at hr.r (qv 3) (qe_int)) (qa_cons (qe_int) (qa_nil))))) (qe_tup (qa_cons (qe_call (ok__law_draw W) (hr.mono (by decide)) (by rfl) W.D52.g W.D52.kp W.D52.b takesD (qa_cons (qv 1) (qa_cons (qe_at hr.r (qv 3) (qe_int)) (qa_nil)))) (qa_nil))))) (qss_cons (qs_par (i := 5) (j := 6) rfl sc71.nd rfl rfl (by decide) rfl rfl (qa_cons (qe_call (ok__law_rows W) (hr.mono (by decide)) (by rfl) W.D69.g W.D69.kp W.D69.b takesD (qa_cons (qv 3) (qa_cons (qv 4) (qa_nil)))) (qa_cons (qe_tup (qa_nil)) (qa_nil))) (by rfl)) (qss_cons (qs_for passD rfl (qi_enumA (by rfl) W.m_enumerate (qa_cons (qv 4) (qa_nil))) (qg_tupA rfl (qgs_cons (qg_name (i := 7) sc71.nd rfl (by first | exact .inl rfl | exact .inr rfl)) (qgs_cons (qg_name (i := 8) sc71.nd rfl (by first | exact .inl rfl | exact .inr rfl)) (qgs_nil)))) (qss_cons (qs_asg (qe_if (qt_cmp (op_eqA hr.r) od_eqA (qv 2) (qe_int) (nomark _)) (qe_call (ok_stepped W) (hr.mono (by decide)) (by rfl) W.D26.g W.D26.kp W.D26.b takesD (qa_cons (qv 3) (qa_cons (qv 6) (qa_cons (qv 8) (qa_nil))))) (qe_callW (is := [2, 1, 0]) (ok_stepped W) (hr.mono (by decide)) (by rfl) W.D26.g W.D26.kp (kb_three W.D26.F (ks := ["token", "rows", "model"]) (is := [2, 1, 0])) takesD (qk_cons (qv 8) (qk_cons (qv 6) (qk_cons (qv 3) (qk_nil)))))) (qg_tupA rfl (qgs_cons (qg_name (i := 9) sc71.nd rfl (by first | exact .inl rfl | exact .inr rfl)) (qgs_cons (qg_name (i := 10) sc71.nd rfl (by first | exact .inl rfl | exact .inr rfl)) (qgs_nil))))) (qss_cons (qs_if (qt_cmp (op_neA hr.r) od_neA (qe_cb (id := "repr") (cr_reprG hr) cd_repr (by rfl) W.m_repr bt_repr (qa_cons (qe_tup (qa_cons (qv 9) (qa_cons (qv 10) (qa_nil)))) (qa_nil))) (qe_cb (id := "repr") (cr_reprG hr) cd_repr (by rfl) W.m_repr bt_repr (qa_cons (qe_call (ok__law_stepped W) (hr.mono (by decide)) (by rfl) W.D68.g W.D68.kp W.D68.b takesD (qa_cons (qv 3) (qa_cons (qe_slice (qv 5) (qo_none) (qo_some (qv 7))) (qa_cons (qv 8) (qa_nil))))) (qa_nil))) (nomark _)) (qss_one (qs_ret (qe_bl))) (qss_nil)) (qss_cons (qs_set (i := 6) sc71.nd rfl (by first | exact .inl rfl | exact .inr rfl) (qe_add (qv 6) (qe_tup (qa_cons (qv 9) (qa_nil))))) (qss_one (qs_if (QW.t (qw_and (qt_cmp (op_eqA hr.r) od_eqA (qe_mod (qe_cty (T := "int") call_int1 cd_int (by rfl) W.m_int bt_int (qa_cons (qv 7) (qa_nil))) (qe_int)) (qe_int) (nomark _)) (qw_and1 (qt_cmp (op_neA hr.r) od_neA (qe_cb (id := "repr") (cr_reprG hr) cd_repr (by rfl) W.m_repr bt_repr (qa_cons (qe_call (ok_model_weights W) (hr.mono (by decide)) (by rfl) W.D24.g W.D24.kp W.D24.b takesD (qa_cons (qv 3) (qa_cons (qe_slice (qv 4) (qo_none) (qo_some (qe_add (qv 7) (qe_int)))) (qa_nil)))) (qa_nil))) (qe_cb (id := "repr") (cr_reprG hr) cd_repr (by rfl) W.m_repr bt_repr (qa_cons (qv 10) (qa_nil))) (nomark _))))) (qss_one (qs_ret (qe_bl))) (qss_nil))))))) (qss_cons (qs_if (QW.t (qw_or (qt_cmp (op_neA hr.r) od_neA (qe_cb (id := "repr") (cr_reprG hr) cd_repr (by rfl) W.m_repr bt_repr (qa_cons (qe_tup (qa_cons (qv 6) (qa_cons (qe_call (ok_rows_of W) (hr.mono (by decide)) (by rfl) W.D25.g W.D25.kp W.D25.b takesD (qa_cons (qv 3) (qa_cons (qv 4) (qa_nil)))) (qa_nil)))) (qa_nil))) (qe_cb (id := "repr") (cr_reprG hr) cd_repr (by rfl) W.m_repr bt_repr (qa_cons (qe_tup (qa_cons (qv 5) (qa_cons (qv 5) (qa_nil)))) (qa_nil))) (nomark _)) (qw_or1 (qt_cmp (op_neA hr.r) od_neA (qe_cb (id := "repr") (cr_reprG hr) cd_repr (by rfl) W.m_repr bt_repr (qa_cons (qe_call (ok_judge_rows W) (hr.mono (by decide)) (by rfl) W.D27.g W.D27.kp W.D27.b takesD (qa_cons (qv 3) (qa_cons (qv 4) (qa_cons (qv 6) (qa_nil))))) (qa_nil))) (qe_cb (id := "repr") (cr_reprG hr) cd_repr (by rfl) W.m_repr bt_repr (qa_cons (qe_tup (qa_cons (qe_str) (qa_nil))) (qa_nil))) (nomark _))))) (qss_one (qs_ret (qe_bl))) (qss_nil)) (qss_cons (qs_set (i := 7) sc71.nd rfl (by first | exact .inl rfl | exact .inr rfl) (qe_add (qe_int) (qe_call (ok__law_draw W) (hr.mono (by decide)) (by rfl) W.D52.g W.D52.kp W.D52.b takesD (qa_cons (qv 1) (qa_cons (qe_sub (qe_cb (id := "len") cr_lenH cd_len (by rfl) W.m_len bt_len (qa_cons (qv 4) (qa_nil))) (qe_int)) (qa_nil)))))) (qss_cons (qs_if (qt_cmp (op_neA hr.r) od_neA (qe_cb (id := "repr") (cr_reprG hr) cd_repr (by rfl) W.m_repr bt_repr (qa_cons (qe_callW (is := [1, 0]) (ok_rows_of W) (hr.mono (by decide)) (by rfl) W.D25.g W.D25.kp (kb_two W.D25.F (ks := ["tokens", "model"]) (is := [1, 0])) takesD (qk_cons (qe_slice (qv 4) (qo_none) (qo_some (qv 7))) (qk_cons (qv 3) (qk_nil)))) (qa_nil))) (qe_cb (id := "repr") (cr_reprG hr) cd_repr (by rfl) W.m_repr bt_repr (qa_cons (qe_slice (qv 6) (qo_none) (qo_some (qv 7))) (qa_nil))) (nomark _)) (qss_one (qs_ret (qe_bl))) (qss_nil)) (qss_cons (qs_if (QW.t (qw_and (qt_cmp (op_eqA hr.r) od_eqA (qe_at hr.r (qv 3) (qe_int)) (qe_str) (nomark _)) (qw_and1 (qt_cmp (op_neA hr.r) od_neA (qe_at hr.r (qv 3) (qe_int)) (qe_tup (qa_nil)) (nomark _))))) (qss_cons (qs_set (i := 11) sc71.nd rfl (by first | exact .inl rfl | exact .inr rfl) (qe_call (ok__law_changed_rows W) (hr.mono (by decide)) (by rfl) W.D70.g W.D70.kp W.D70.b takesD (qa_cons (qv 1) (qa_cons (qe_slice (qv 5) (qo_none) (qo_some (qv 7))) (qa_nil))))) (qss_one (qs_if (qt_cmp (op_neA hr.r) od_neA (qe_cb (id := "repr") (cr_reprG hr) cd_repr (by rfl) W.m_repr bt_repr (qa_cons (qe_call (ok_stepped W) (hr.mono (by decide)) (by rfl) W.D26.g W.D26.kp W.D26.b takesD (qa_cons (qv 3) (qa_cons (qv 11) (qa_cons (qe_at hr.r (qv 4) (qv 7)) (qa_nil))))) (qa_nil))) (qe_cb (id := "repr") (cr_reprG hr) cd_repr (by rfl) W.m_repr bt_repr (qa_cons (qe_call (ok__law_stepped W) (hr.mono (by decide)) (by rfl) W.D68.g W.D68.kp W.D68.b takesD (qa_cons (qv 3) (qa_cons (qv 11) (qa_cons (qe_at hr.r (qv 4) (qv 7)) (qa_nil))))) (qa_nil))) (nomark _)) (qss_one (qs_ret (qe_bl))) (qss_nil)))) (qss_nil)) (qss_cons (qs_par (i := 12) (j := 13) rfl sc71.nd rfl rfl (by decide) rfl rfl (qa_cons (qe_call (ok_rows_of W) (hr.mono (by decide)) (by rfl) W.D25.g W.D25.kp W.D25.b takesD (qa_cons (qv 3) (qa_cons (qe_slice (qv 4) (qo_none) (qo_some (qv 7))) (qa_nil)))) (qa_cons (qe_call (ok__law_drawn_tokens W) (hr.mono (by decide)) (by rfl) W.D59.g W.D59.kp W.D59.b takesD (qa_cons (qv 1) (qa_cons (qe_at hr.r (qv 3) (qe_int)) (qa_cons (qe_int) (qa_nil))))) (qa_nil))) (by rfl)) (qss_cons (qs_for passD rfl (qi_any (qv 13)) (qg_name (i := 8) sc71.nd rfl (by first | exact .inl rfl | exact .inr rfl)) (qss_one (qs_set (i := 12) sc71.nd rfl (by first | exact .inl rfl | exact .inr rfl) (qe_add (qv 12) (qe_tup (qa_cons (qe_at hr.r (qe_call (ok_stepped W) (hr.mono (by decide)) (by rfl) W.D26.g W.D26.kp W.D26.b takesD (qa_cons (qv 3) (qa_cons (qv 12) (qa_cons (qv 8) (qa_nil))))) (qe_int)) (qa_nil))))))) (qss_one (qs_if (qt_cmp (op_neA hr.r) od_neA (qe_cb (id := "repr") (cr_reprG hr) cd_repr (by rfl) W.m_repr bt_repr (qa_cons (qv 12) (qa_nil))) (qe_cb (id := "repr") (cr_reprG hr) cd_repr (by rfl) W.m_repr bt_repr (qa_cons (qe_call (ok__law_rows W) (hr.mono (by decide)) (by rfl) W.D69.g W.D69.kp W.D69.b takesD (qa_cons (qv 3) (qa_cons (qe_add (qe_slice (qv 4) (qo_none) (qo_some (qv 7))) (qv 13)) (qa_nil)))) (qa_nil))) (nomark _)) (qss_one (qs_ret (qe_bl))) (qss_nil))))))))))))))) (qss_one (qs_ret (qe_bl))))) fun _ _ _ _ _ h => h
end
end Z8
set_option Elab.async false
set_option linter.all false
set_option maxRecDepth 100000
set_option maxHeartbeats 4000000
namespace Z8
open PySem PySem.Spec PyProof.Rows L2 GxR Gn Dl
theorem ints_of {α : Type} (f : α → Int) (as : List α) : intsOf (as.map fun a => D.int (f a)) = some (as.map f) := by
  rw [← intsOf_map (as.map f), List.map_map]
  rfl
theorem p__scalar_product {xs ys : List Int} {B C : Int} {M : Mem} {Q : KD} {E : KE'} (h1 : Bd B xs) (h2 : Bd C ys) (hB : B ≤ 2 ^ 40) (hC : C ≤ 2 ^ 40) (hz : xs.length ≤ 1000) (h : ∀ G, Q (.int (dotI xs ys)) (M ++ G)) : sp__scalar_product [vI xs, vI ys] M Q E := by
  simp [sp__scalar_product, r__scalar_product, vI, zipD_map]
  refine lcD_of (fun p : Int × Int => D.tup [.int p.1, .int p.2]) (fun p => .int (p.1 * p.2)) (xs.zip ys) M (fun _ => trivial) (fun p hp G Q' k => ?_) (small_le (by simp; omega)) fun G => ?_
  · simp
    exact ⟨cmul_of (h1 _ (List.of_mem_zip hp).1) (h2 _ (List.of_mem_zip hp).2) hB hC, by simpa using k []⟩
  · simp
    exact ⟨_, ints_of _ _, h _⟩
theorem p__law_product {xs ys : List Int} {B C : Int} {M : Mem} {Q : KD} {E : KE'} (h1 : Bd B xs) (h2 : Bd C ys) (hB : B ≤ 2 ^ 40) (hC : C ≤ 2 ^ 40) (hz : xs.length ≤ 1000) (h : ∀ G, Q (.int (dotI xs ys)) (M ++ G)) : sp__law_product [vI xs, vI ys] M Q E := by
  simp [sp__law_product, r__law_product, vI, zipD_map]
  refine lcD_of (fun p : Int × Int => D.tup [.int p.1, .int p.2]) (fun p => .int (p.1 * p.2)) (xs.zip ys) M (fun _ => trivial) (fun p hp G Q' k => ?_) (small_le (by simp; omega)) fun G => ?_
  · simp
    exact ⟨cmul_of (h1 _ (List.of_mem_zip hp).1) (h2 _ (List.of_mem_zip hp).2) hB hC, by simpa using k []⟩
  · simp
    exact ⟨_, ints_of _ _, h _⟩
def timesI (rows : List (List Int)) (v : List Int) : List Int := rows.map fun r => dotI r v
theorem p__times {rows : List (List Int)} {ys : List Int} {B C : Int} {M : Mem} {Q : KD} {E : KE'} (h1 : ∀ r ∈ rows, Bd B r ∧ r.length ≤ 1000) (h2 : Bd C ys) (hB : B ≤ 2 ^ 40) (hC : C ≤ 2 ^ 40) (hz : rows.length ≤ 1000) (h : ∀ G, Q (vI (timesI rows ys)) (M ++ G)) : sp__times [mI rows, vI ys] M Q E := by
  simp [sp__times, r__times, mI]
  refine lcD_of vI (fun r => .int (dotI r ys)) rows M (fun _ => trivial) (fun r hr G Q' k => ?_) (small_le hz) fun G => ?_
  · simp
    exact p__scalar_product (h1 r hr).1 h2 hB hC (h1 r hr).2 k
  · simp
    have := h (.lst (rows.map fun r => D.int (dotI r ys)) :: G)
    simpa [vI, timesI, Function.comp_def] using this
theorem p__law_times {rows : List (List Int)} {ys : List Int} {B C : Int} {M : Mem} {Q : KD} {E : KE'} (h1 : ∀ r ∈ rows, Bd B r ∧ r.length ≤ 1000) (h2 : Bd C ys) (hB : B ≤ 2 ^ 40) (hC : C ≤ 2 ^ 40) (hz : rows.length ≤ 1000) (h : ∀ G, Q (vI (timesI rows ys)) (M ++ G)) : sp__law_times [mI rows, vI ys] M Q E := by
  simp [sp__law_times, r__law_times, mI]
  refine lcD_of vI (fun r => .int (dotI r ys)) rows M (fun _ => trivial) (fun r hr G Q' k => ?_) (small_le hz) fun G => ?_
  · simp
    exact p__law_product (h1 r hr).1 h2 hB hC (h1 r hr).2 k
  · simp
    have := h (.lst (rows.map fun r => D.int (dotI r ys)) :: G)
    simpa [vI, timesI, Function.comp_def] using this
def clipI (n : Int) : Int := if -20 < (if n < 20 then n else 20) then (if n < 20 then n else 20) else -20
theorem clipI_bd (n : Int) : -20 ≤ clipI n ∧ clipI n ≤ 20 := by unfold clipI; split <;> split <;> omega
theorem p__clipped {n : Int} {M : Mem} {Q : KD} {E : KE'} (h : Q (.int (clipI n)) M) : sp__clipped [.int n] M Q E := by
  simp [sp__clipped, r__clipped]
  exact h
def sumClip (xs ys : List Int) : List Int := (xs.zip ys).map fun p => clipI (p.1 + p.2)
theorem p__clipped_sum {xs ys : List Int} {M : Mem} {Q : KD} {E : KE'} (hz : xs.length ≤ 1000) (h : ∀ G, Q (vI (sumClip xs ys)) (M ++ G)) : sp__clipped_sum [vI xs, vI ys] M Q E := by
  simp [sp__clipped_sum, r__clipped_sum, vI, zipD_map]
  refine lcD_of (fun p : Int × Int => D.tup [.int p.1, .int p.2]) (fun p => .int (clipI (p.1 + p.2))) (xs.zip ys) M (fun _ => trivial) (fun p hp G Q' k => ?_) (small_le (by simp; omega)) fun G => ?_
  · simp
    exact p__clipped (by simpa using k [])
  · simp
    have := h (.lst ((xs.zip ys).map fun p => D.int (clipI (p.1 + p.2))) :: G)
    simpa [vI, sumClip, Function.comp_def] using this
end Z8
set_option Elab.async false
set_option linter.all false
set_option maxRecDepth 100000
set_option maxHeartbeats 4000000
namespace Z8
open PySem PySem.Spec PyProof.Rows L2 GxR Gn Dl
/-- 64 halved d times, at most six -/
def sh1 (d : Int) : Int := 64 / 2 ^ (if d < 6 then d else 6).toNat
def shI (m : Int) (ns : List Int) : List Int := ns.map fun s => sh1 (m - s)
theorem p__shares_t {ns : List Int} {M : Mem} {Q : KD} {E : KE'} (hn : 0 < ns.length) (hz : ns.length ≤ 1000) (h : ∀ m, m ∈ ns → (∀ y ∈ ns, y ≤ m) → ∀ G, Q (vI (shI m ns)) (M ++ G)) : sp__shares [vI ns] M Q E := by
  simp [sp__shares, r__shares, vI]
  refine ⟨hn, fun m hm hy => ?_⟩
  refine lcD_of D.int (fun s => .int (sh1 (m - s))) ns M (fun _ => trivial) (fun s hs G Q' k => ?_) (small_le hz) fun G => ?_
  · simp
    have hd := hy s hs
    refine ⟨by split <;> omega, ?_⟩
    have := k []
    simpa [sh1] using this
  · simp
    have := h m hm hy (.lst (ns.map fun s => D.int (sh1 (m - s))) :: G)
    simpa [vI, shI, Function.comp_def] using this
theorem p__shares_l {ns : List Int} {i : Nat} {M : Mem} {Q : KD} {E : KE'} (hi : M[i]? = some (.lst (ns.map D.int))) (hn : 0 < ns.length) (hz : ns.length ≤ 1000) (h : ∀ m, m ∈ ns → (∀ y ∈ ns, y ≤ m) → ∀ G, Q (vI (shI m ns)) (M ++ G)) : sp__shares [.obj i] M Q E := by
  have hl : i < M.length := (List.getElem?_eq_some_iff.mp hi).1
  simp [sp__shares, r__shares]
  refine ⟨_, hi, ns, intsOf_map ns, hn, fun m hm hy => ?_⟩
  rw [hi]
  refine ⟨_, rfl, ?_⟩
  refine lcD_of D.int (fun s => .int (sh1 (m - s))) ns M (fun G => by rw [List.getElem?_append_left hl]; exact hi) (fun s hs G Q' k => ?_) (small_le hz) fun G => ?_
  · simp
    have hd := hy s hs
    refine ⟨by split <;> omega, ?_⟩
    have := k []
    simpa [sh1] using this
  · simp
    have := h m hm hy (.lst (ns.map fun s => D.int (sh1 (m - s))) :: G)
    simpa [vI, shI, Function.comp_def] using this
theorem doubled_go {n : Int} {M : Mem} {Dd : EndsD} {E : KE'} : ∀ (ds : List D) (f : Int) (x : Option D), 0 ≤ f → f * 2 ^ ds.length ≤ 64 → (∀ x, Dd.nx [some (.int n), some (.int (f * 2 ^ ds.length)), x] M) →
    forD (dGN 2) (dSet 1 (dOp mulA (dC (.int 2)) (dVar 1))) (fun _ => True) Dd E ds [some (.int n), some (.int f), x] M
  | [], f, x, _, _, h => ⟨trivial, by simpa using h x⟩
  | d :: ds, f, x, h0, h1, h => by
    have hp : (0 : Int) < 2 ^ ds.length := Int.pow_pos (by decide)
    have e : f * 2 ^ (d :: ds).length = 2 * f * 2 ^ ds.length := by
      rw [List.length_cons, Int.pow_succ]
      rw [Int.mul_comm (2 ^ ds.length) 2, ← Int.mul_assoc, Int.mul_comm f 2]
    rw [e] at h1 h
    refine ⟨trivial, ?_⟩
    simp
    have hf : 2 * f ≤ 64 := Int.le_trans (by
      have := Int.mul_le_mul_of_nonneg_left (show (1 : Int) ≤ 2 ^ ds.length by omega) (show 0 ≤ 2 * f by omega)
      simpa using this) h1
    exact ⟨cmul_of (B := 2) (C := 64) (by omega) (by omega), doubled_go ds (2 * f) (some d) (by omega) h1 h⟩
theorem rngD_length (lo : Int) (n : Nat) : (rngD lo n).length = n := by unfold rngD; simp
theorem p__law_doubled {n : Int} {M : Mem} {Q : KD} {E : KE'} (h0 : 0 ≤ n) (h : Q (.int (2 ^ (if n < 6 then n else 6).toNat)) M) : sp__law_doubled [.int n] M Q E := by
  simp [sp__law_doubled, r__law_doubled]
  have hb : (if n < 6 then n else 6) ≤ 6 ∧ 0 ≤ (if n < 6 then n else 6) := by split <;> omega
  generalize (if n < 6 then n else 6) = k at h hb ⊢
  have hk : k.toNat ≤ 6 := by omega
  refine ⟨by omega, by omega, doubled_go _ 1 none (by decide) ?_ fun x => ?_⟩
  · rw [rngD_length]
    rcases (by omega : k.toNat = 0 ∨ k.toNat = 1 ∨ k.toNat = 2 ∨ k.toNat = 3 ∨ k.toNat = 4 ∨ k.toNat = 5 ∨ k.toNat = 6) with e | e | e | e | e | e | e <;> rw [e] <;> decide
  · rw [rngD_length]
    simpa using h
theorem sh1_doubled {m s : Int} (h : s ≤ m) : sh1 (m - s) = 2 ^ (if (if 0 < 6 - m + s then 6 - m + s else 0) < 6 then (if 0 < 6 - m + s then 6 - m + s else 0) else 6).toNat := by
  obtain ⟨d, hd⟩ : ∃ d : Nat, m - s = d := ⟨(m - s).toNat, by omega⟩
  have e : 6 - m + s = 6 - (d : Int) := by omega
  unfold sh1
  rw [hd, e]
  by_cases h6 : d < 6
  · have : d = 0 ∨ d = 1 ∨ d = 2 ∨ d = 3 ∨ d = 4 ∨ d = 5 := by omega
    rcases this with rfl | rfl | rfl | rfl | rfl | rfl <;> decide
  · have a1 : ¬ (d : Int) < 6 := by omega
    have a2 : ¬ (0 : Int) < 6 - (d : Int) := by omega
    simp only [if_neg a1, if_neg a2]
    decide
end Z8
set_option Elab.async false
set_option linter.all false
set_option maxRecDepth 100000
set_option maxHeartbeats 4000000
namespace Z8
open PySem PySem.Spec PyProof.Rows L2 GxR Gn Dl
theorem all_tt {α : Type} : ∀ as : List α, (as.all fun _ => true) = true
  | [] => rfl
  | a :: as => by rw [List.all_cons, all_tt as]; rfl
theorem p_is_integer {n : Int} {M : Mem} {Q : KD} {E : KE'} (h : Q (.bl true) M) : sp_is_integer [.int n] M Q E := by
  simp [sp_is_integer, r_is_integer, h]
theorem p_is_integer_from {n l : Int} {M : Mem} {Q : KD} {E : KE'} (h : Q (.bl (decide (l ≤ n))) M) : sp_is_integer_from [.int n, .int l] M Q E := by
  simp [sp_is_integer_from, r_is_integer_from]
  apply p_is_integer
  simp [h]
theorem p_is_number_below {n l : Int} {M : Mem} {Q : KD} {E : KE'} (h : Q (.bl (decide (0 ≤ n) && decide (n < l))) M) : sp_is_number_below [.int n, .int l] M Q E := by
  simp [sp_is_number_below, r_is_number_below]
  apply p_is_integer
  simp
  by_cases h0 : 0 ≤ n
  · have h1 : ¬ n < 0 := by omega
    simp [h0, h1] at h ⊢
    exact h
  · have h1 : n < 0 := by omega
    simp [h0, h1] at h ⊢
    exact h
theorem p_is_token {n l : Int} {M : Mem} {Q : KD} {E : KE'} (h : Q (.bl (decide (0 ≤ n) && decide (n < l))) M) : sp_is_token [.int n, .int l] M Q E := by
  simp [sp_is_token, r_is_token]
  exact p_is_number_below h
theorem p_are_tokens {ns : List Int} {l : Int} {M : Mem} {Q : KD} {E : KE'} (h : ∀ G, Q (.bl (ns.all fun n => decide (0 ≤ n) && decide (n < l))) (M ++ G)) : sp_are_tokens [vI ns, .int l] M Q E := by
  simp [sp_are_tokens, r_are_tokens, vI]
  have := allD_of (gd := dGN 2) (vs := [2]) (alive := fun _ => True) (Q := Q) (S := [some (D.tup (ns.map D.int)), some (.int l), none]) (te := dCall 2 sp_is_token (dCons (dVar 2) (dCons (dVar 1) dNil)))
    D.int (fun n => decide (0 ≤ n) && decide (n < l)) ns M (fun _ => trivial) (fun n hn G Q' k => by
      simp
      exact p_is_token (by simpa using k [])) h []
  simpa using this
theorem p_is_tuple_of {ds : List D} {k : Int} {M : Mem} {Q : KD} {E : KE'} (h : Q (.bl (decide ((ds.length : Int) = k))) M) : sp_is_tuple_of [.tup ds, .int k] M Q E := by
  simp [sp_is_tuple_of, r_is_tuple_of]
  exact h
theorem p_is_vector {ns : List Int} {w : Int} {M : Mem} {Q : KD} {E : KE'} (hw : (ns.length : Int) = w) (h : ∀ G, Q (.bl true) (M ++ G)) : sp__is_vector [vI ns, .int w] M Q E := by
  simp [sp__is_vector, r__is_vector, vI]
  apply p_is_tuple_of
  simp [hw]
  have := allD_of (gd := dGN 2) (vs := [2]) (alive := fun _ => True) (Q := Q) (S := [some (D.tup (ns.map D.int)), some (.int w), none]) (te := dCall 1 sp_is_integer (dCons (dVar 2) dNil))
    D.int (fun n => true) ns M (fun _ => trivial) (fun n hn G Q' k => by
      simp
      exact p_is_integer (by simpa using k [])) (by intro G; rw [all_tt]; exact h G) []
  simpa using this
theorem p_are_vectors {rows : List (List Int)} {m w : Int} {M : Mem} {Q : KD} {E : KE'} (hm : (rows.length : Int) = m) (hw : ∀ r ∈ rows, (r.length : Int) = w) (h : ∀ G, Q (.bl true) (M ++ G)) : sp__are_vectors [mI rows, .int m, .int w] M Q E := by
  simp [sp__are_vectors, r__are_vectors, mI]
  apply p_is_tuple_of
  simp [hm]
  have := allD_of (gd := dGN 3) (vs := [3]) (alive := fun _ => True) (Q := Q) (S := [some (D.tup (rows.map vI)), some (.int m), some (.int w), none]) (te := dCall 2 sp__is_vector (dCons (dVar 3) (dCons (dVar 2) dNil)))
    vI (fun n => true) rows M (fun _ => trivial) (fun r hr G Q' k => by
      simp
      exact p_is_vector (hw r hr) k) (by intro G; rw [all_tt]; exact h G) []
  simpa using this
/-- a square matrix -/
def Sq (w : Int) (m : List (List Int)) : Prop := (m.length : Int) = w ∧ ∀ r ∈ m, (r.length : Int) = w
def lyD (L : List (List (List Int))) : D := .tup (L.map mI)
theorem p_is_layer {L : List (List (List Int))} {w : Int} {M : Mem} {Q : KD} {E : KE'} (h4 : L.length = 4) (hL : ∀ m ∈ L, Sq w m) (h : ∀ G, Q (.bl true) (M ++ G)) : sp__is_layer [lyD L, .int w] M Q E := by
  simp [sp__is_layer, r__is_layer, lyD]
  apply p_is_tuple_of
  simp [h4]
  have := allD_of (gd := dGN 2) (vs := [2]) (alive := fun _ => True) (Q := Q) (S := [some (D.tup (L.map mI)), some (.int w), none]) (te := dCall 3 sp__are_vectors (dCons (dVar 2) (dCons (dVar 1) (dCons (dVar 1) dNil))))
    mI (fun n => true) L M (fun _ => trivial) (fun m hm G Q' k => by
      simp
      exact p_are_vectors (hL m hm).1 (hL m hm).2 k) (by intro G; rw [all_tt]; exact h G) []
  simpa using this
/-- a network -/
structure Net where
  many : Int
  w : Int
  embeds : List (List Int)
  places : List (List Int)
  layers : List (List (List (List Int)))
  outs : List (List Int)
structure Net.Ok (N : Net) : Prop where
  m2 : 2 ≤ N.many
  w1 : 1 ≤ N.w
  el : (N.embeds.length : Int) = N.many
  ew : ∀ r ∈ N.embeds, (r.length : Int) = N.w
  p1 : N.places ≠ []
  pw : ∀ r ∈ N.places, (r.length : Int) = N.w
  ly : ∀ L ∈ N.layers, L.length = 4 ∧ ∀ m ∈ L, Sq N.w m
  ol : (N.outs.length : Int) = N.many
  ow : ∀ r ∈ N.outs, (r.length : Int) = N.w
def Net.d (N : Net) : D := .tup [.str "net", .int N.many, .int N.w, mI N.embeds, mI N.places, .tup (N.layers.map lyD), mI N.outs]
theorem p_is_network {N : Net} {M : Mem} {Q : KD} {E : KE'} (O : N.Ok) (h : ∀ G, Q (.bl true) (M ++ G)) : sp__is_network [N.d] M Q E := by
  simp [sp__is_network, r__is_network, Net.d]
  apply p_is_tuple_of
  simp
  refine ⟨_, rfl, ?_⟩
  simp
  apply p_is_integer_from
  simp [O.m2]
  apply p_is_integer_from
  simp [O.w1]
  refine p_are_vectors O.el O.ew fun G1 => ?_
  simp
  refine p_are_vectors O.ol O.ow fun G2 => ?_
  simp
  have kt : kitB "tuple" "tuple" = some true := kit_tt
  refine ⟨_, rfl, .inr ⟨kt, ?_⟩⟩
  simp only [mI]
  refine eqA_tup.mpr ?_
  refine eqD_empty (ps := N.places.map pI) (Pus.map fun a _ => Pu.vI a) (k := 2) (Pn.pM N.places) (by decide) ?_
  have hne : (N.places.map vI).isEmpty = false := by
    cases hp : N.places with
    | nil => exact absurd hp O.p1
    | cons _ _ => rfl
  rw [hne]
  simp
  refine p_are_vectors (m := N.places.length) rfl O.pw fun G3 => ?_
  simp
  have := allD_of (gd := dGN 8) (vs := [8]) (alive := fun _ => True) (Q := Q) (S := [some N.d, some (.str "net"), some (.int N.many), some (mI N.embeds), some (mI N.places), some (.tup (N.layers.map lyD)), some (mI N.outs), some (.int N.w), none]) (te := dCall 2 sp__is_layer (dCons (dVar 8) (dCons (dVar 7) dNil)))
    lyD (fun n => true) N.layers M (fun _ => trivial) (fun L hL G Q' k => by
      simp
      exact p_is_layer (O.ly L hL).1 (O.ly L hL).2 k) (by intro G; rw [all_tt]; exact h G) (G1 ++ (G2 ++ G3))
  simpa [Net.d, mI] using this
theorem p_is_window_model {N : Net} {M : Mem} {Q : KD} {E : KE'} (h : Q (.bl false) M) : sp__is_window_model [N.d] M Q E := by
  simp [sp__is_window_model, r__is_window_model, Net.d]
  apply p_is_tuple_of
  simp
  exact h
theorem p_is_model {N : Net} {M : Mem} {Q : KD} {E : KE'} (O : N.Ok) (h : ∀ G, Q (.bl true) (M ++ G)) : sp_is_model [N.d] M Q E := by
  simp [sp_is_model, r_is_model]
  apply p_is_window_model
  simp
  exact p_is_network O h
theorem p_need_model {N : Net} {M : Mem} {Q : KD} {E : KE'} (O : N.Ok) (h : ∀ G, Q .non (M ++ G)) : sp__need_model [N.d] M Q E := by
  simp [sp__need_model, r__need_model]
  exact p_is_model O fun G => by simpa using h G
def TokOk (many : Int) (ts : List Int) : Prop := ∀ t ∈ ts, 0 ≤ t ∧ t < many
theorem tok_all {many : Int} {ts : List Int} (h : TokOk many ts) : (ts.all fun n => decide (0 ≤ n) && decide (n < many)) = true := by
  rw [List.all_eq_true]
  intro n hn
  have := h n hn
  simp [this]
theorem p_need_tokens {N : Net} {ts : List Int} {M : Mem} {Q : KD} {E : KE'} (ht : TokOk N.many ts) (hne : ts ≠ []) (h : ∀ G, Q .non (M ++ G)) : sp__need_tokens [N.d, vI ts] M Q E := by
  simp [sp__need_tokens, r__need_tokens, Net.d]
  refine ⟨_, rfl, ?_⟩
  refine p_are_tokens fun G => ?_
  rw [tok_all ht]
  simp [vI]
  refine eqD_empty (ps := ts.map .int) (Pus.map fun a _ => Pu.int a) (k := 1) (Pn.pI ts) (by decide) ?_
  have hn2 : (ts.map D.int).isEmpty = false := by
    cases hp : ts with
    | nil => exact absurd hp hne
    | cons _ _ => rfl
  rw [hn2]
  simp
  exact h G
end Z8
set_option Elab.async false
set_option linter.all false
set_option maxRecDepth 100000
set_option maxHeartbeats 4000000
namespace Z8
open PySem PySem.Spec PyProof.Rows L2 GxR Gn Dl
def Fr (i j : Nat) (M M' : Mem) : Prop := M.length ≤ M'.length ∧ ∀ k, k < M.length → k ≠ i → k ≠ j → M'[k]? = M[k]?
theorem Fr.refl (i j : Nat) (M : Mem) : Fr i j M M := ⟨Nat.le_refl _, fun _ _ _ _ => rfl⟩
theorem Fr.tr {i j : Nat} {M M1 M2 : Mem} (a : Fr i j M M1) (b : Fr i j M1 M2) : Fr i j M M2 :=
  ⟨Nat.le_trans a.1 b.1, fun k h1 h2 h3 => (b.2 k (Nat.lt_of_lt_of_le h1 a.1) h2 h3).trans (a.2 k h1 h2 h3)⟩
theorem Fr.app (i j : Nat) (M G : Mem) : Fr i j M (M ++ G) := ⟨by simp, fun k h _ _ => List.getElem?_append_left h⟩
theorem Fr.set1 (i j : Nat) (M : Mem) (c : Cell) : Fr i j M (M.set i c) := ⟨by simp, fun k h a b => by rw [List.getElem?_set_ne (Ne.symm a)]⟩
theorem Fr.set2 (i j : Nat) (M : Mem) (c : Cell) : Fr i j M (M.set j c) := ⟨by simp, fun k h a b => by rw [List.getElem?_set_ne (Ne.symm b)]⟩
def dkv (j : Nat) (m k : Int) : List (L2.Key × D) := [(Sum.inr "left", .obj j), (Sum.inr "mixed", .int m), (Sum.inr "draws", .int k)]
@[simp] theorem dkv_left (j : Nat) (m k : Int) : valD (dkv j m k) (.inr "left") = some (.obj j) := rfl
@[simp] theorem dkv_mixed (j : Nat) (m k : Int) : valD (dkv j m k) (.inr "mixed") = some (.int m) := rfl
@[simp] theorem dkv_draws (j : Nat) (m k : Int) : valD (dkv j m k) (.inr "draws") = some (.int k) := rfl
@[simp] theorem dkv_putm (j : Nat) (m k x : Int) : putKD (dkv j m k) (.inr "mixed") (.int x) = dkv j x k := rfl
@[simp] theorem dkv_putd (j : Nat) (m k x : Int) : putKD (dkv j m k) (.inr "draws") (.int x) = dkv j m x := rfl
theorem dkv_len (j : Nat) (m k : Int) : (dkv j m k).length < sizeLine := by
  show 3 < sizeLine
  decide
structure DkAt (i j : Nat) (f : Nat) (ns : List Int) (m k : Int) (M : Mem) : Prop where
  d : M[i]? = some (.dK (dkv j m k))
  l : M[j]? = some (.lst (ns.map D.int))
  ne : i ≠ j
  m0 : 0 ≤ m
  m1 : m < 2147483648
  k0 : 0 ≤ k
  k1 : k + f ≤ 1000000000000
  nl : ns.length ≤ 64
def Dk (i j f : Nat) (M : Mem) : Prop := ∃ ns m k, DkAt i j f ns m k M
theorem Dk.app {i j f : Nat} {M : Mem} (h : Dk i j f M) (G : Mem) : Dk i j f (M ++ G) := by
  obtain ⟨ns, m, k, h⟩ := h
  have hi := (List.getElem?_eq_some_iff.mp h.d).1
  have hj := (List.getElem?_eq_some_iff.mp h.l).1
  exact ⟨ns, m, k, by rw [List.getElem?_append_left hi]; exact h.d, by rw [List.getElem?_append_left hj]; exact h.l, h.ne, h.m0, h.m1, h.k0, h.k1, h.nl⟩
theorem Dk.le {i j f g : Nat} {M : Mem} (h : Dk i j f M) (hg : g ≤ f) : Dk i j g M := by
  obtain ⟨ns, m, k, h⟩ := h
  exact ⟨ns, m, k, h.d, h.l, h.ne, h.m0, h.m1, h.k0, by have := h.k1; omega, h.nl⟩
/-- the second half of a draw, from the mixed number alone -/
theorem draw_arith {many m k : Int} (h0 : 0 < many) (m0 : 0 ≤ m) (m1 : m < 2147483648) (k0 : 0 ≤ k) (k1 : k ≤ 1000000000000) (P : Int → Prop) (hq : ∀ r, 0 ≤ r → r < many → P r) :
    CMulW 31337 k ∧
    CMulW ((m + 31337 * k).fmod 2147483647) ((m + 31337 * k).fmod 2147483647) ∧
      CMulW 48271 k ∧
        CMulW (((m + 31337 * k).fmod 2147483647 * (m + 31337 * k).fmod 2147483647 + 48271 * k + 59).fmod 2147483629) 69621 ∧
          CDivN ((((m + 31337 * k).fmod 2147483647 * (m + 31337 * k).fmod 2147483647 + 48271 * k + 59).fmod 2147483629 * 69621 + 77).fmod 2147483563) 64 ∧
            ¬many = 0 ∧
              P ((((((m + 31337 * k).fmod 2147483647 * (m + 31337 * k).fmod 2147483647 + 48271 * k + 59).fmod 2147483629 * 69621 + 77).fmod 2147483563).fdiv 64).fmod many) := by
  have p1 : ∀ a : Int, 0 ≤ a.fmod 2147483647 ∧ a.fmod 2147483647 < 2147483647 := fun a => ⟨Int.fmod_nonneg_of_pos a (by decide), Int.fmod_lt_of_pos a (by decide)⟩
  have p2 : ∀ a : Int, 0 ≤ a.fmod 2147483629 ∧ a.fmod 2147483629 < 2147483629 := fun a => ⟨Int.fmod_nonneg_of_pos a (by decide), Int.fmod_lt_of_pos a (by decide)⟩
  refine ⟨cmul_of (B := 31337) (C := 1000000000000) (by omega) (by omega), ?_⟩
  have q1 := p1 (m + 31337 * k)
  generalize (m + 31337 * k).fmod 2147483647 = a1 at q1 ⊢
  refine ⟨cmul_of (B := 2147483647) (C := 2147483647) (by omega) (by omega), cmul_of (B := 48271) (C := 1000000000000) (by omega) (by omega), ?_⟩
  have q2 := p2 (a1 * a1 + 48271 * k + 59)
  generalize (a1 * a1 + 48271 * k + 59).fmod 2147483629 = a2 at q2 ⊢
  refine ⟨cmul_of (B := 2147483647) (C := 69621) (by omega) (by omega), ⟨by decide, by decide⟩, by omega, ?_⟩
  exact hq _ (Int.fmod_nonneg_of_pos _ h0) (Int.fmod_lt_of_pos _ h0)
theorem p__law_draw {i j f : Nat} {many : Int} {M : Mem} {Q : KD} {E : KE'} (h : Dk i j (f + 1) M) (h0 : 0 < many) (h1 : many < 1000000000) (hq : ∀ r M', 0 ≤ r → r < many → Dk i j f M' → Fr i j M M' → Q (.int r) M') : sp__law_draw [.obj i, .int many] M Q E := by
  obtain ⟨ns, m, k, h⟩ := h
  have hi := (List.getElem?_eq_some_iff.mp h.d).1
  have hj := (List.getElem?_eq_some_iff.mp h.l).1
  have hne : j ≠ i := fun e => h.ne e.symm
  have k1 := h.k1
  simp [sp__law_draw, r__law_draw, h.d]
  refine ⟨dkv_len _ _ _, ?_⟩
  rw [List.getElem?_set_self hi]
  simp
  obtain ⟨M1, e1⟩ : ∃ M1, M1 = M.set i (.dK (dkv j m (k + 1))) ++ [Cell.lst []] := ⟨_, rfl⟩
  have f1 : Fr i j M M1 := by rw [e1]; exact (Fr.set1 i j M _).tr (Fr.app i j _ _)
  have d1 : M1[i]? = some (.dK (dkv j m (k + 1))) := by rw [e1, List.getElem?_append_left (by simpa using hi), List.getElem?_set_self hi]
  have l1 : M1[j]? = some (.lst (ns.map D.int)) := by rw [e1, List.getElem?_append_left (by simpa using hj), List.getElem?_set_ne h.ne]; exact h.l
  have n1 : M1[M.length]? = some (.lst []) := by rw [e1]; simp
  rw [← e1]
  clear e1
  refine eqD_lst0 l1 n1 ?_
  rcases List.eq_nil_or_concat ns with rfl | ⟨ns0, c, rfl⟩
  · simp [d1]
    exact draw_arith h0 h.m0 h.m1 (by have := h.k0; omega) (by omega) (fun r => Q (.int r) M1) fun r r0 r1 => hq r M1 r0 r1 ⟨[], m, k + 1, d1, l1, h.ne, h.m0, h.m1, by have := h.k0; omega, by omega, by simp⟩ f1
  · have hj1 : j < M1.length := Nat.lt_of_lt_of_le hj f1.1
    have hi1 : i < M1.length := Nat.lt_of_lt_of_le hi f1.1
    simp [d1, isLst, l1]
    have hc : CPow 10 18 := by unfold CPow; decide
    refine ⟨hc, ?_⟩
    have nl := h.nl
    have nl0 : ns0.length + 1 ≤ 64 := by simpa using nl
    obtain ⟨M2, e2⟩ : ∃ M2, M2 = M1.set j (.lst (ns0.map D.int)) := ⟨_, rfl⟩
    have f2 : Fr i j M M2 := by rw [e2]; exact f1.tr (Fr.set2 i j M1 _)
    have d2 : M2[i]? = some (.dK (dkv j m (k + 1))) := by rw [e2, List.getElem?_set_ne hne]; exact d1
    have l2 : M2[j]? = some (.lst (ns0.map D.int)) := by rw [e2, List.getElem?_set_self hj1]
    have hi2 : i < M2.length := Nat.lt_of_lt_of_le hi f2.1
    have hj2 : j < M2.length := Nat.lt_of_lt_of_le hj f2.1
    rw [← e2]
    clear e2
    simp only [d2]
    by_cases hcc : c < 1000000000000000000
    · refine .inl ⟨hcc, ?_⟩
      simp [d2]
      have p0 : ∀ a : Int, 0 ≤ a.fmod 2147483587 ∧ a.fmod 2147483587 < 2147483587 := fun a => ⟨Int.fmod_nonneg_of_pos a (by decide), Int.fmod_lt_of_pos a (by decide)⟩
      have m0 := h.m0
      have m1 := h.m1
      have kk := h.k0
      refine ⟨cmul_of (B := 2147483648) (C := 39373) (by omega) (by omega), dkv_len _ _ _, ?_⟩
      rw [List.getElem?_set_self hi2]
      simp
      have q0 := p0 (m * 39373 + c.fmod 2147483629 + 53)
      generalize (m * 39373 + c.fmod 2147483629 + 53).fmod 2147483587 = m' at q0 ⊢
      have d3 : (M2.set i (.dK (dkv j m' (k + 1))))[i]? = some (.dK (dkv j m' (k + 1))) := List.getElem?_set_self hi2
      have l3 : (M2.set i (.dK (dkv j m' (k + 1))))[j]? = some (.lst (ns0.map D.int)) := by rw [List.getElem?_set_ne h.ne]; exact l2
      have f3 : Fr i j M (M2.set i (.dK (dkv j m' (k + 1)))) := f2.tr (Fr.set1 i j M2 _)
      rw [d3]
      simp [hi2]
      exact draw_arith h0 q0.1 (by omega) (by omega) (by omega) (fun r => Q (.int r) _) fun r r0 r1 => hq r _ r0 r1 ⟨ns0, m', k + 1, d3, l3, h.ne, q0.1, by omega, by omega, by omega, by omega⟩ f3
    · refine .inr ⟨by omega, ?_⟩
      simp [l2]
      have hb : (if 2 < many then many else 2) ≠ 0 ∧ (if 2 < many then many else 2).natAbs < 1073741824 := by split <;> omega
      refine ⟨hb, small_le (n := ns0.length + 1) (by omega), by omega, ?_⟩
      refine hq _ _ (Int.fmod_nonneg_of_pos _ h0) (Int.fmod_lt_of_pos _ h0) ⟨ns0 ++ [c.fdiv (if 2 < many then many else 2)], m, k + 1, ?_, ?_, h.ne, h.m0, h.m1, by have := h.k0; omega, by omega, by simp; omega⟩ (f2.tr (Fr.set2 i j M2 _))
      · rw [List.getElem?_set_ne hne]; exact d2
      · rw [List.getElem?_set_self hj2]; simp
end Z8
set_option Elab.async false
set_option linter.all false
set_option maxRecDepth 100000
set_option maxHeartbeats 4000000
namespace Z8
open PySem PySem.Spec PyProof.Rows L2 GxR Gn Dl
theorem cutL_map (ns : List Int) (lo hi : Option Int) : cutL (ns.map D.int) lo hi = (cutL ns lo hi).map D.int := by
  unfold cutL
  rw [List.length_map, List.map_take, List.map_drop]
theorem cutL_len {α : Type} (xs : List α) (lo hi : Option Int) : (cutL xs lo hi).length ≤ xs.length := by
  unfold cutL
  rw [List.length_take, List.length_drop]
  omega
theorem deck_go {scr seed : D} {M : Mem} {alive : Mem → Prop} {Dd : EndsD} {E : KE'} (al : alive M) : ∀ (cs : List Int) (m : Int) (x : Option D), 0 ≤ m → m < 2147483648 →
    (∀ m' x', 0 ≤ m' → m' < 2147483648 → Dd.nx [some scr, some seed, some (.int m'), x'] M) →
    forD (dGN 3) (dSet 2 (dOp modD (dCB Dl.intOfD (dCons (dOp addD (dOp addD (dOp mulA (dVar 2) (dC (.int 47293))) (dOp modD (dCB Dl.intOfD (dCons (dVar 3) (dNil))) (dC (.int 2147483629)))) (dC (.int 61))) (dNil))) (dC (.int 2147483563)))) alive Dd E (cs.map D.int) [some scr, some seed, some (.int m), x] M
  | [], m, x, h0, h1, h => ⟨al, h m x h0 h1⟩
  | c :: cs, m, x, h0, h1, h => by
    refine ⟨al, ?_⟩
    simp
    refine ⟨cmul_of (B := 2147483648) (C := 47293) (by omega) (by omega), ?_⟩
    have p0 : ∀ a : Int, 0 ≤ a.fmod 2147483563 ∧ a.fmod 2147483563 < 2147483563 := fun a => ⟨Int.fmod_nonneg_of_pos a (by decide), Int.fmod_lt_of_pos a (by decide)⟩
    have q0 := p0 (m * 47293 + c.fmod 2147483629 + 61)
    exact deck_go al cs _ _ q0.1 (by omega) h
theorem p__law_deck {ns : List Int} {seed : Int} {Q : KD} {E : KE'} (hl : ns.length ≤ 63) (s0 : 0 ≤ seed) (s1 : seed < 2147483648) (hq : ∀ i j M', Dk i j 1000000 M' → Q (.obj i) M') : sp__law_deck [.scr ns, .int seed] [] Q E := by
  simp [sp__law_deck, r__law_deck]
  rw [cutL_map]
  refine deck_go (by rfl) _ seed none s0 s1 fun m' x' h0 h1 => ?_
  simp
  refine ⟨dkv 4 m' 0, rfl, by show 3 ≤ 15; decide, hq 1 4 _ ⟨(cutL ns none (some 63)).reverse, m', 0, rfl, ?_, by decide, h0, h1, by decide, by decide, ?_⟩⟩
  · rw [cutL_map, ← List.map_reverse]
    rfl
  · rw [List.length_reverse]
    have := cutL_len ns none (some 63)
    omega
theorem atI_in {α : Type} {xs : List α} {r : Int} (h0 : 0 ≤ r) (h1 : r < xs.length) : ∃ v, atI xs r = some v ∧ v ∈ xs := by
  obtain ⟨n, rfl⟩ : ∃ n : Nat, r = n := ⟨r.toNat, by omega⟩
  have hn : n < xs.length := by omega
  exact ⟨xs[n], atI_nat (List.getElem?_eq_getElem hn), List.getElem_mem hn⟩
theorem p__law_pick_l {i j f : Nat} {ds : List D} {n : Nat} {M : Mem} {Q : KD} {E : KE'} (h : Dk i j (f + 1) M) (hn : M[n]? = some (.lst ds)) (h0 : 0 < ds.length) (h1 : ds.length < 1000) (ni : n ≠ i) (nj : n ≠ j) (hq : ∀ d M', d ∈ ds → Dk i j f M' → Fr i j M M' → Q d M') : sp__law_pick [.obj i, .obj n] M Q E := by
  have hl := (List.getElem?_eq_some_iff.mp hn).1
  simp [sp__law_pick, r__law_pick, hn]
  refine p__law_draw h (by omega) (by omega) fun r M' r0 r1 D1 f1 => ?_
  have hn' : M'[n]? = some (.lst ds) := (f1.2 n hl ni nj).trans hn
  obtain ⟨v, e, hv⟩ := atI_in r0 r1
  exact (ixA_objI hn').mpr ⟨v, e, hq v M' hv D1 f1⟩
theorem p__law_pick_t {i j f : Nat} {ds : List D} {M : Mem} {Q : KD} {E : KE'} (h : Dk i j (f + 1) M) (h0 : 0 < ds.length) (h1 : ds.length < 1000) (hq : ∀ d M', d ∈ ds → Dk i j f M' → Fr i j M M' → Q d M') : sp__law_pick [.obj i, .tup ds] M Q E := by
  simp [sp__law_pick, r__law_pick]
  refine p__law_draw h (by omega) (by omega) fun r M' r0 r1 D1 f1 => ?_
  obtain ⟨v, e, hv⟩ := atI_in r0 r1
  exact ixA_tup.mpr ⟨v, e, hq v M' hv D1 f1⟩
/-- a comprehension that draws: each turn spends at most c draws -/
theorem lcD_draw {α : Type} {i j c : Nat} {gd : TGd} {te : TEd} {vs : List Nat} {alive : Mem → Prop} {Q : KD} {S : Sl} (dd : α → D) (P : D → Prop) (M0 : Mem) (n : Nat) (ni : n ≠ i) (nj : n ≠ j) (hn0 : M0.length ≤ n) (al : ∀ M, Fr i j M0 M → alive M) : ∀ (as : List α) (acc : List D) (f : Nat) (M : Mem),
    Dk i j (f + c * as.length) M → Fr i j M0 M → M[n]? = some (.lst acc) → (∀ d ∈ acc, P d) → acc.length + as.length ≤ sizeLine →
    (∀ a ∈ as, ∀ (g : Nat) (M : Mem) (Q' : KD), Dk i j (g + c) M → Fr i j M0 M → (∀ d M', P d → Dk i j g M' → Fr i j M M' → Q' d M') → gd (dd a) (wipeD S vs) M fun S1 M1 => te S1 M1 Q' E00) →
    (∀ ds M', (∀ d ∈ ds, P d) → ds.length = acc.length + as.length → Dk i j f M' → Fr i j M0 M' → M'[n]? = some (.lst ds) → Q (.obj n) M') →
    lcD gd dYes te vs n alive Q S (as.map dd) M
  | [], acc, f, M, D0, F0, hn, hp, hz, el, h => ⟨al M F0, h acc M hp (by simp) (by simpa using D0) F0 hn⟩
  | a :: as, acc, f, M, D0, F0, hn, hp, hz, el, h => by
    refine ⟨al M F0, ?_⟩
    simp only [dYes, if_true]
    have e0 : f + c * (a :: as).length = (f + c * as.length) + c := by rw [List.length_cons, Nat.mul_succ, Nat.add_assoc]
    rw [e0] at D0
    have hl := (List.getElem?_eq_some_iff.mp hn).1
    refine el a (by simp) _ M _ D0 F0 fun d M' pd D1 F1 => ⟨acc, (F1.2 n hl ni nj).trans hn, by simp at hz; omega, ?_⟩
    have hl' : n < M'.length := Nat.lt_of_lt_of_le hl F1.1
    have F2 : Fr i j M0 (M'.set n (.lst (acc ++ [d]))) := by
      refine ⟨by rw [List.length_set]; exact Nat.le_trans F0.1 F1.1, fun k h1 h2 h3 => ?_⟩
      rw [List.getElem?_set_ne (by omega)]
      exact (F0.tr F1).2 k h1 h2 h3
    have D2 : Dk i j (f + c * as.length) (M'.set n (.lst (acc ++ [d]))) := by
      obtain ⟨ns, m, k, q⟩ := D1
      exact ⟨ns, m, k, by rw [List.getElem?_set_ne ni]; exact q.d, by rw [List.getElem?_set_ne nj]; exact q.l, q.ne, q.m0, q.m1, q.k0, q.k1, q.nl⟩
    refine lcD_draw dd P M0 n ni nj hn0 al as (acc ++ [d]) f _ D2 F2 (List.getElem?_set_self hl') (fun x hx => ?_) (by simp at hz ⊢; omega) (fun b hb => el b (List.mem_cons_of_mem _ hb)) (fun ds M2 p1 p2 => h ds M2 p1 (by simp at p2 ⊢; omega))
    rcases List.mem_append.mp hx with hx | hx
    · exact hp x hx
    · rw [List.mem_singleton.mp hx]; exact pd
end Z8
set_option Elab.async false
set_option linter.all false
set_option maxRecDepth 100000
set_option maxHeartbeats 4000000
namespace Z8
open PySem PySem.Spec PyProof.Rows L2 GxR Gn Dl
theorem ints_ex {p : Int → Prop} : ∀ {ds : List D}, (∀ d ∈ ds, ∃ n, d = .int n ∧ p n) → ∃ ns : List Int, ds = ns.map D.int ∧ ∀ n ∈ ns, p n
  | [], _ => ⟨[], rfl, by simp⟩
  | d :: ds, h => by
    obtain ⟨n, rfl, hn⟩ := h d (by simp)
    obtain ⟨ns, rfl, hs⟩ := ints_ex fun d hd => h d (List.mem_cons_of_mem _ hd)
    exact ⟨n :: ns, rfl, fun m hm => (List.mem_cons.mp hm).elim (fun e => e ▸ hn) (hs m)⟩
theorem pics_ex {α : Type} {dd : α → D} {p : α → Prop} : ∀ {ds : List D}, (∀ d ∈ ds, ∃ n, d = dd n ∧ p n) → ∃ ns : List α, ds = ns.map dd ∧ ∀ n ∈ ns, p n
  | [], _ => ⟨[], rfl, by simp⟩
  | d :: ds, h => by
    obtain ⟨n, rfl, hn⟩ := h d (by simp)
    obtain ⟨ns, rfl, hs⟩ := pics_ex fun d hd => h d (List.mem_cons_of_mem _ hd)
    exact ⟨n :: ns, rfl, fun m hm => (List.mem_cons.mp hm).elim (fun e => e ▸ hn) (hs m)⟩
theorem rngD_map (lo : Int) (n : Nat) : rngD lo n = (List.range n).map fun i => D.int (lo + (i : Nat)) := rfl
/-- the place of a fresh list is neither of the deck's -/
theorem Dk.out {i j f : Nat} {M : Mem} (h : Dk i j f M) : M.length ≠ i ∧ M.length ≠ j := by
  obtain ⟨ns, m, k, h⟩ := h
  have hi := (List.getElem?_eq_some_iff.mp h.d).1
  have hj := (List.getElem?_eq_some_iff.mp h.l).1
  omega
/-- a whole comprehension that draws -/
theorem lcD_drawn {α : Type} {i j c f : Nat} {gd : TGd} {te : TEd} {vs : List Nat} {alive : Mem → Prop} {Q : KD} {S : Sl} (dd : α → D) (P : D → Prop) (as : List α) (M : Mem) (al : ∀ M', Fr i j M M' → alive M')
    (D0 : Dk i j (f + c * as.length) M) (hz : as.length ≤ 1000)
    (el : ∀ a ∈ as, ∀ (g : Nat) (M1 : Mem) (Q' : KD), Dk i j (g + c) M1 → Fr i j M M1 → (∀ d M', P d → Dk i j g M' → Fr i j M1 M' → Q' d M') → gd (dd a) (wipeD S vs) M1 fun S1 M1 => te S1 M1 Q' E00)
    (h : ∀ ds M', (∀ d ∈ ds, P d) → ds.length = as.length → Dk i j f M' → Fr i j M M' → M'[M.length]? = some (.lst ds) → Q (.obj M.length) M') :
    lcD gd dYes te vs M.length alive Q S (as.map dd) (M ++ [.lst []]) := by
  refine lcD_draw (i := i) (j := j) (c := c) dd P M M.length D0.out.1 D0.out.2 (Nat.le_refl _) al as [] f _ (D0.app _) (Fr.app _ _ _ _) (by simp) (by simp) (small_le (by simpa using hz)) el fun ds M' p1 p2 p3 p4 p5 => h ds M' p1 (by simpa using p2) p3 p4 p5
theorem p__law_drawn_vectors {i j f m d : Nat} {M : Mem} {Q : KD} {E : KE'} (h : Dk i j (f + d * m) M) (hm : m ≤ 1000) (hd : d ≤ 1000)
    (hq : ∀ rows M', rows.length = m → (∀ r ∈ rows, r.length = d ∧ Bd 5 r) → Dk i j f M' → Fr i j M M' → Q (mI rows) M') : sp__law_drawn_vectors [.obj i, .int m, .int d] M Q E := by
  simp [sp__law_drawn_vectors, r__law_drawn_vectors, rngD_map]
  refine ⟨by omega, ?_⟩
  refine lcD_drawn (i := i) (j := j) (c := d) (f := f) (fun i : Nat => D.int (i : Int)) (fun x => ∃ r : List Int, x = vI r ∧ (r.length = d ∧ Bd 5 r)) (List.range m) M (fun _ _ => trivial) (by simpa using h) (by simpa using hm) (fun a ha g M1 Q' D1 F1 k => ?_) fun ds M' p1 p2 D2 F2 e2 => ?_
  · simp [rngD_map]
    refine ⟨by omega, ?_⟩
    refine lcD_drawn (i := i) (j := j) (c := 1) (f := g) (fun i : Nat => D.int (i : Int)) (fun x => ∃ n : Int, x = .int n ∧ (-5 ≤ n ∧ n ≤ 5)) (List.range d) M1 (fun _ _ => trivial) (by simpa using D1) (by simpa using hd) (fun b hb g2 M2 Q2 D3 F3 k2 => ?_) fun ds M' p1 p2 D3 F3 e3 => ?_
    · simp
      refine p__law_draw D3 (by decide) (by decide) fun r M' r0 r1 D4 F4 => ?_
      simp
      exact k2 _ _ ⟨_, rfl, by omega, by omega⟩ D4 F4
    · obtain ⟨ns, rfl, hb⟩ := ints_ex p1
      simp [e3]
      exact k _ _ ⟨ns, rfl, by simpa using p2, hb⟩ D3 F3
  · obtain ⟨rows, rfl, hr⟩ := pics_ex p1
    simp [e2]
    exact hq rows M' (by simpa using p2) hr D2 F2
theorem p__law_drawn_tokens {i j f : Nat} {wide many : Nat} {M : Mem} {Q : KD} {E : KE'} (h : Dk i j (f + 1 + many) M) (hw : 0 < wide) (hw2 : wide ≤ 1000) (hm : 0 < many) (hm2 : many ≤ 900)
    (hq : ∀ ts M', ts ≠ [] → ts.length ≤ many → TokOk wide ts → Dk i j f M' → Fr i j M M' → Q (vI ts) M') : sp__law_drawn_tokens [.obj i, .int wide, .int many] M Q E := by
  simp [sp__law_drawn_tokens, r__law_drawn_tokens, rngD_map]
  have h' : Dk i j ((f + many) + 1) M := by rw [Nat.add_right_comm] at h; exact h
  refine p__law_draw h' (by omega) (by omega) fun r M' r0 r1 D1 F1 => ?_
  obtain ⟨n, rfl⟩ : ∃ n : Nat, r = n := ⟨r.toNat, by omega⟩
  simp [rngD_map]
  refine ⟨by omega, by omega, ?_⟩
  have e : (1 + (n : Int)).toNat = n + 1 := by omega
  rw [e]
  refine lcD_drawn (i := i) (j := j) (c := 1) (f := f) (fun i : Nat => D.int (i : Int)) (fun x => ∃ t : Int, x = .int t ∧ (0 ≤ t ∧ t < wide)) (List.range (n + 1)) M' (fun _ _ => trivial) (D1.le (by simp; omega)) (by simp; omega) (fun a ha g M1 Q' D2 F2 k => ?_) fun ds M2 p1 p2 D2 F2 e2 => ?_
  · simp
    exact p__law_draw D2 (by omega) (by omega) fun r M3 r0 r1 D3 F3 => k _ _ ⟨r, rfl, r0, r1⟩ D3 F3
  · obtain ⟨ts, rfl, ht⟩ := ints_ex p1
    simp at p2
    simp [e2]
    exact hq ts M2 (fun z => by rw [z] at p2; cases p2) (by omega) ht D2 (F1.tr F2)
end Z8
set_option Elab.async false
set_option linter.all false
set_option maxRecDepth 100000
set_option maxHeartbeats 4000000
namespace Z8
open PySem PySem.Spec PyProof.Rows L2 GxR Gn Dl
/-- a drawn network -/
structure NetB (N : Net) : Prop where
  O : N.Ok
  m5 : N.many ≤ 5
  w3 : N.w ≤ 3
  eb : ∀ r ∈ N.embeds, Bd 5 r
  pl : N.places.length ≤ 4
  pb : ∀ r ∈ N.places, Bd 5 r
  ll : N.layers.length ≤ 2
  lb : ∀ L ∈ N.layers, ∀ m ∈ L, ∀ r ∈ m, Bd 5 r
  ob : ∀ r ∈ N.outs, Bd 5 r
theorem p__law_drawn_net {i j f : Nat} {M : Mem} {Q : KD} {E : KE'} (h : Dk i j (f + 200) M) (hq : ∀ N M', NetB N → Dk i j f M' → Fr i j M M' → Q N.d M') : sp__law_drawn_net [.obj i] M Q E := by
  simp [sp__law_drawn_net, r__law_drawn_net]
  refine p__law_draw (f := f + 199) h (by decide) (by decide) fun r1 M1 r10 r11 D1 F1 => ?_
  simp
  refine p__law_draw (f := f + 198) D1 (by decide) (by decide) fun r2 M2 r20 r21 D2 F2 => ?_
  obtain ⟨a, rfl⟩ : ∃ a : Nat, r1 = a := ⟨r1.toNat, by omega⟩
  obtain ⟨b, rfl⟩ : ∃ b : Nat, r2 = b := ⟨r2.toNat, by omega⟩
  have F12 := F1.tr F2
  simp
  refine ⟨small_le (n := 2) (by decide), small_le (n := 5) (by decide), ?_⟩
  have D3 : Dk i j ((f + 197) + 1) (M2 ++ [.lst [.int 1, .int 2, .int 0, .int 1, .int 2]]) := D2.app _
  refine p__law_pick_l (n := M2.length) (ds := [.int 1, .int 2, .int 0, .int 1, .int 2]) D3 (by simp) (by simp) (by simp) D2.out.1 D2.out.2 fun x M3 hx D4 F4 => ?_
  obtain ⟨t, rfl, ht⟩ : ∃ t : Nat, x = .int t ∧ t ≤ 2 := by
    simp at hx
    rcases hx with rfl | rfl | rfl | rfl | rfl
    · exact ⟨1, rfl, by decide⟩
    · exact ⟨2, rfl, by decide⟩
    · exact ⟨0, rfl, by decide⟩
    · exact ⟨1, rfl, by decide⟩
    · exact ⟨2, rfl, by decide⟩
  have F13 : Fr i j M M3 := (F12.tr (Fr.app i j M2 _)).tr F4
  simp [rngD_map]
  refine ⟨by omega, ?_⟩
  have hb : (1 + (b : Int)) = ((1 + b : Nat) : Int) := by omega
  have ha : (2 + (a : Int)) = ((2 + a : Nat) : Int) := by omega
  rw [hb, ha]
  generalize hw : 1 + b = w
  generalize hv : 2 + a = v
  have w3 : w ≤ 3 := by omega
  have w1 : 1 ≤ w := by omega
  have v5 : v ≤ 5 := by omega
  have v2 : 2 ≤ v := by omega
  have ww : w * w ≤ 9 := Nat.mul_le_mul w3 w3
  have hD : Dk i j ((f + 100) + 36 * (List.range t).length) M3 := D4.le (by simp; omega)
  refine lcD_drawn (i := i) (j := j) (c := 36) (f := f + 100) (fun i : Nat => D.int (i : Int)) (fun x => ∃ L, x = lyD L ∧ (L.length = 4 ∧ ∀ m ∈ L, Sq w m ∧ ∀ r ∈ m, Bd 5 r)) (List.range t) M3 (fun _ _ => trivial) hD (by simp; omega) (fun c hc g M4 Q' D5 F5 k => ?_) fun ds M4 p1 p2 D5 F5 e5 => ?_
  · simp [rngD_map]
    have hD : Dk i j (g + 9 * (List.range 4).length) M4 := D5
    refine lcD_drawn (i := i) (j := j) (c := 9) (f := g) (fun i : Nat => D.int (i : Int)) (fun x => ∃ m, x = mI m ∧ (Sq w m ∧ ∀ r ∈ m, Bd 5 r)) (List.range 4) M4 (fun _ _ => trivial) hD (by decide) (fun c' hc' g2 M5 Q2 D6 F6 k2 => ?_) fun ds M5 p1 p2 D6 F6 e6 => ?_
    · simp
      refine p__law_drawn_vectors (f := g2) (D6.le (by omega)) (by omega) (by omega) fun rows M6 q1 q2 D7 F7 => ?_
      exact k2 _ _ ⟨rows, rfl, ⟨by omega, fun r hr => by rw [(q2 r hr).1]⟩, fun r hr => (q2 r hr).2⟩ D7 F7
    · obtain ⟨L, rfl, hL⟩ := pics_ex p1
      simp [e6]
      exact k _ _ ⟨L, rfl, by simpa using p2, hL⟩ D6 F6
  obtain ⟨layers, rfl, hL⟩ := pics_ex p1
  have F15 := F13.tr F5
  simp [e5]
  refine p__law_drawn_vectors (f := f + 85) (D5.le (by have : w * v ≤ 15 := Nat.mul_le_mul w3 v5; omega)) (by omega) (by omega) fun embeds M5 q1 q2 D6 F6 => ?_
  try simp
  refine p__law_draw (f := f + 84) D6 (by decide) (by decide) fun r3 M6 r30 r31 D7 F7 => ?_
  obtain ⟨c, rfl⟩ : ∃ a : Nat, r3 = a := ⟨r3.toNat, by omega⟩
  have hc : (1 + (c : Int)) = ((1 + c : Nat) : Int) := by omega
  simp
  try rw [hc]
  refine p__law_drawn_vectors (f := f + 60) (D7.le (by have : w * (1 + c) ≤ 3 * 4 := Nat.mul_le_mul w3 (by omega); omega)) (by omega) (by omega) fun places M7 q3 q4 D8 F8 => ?_
  refine p__law_drawn_vectors (f := f + 1) (D8.le (by have : w * v ≤ 15 := Nat.mul_le_mul w3 v5; omega)) (by omega) (by omega) fun outs M8 q5 q6 D9 F9 => ?_
  refine ⟨small_le (n := 7) (by decide), ?_⟩
  refine hq ⟨v, w, embeds, places, layers, outs⟩ M8 ⟨⟨by show (2 : Int) ≤ (v : Nat); omega, by show (1 : Int) ≤ (w : Nat); omega, by show (embeds.length : Int) = (v : Nat); omega, fun r hr => ?_, ?_, fun r hr => ?_, fun L hL' => ⟨(hL L hL').1, fun m hm => ((hL L hL').2 m hm).1⟩, by show (outs.length : Int) = (v : Nat); omega, fun r hr => ?_⟩, by show ((v : Nat) : Int) ≤ 5; omega, by show ((w : Nat) : Int) ≤ 3; omega, fun r hr => (q2 r hr).2, by show places.length ≤ 4; omega, fun r hr => (q4 r hr).2, by show layers.length ≤ 2; simp at p2; omega, fun L hL' m hm r hr => ((hL L hL').2 m hm).2 r hr, fun r hr => (q6 r hr).2⟩ (D9.le (by omega)) ((((F15.tr F6).tr F7).tr F8).tr F9)
  · show (r.length : Int) = (w : Nat); rw [(q2 r hr).1]
  · show places ≠ []; intro z; rw [z] at q3; simp at q3; omega
  · show (r.length : Int) = (w : Nat); rw [(q4 r hr).1]
  · show (r.length : Int) = (w : Nat); rw [(q6 r hr).1]
end Z8
set_option Elab.async false
set_option linter.all false
set_option maxRecDepth 100000
set_option maxHeartbeats 4000000
namespace Z8
open PySem PySem.Spec PyProof.Rows L2 GxR Gn Dl
/-! ### what a network reckons -/
def IsMax (m : Int) (ns : List Int) : Prop := m ∈ ns ∧ ∀ y ∈ ns, y ≤ m
theorem IsMax.uniq {m k : Int} {ns : List Int} (a : IsMax m ns) (b : IsMax k ns) : m = k := Int.le_antisymm (b.2 m a.1) (a.2 k b.1)
theorem max_ex : ∀ {ns : List Int}, ns ≠ [] → ∃ m, IsMax m ns
  | [], h => absurd rfl h
  | [n], _ => ⟨n, by simp, by simp⟩
  | n :: k :: ns, _ => by
    obtain ⟨m, h1, h2⟩ := max_ex (ns := k :: ns) (by simp)
    by_cases h : n ≤ m
    · exact ⟨m, List.mem_cons_of_mem _ h1, fun y hy => (List.mem_cons.mp hy).elim (fun e => e ▸ h) (h2 y)⟩
    · exact ⟨n, by simp, fun y hy => (List.mem_cons.mp hy).elim (fun e => Int.le_of_eq e) fun hy => by have := h2 y hy; omega⟩
theorem maxI_ex (ns : List Int) : ∃ m, ns ≠ [] → IsMax m ns := by
  by_cases h : ns = []
  · exact ⟨0, fun z => absurd h z⟩
  · obtain ⟨m, hm⟩ := max_ex h
    exact ⟨m, fun _ => hm⟩
noncomputable def maxI (ns : List Int) : Int := Classical.choose (maxI_ex ns)
theorem maxI_is {ns : List Int} (h : ns ≠ []) : IsMax (maxI ns) ns := Classical.choose_spec (maxI_ex ns) h
theorem maxI_eq {m : Int} {ns : List Int} (h : IsMax m ns) : m = maxI ns := h.uniq (maxI_is (fun e => by rw [e] at h; cases h.1))
noncomputable def shares (ns : List Int) : List Int := shI (maxI ns) ns
theorem sh1_pos {d : Int} (h : 0 ≤ d) : 1 ≤ sh1 d ∧ sh1 d ≤ 64 := by
  unfold sh1
  by_cases h6 : d < 6
  · have : d = 0 ∨ d = 1 ∨ d = 2 ∨ d = 3 ∨ d = 4 ∨ d = 5 := by omega
    rcases this with rfl | rfl | rfl | rfl | rfl | rfl <;> decide
  · rw [if_neg h6]; decide
theorem shares_bd {ns : List Int} (h : ns ≠ []) : ∀ s ∈ shares ns, 1 ≤ s ∧ s ≤ 64 := fun s hs => by
  obtain ⟨n, hn, rfl⟩ := List.mem_map.mp hs
  exact sh1_pos (by have := (maxI_is h).2 n hn; omega)
theorem shares_len (ns : List Int) : (shares ns).length = ns.length := List.length_map ..
/-- the k-th column -/
def colI (k : Nat) (ws : List (List Int)) : List Int := ws.map fun w => w.getD k 0
def mixI (sh : List Int) (ws : List (List Int)) (w : Nat) : List Int := (List.range w).map fun k => (dotI sh (colI k ws)).fdiv sh.sum
/-- the law's share of a score -/
theorem p_share {m s : Int} {M : Mem} {Q : KD} {E : KE'} (h : s ≤ m) (hq : Q (.int (sh1 (m - s))) M) : sp__law_doubled [.int (if 0 < 6 - m + s then 6 - m + s else 0)] M Q E := by
  refine p__law_doubled (by split <;> omega) ?_
  rw [← sh1_doubled h]
  exact hq
/-- a memory that has only grown -/
def Ext (M M' : Mem) : Prop := ∃ G, M' = M ++ G
theorem Ext.refl (M : Mem) : Ext M M := ⟨[], by simp⟩
theorem Ext.tr {M M1 M2 : Mem} (a : Ext M M1) (b : Ext M1 M2) : Ext M M2 := by
  obtain ⟨G, rfl⟩ := a
  obtain ⟨H, rfl⟩ := b
  exact ⟨G ++ H, by simp⟩
theorem Ext.app (M G : Mem) : Ext M (M ++ G) := ⟨G, rfl⟩
theorem Ext.at {M M' : Mem} (a : Ext M M') {n : Nat} {c : Cell} (h : M[n]? = some c) : M'[n]? = some c := by
  obtain ⟨G, rfl⟩ := a
  rw [List.getElem?_append_left (List.getElem?_eq_some_iff.mp h).1]
  exact h
theorem Ext.q {M M' : Mem} {P : Mem → Prop} (a : Ext M M') (h : ∀ G, P (M ++ G)) : ∀ G, P (M' ++ G) := by
  obtain ⟨H, rfl⟩ := a
  intro G
  rw [List.append_assoc]
  exact h _
theorem lcD_ex {α : Type} {gd : TGd} {te : TEd} {vs : List Nat} {alive : Mem → Prop} {Q : KD} {S : Sl} (dd f : α → D) (as : List α) (M : Mem) (al : ∀ M', Ext M M' → alive M')
    (el : ∀ a ∈ as, ∀ (M1 : Mem) (Q' : KD), Ext M M1 → (∀ G', Q' (f a) (M1 ++ G')) → gd (dd a) (wipeD S vs) M1 fun S1 M2 => te S1 M2 Q' E00) (hz : as.length ≤ 1000)
    (h : ∀ M', Ext M M' → M'[M.length]? = some (.lst (as.map f)) → Q (.obj M.length) M') :
    lcD gd dYes te vs M.length alive Q S (as.map dd) (M ++ [.lst []]) :=
  lcD_of dd f as M (fun G => al _ (Ext.app M G)) (fun a ha G Q' k => el a ha _ Q' (Ext.app M G) k) (small_le hz) fun G => h _ (Ext.app M _) at_end
theorem p__law_net_weights {N : Net} {st : List Int} {M : Mem} {Q : KD} {E : KE'} (B : NetB N) (hs : Bd 20 st) (h : ∀ G, Q (vI (shares (timesI N.outs st))) (M ++ G)) : sp__law_net_weights [N.d, vI st] M Q E := by
  simp [sp__law_net_weights, r__law_net_weights, Net.d]
  refine ⟨_, rfl, ?_⟩
  show seqD (mI N.outs) M _
  simp only [mI, seqD_tup]
  have hol : N.outs.length ≤ 5 := by have := B.O.ol; have := B.m5; omega
  have hw : ∀ r ∈ N.outs, r.length ≤ 1000 := fun r hr => by have := B.O.ow r hr; have := B.w3; omega
  have hlen : (timesI N.outs st).length = N.outs.length := List.length_map ..
  have hne : timesI N.outs st ≠ [] := fun e => by
    have h1 := B.O.ol
    have h2 := B.O.m2
    rw [e] at hlen
    simp at hlen
    omega
  have e2 : (N.outs.map fun r => D.int (dotI r st)) = (timesI N.outs st).map D.int := by simp [timesI, Function.comp_def]
  refine lcD_ex vI (fun r => .int (dotI r st)) N.outs M (fun _ _ => trivial) (fun r hr M1 Q' x1 k => ?_) (by omega) fun M1 x1 l1 => ?_
  · simp
    exact p__law_product (B.ob r hr) hs (by decide) (by decide) (hw r hr) k
  · have hQ := x1.q (P := fun M => Q (vI (shares (timesI N.outs st))) M) h
    rw [e2] at l1
    simp [l1]
    refine lcD_ex D.int (fun s => .int (sh1 (maxI (timesI N.outs st) - s))) (timesI N.outs st) M1 (fun M' x => x.at l1) (fun s hs' M2 Q' x2 k => ?_) (by omega) fun M2 x2 l2 => ?_
    · simp [x2.at l1]
      refine ⟨List.length_pos_iff.mpr hne, fun m hm hy => ?_⟩
      have em : m = maxI (timesI N.outs st) := maxI_eq ⟨hm, hy⟩
      subst em
      exact p_share (hy s hs') (by simpa using k [])
    · simp [l2]
      have := x2.q (P := fun M => Q (vI (shares (timesI N.outs st))) M) hQ []
      simpa [vI, shares, shI, Function.comp_def] using this
end Z8
set_option Elab.async false
set_option linter.all false
set_option maxRecDepth 100000
set_option maxHeartbeats 4000000
namespace Z8
open PySem PySem.Spec PyProof.Rows L2 GxR Gn Dl
/-- a loop that puts one thing behind a list at each turn -/
theorem forD_app {α : Type} {x q : Nat} {te : TEd} {alive : Mem → Prop} {Dd : EndsD} {E : KE'} (dd f : α → D) (S0 : Sl) (M0 : Mem) (hxq : x ≠ q) (hq : S0[q]? = some (some (.obj M0.length))) (al : ∀ G, alive (M0 ++ G)) : ∀ (as : List α) (acc : List D) (S : Sl), (∀ d, S.set x (some d) = S0.set x (some d)) →
    (∀ a ∈ as, ∀ (G : Mem) (Q' : KD), (∀ G', Q' (f a) (M0 ++ G ++ G')) → te (S0.set x (some (dd a))) (M0 ++ G) Q' E) → acc.length + as.length ≤ 1000 →
    (∀ S' G, (∀ d, S'.set x (some d) = S0.set x (some d)) → (S' = S ∨ ∃ d, S' = S0.set x (some d)) → Dd.nx S' (M0 ++ .lst (acc ++ as.map f) :: G)) → ∀ G, forD (dGN x) (dDrop (dBM isLst appendD (dVar q) (dCons te dNil))) alive Dd E (as.map dd) S (M0 ++ .lst acc :: G)
  | [], acc, S, hS, _, _, h, G => ⟨al _, by simpa using h S G hS (.inl rfl)⟩
  | a :: as, acc, S, hS, el, hz, h, G => by
    refine ⟨al _, ?_⟩
    have hz' : acc.length + as.length + 1 ≤ 1000 := by simpa [Nat.add_assoc] using hz
    show ∃ d, (S.set x (some (dd a)))[q]? = some (some d) ∧ _
    rw [hS (dd a)]
    refine ⟨.obj M0.length, by rw [List.getElem?_set_ne hxq]; exact hq, ⟨M0.length, acc, rfl, by simp⟩, ?_⟩
    refine el a (by simp) (.lst acc :: G) _ fun G' => ?_
    refine ⟨M0.length, acc, f a, rfl, rfl, by simp, small_le (n := acc.length + 1) (by omega), ?_⟩
    have e : (M0 ++ .lst acc :: G ++ G').set M0.length (.lst (acc ++ [f a])) = M0 ++ .lst (acc ++ [f a]) :: (G ++ G') := by simp
    rw [e]
    have hS' : ∀ d, (S0.set x (some (dd a))).set x (some d) = S0.set x (some d) := fun d => List.set_set ..
    exact forD_app dd f S0 M0 hxq hq al as (acc ++ [f a]) _ hS' (fun b hb => el b (List.mem_cons_of_mem _ hb)) (by simp; omega) (fun S' G h1 h2 => by
      have := h S' G h1 (.inr (h2.elim (fun e => ⟨_, e⟩) id))
      simpa using this) (G ++ G')
theorem zipD_map2 {α β : Type} (f : α → D) (g : β → D) : ∀ (as : List α) (bs : List β), zipD (as.map f) (bs.map g) = (as.zip bs).map fun p => D.tup [f p.1, g p.2]
  | [], bs => by unfold zipD; simp
  | a :: as, [] => by unfold zipD; simp
  | a :: as, b :: bs => by
    have := zipD_map2 f g as bs
    unfold zipD at this ⊢
    simp [this]
theorem dot_col (k : Nat) : ∀ (sh : List Int) (ws : List (List Int)), ((sh.zip ws).map fun p => p.1 * p.2.getD k 0).sum = dotI sh (colI k ws)
  | [], ws => by unfold dotI colI; simp
  | s :: sh, [] => by unfold dotI colI; simp
  | s :: sh, w :: ws => by
    have := dot_col k sh ws
    unfold dotI colI at this ⊢
    simp at this ⊢
    rw [this]
theorem sum_bd : ∀ {sh : List Int}, (∀ s ∈ sh, 1 ≤ s ∧ s ≤ 64) → (sh.length : Int) ≤ sh.sum ∧ sh.sum ≤ 64 * sh.length
  | [], _ => by simp
  | s :: sh, h => by
    have h1 := h s (by simp)
    have h2 := sum_bd fun x hx => h x (List.mem_cons_of_mem s hx)
    simp
    omega
theorem p__law_mixed {L : List (List (List Int))} {m2 : List (List Int)} {scores : List Int} {worths : List (List Int)} {si wi w : Nat} {M : Mem} {Q : KD} {E : KE'} (hL : L[2]? = some m2) (hm2 : m2.length = w) (hw : w ≤ 3) (hs : M[si]? = some (.lst (scores.map D.int))) (hwo : M[wi]? = some (.lst (worths.map vI)))
    (hne : scores ≠ []) (hlen : scores.length ≤ 500) (hb : ∀ r ∈ worths, r.length = w ∧ Bd 310 r) (h : ∀ G, Q (vI (mixI (shares scores) worths w)) (M ++ G)) : sp__law_mixed [lyD L, .obj si, .obj wi] M Q E := by
  simp [sp__law_mixed, r__law_mixed, hs]
  refine lcD_ex D.int (fun s => .int (sh1 (maxI scores - s))) scores M (fun M' x => x.at hs) (fun s hs' M2 Q' x2 k => ?_) (by omega) fun M1 x1 l1 => ?_
  · simp [x2.at hs]
    refine ⟨List.length_pos_iff.mpr hne, fun m hm hy => ?_⟩
    have em : m = maxI scores := maxI_eq ⟨hm, hy⟩
    subst em
    exact p_share (hy s hs') (by simpa using k [])
  have e1 : (scores.map fun s => D.int (sh1 (maxI scores - s))) = (shares scores).map D.int := by simp [shares, shI, Function.comp_def]
  rw [e1] at l1
  have hQ := x1.q (P := fun M => Q (vI (mixI (shares scores) worths w)) M) h
  have w1 := x1.at hwo
  have hm : atI (L.map mI) 2 = some (mI m2) := by
    have := atI_nat (xs := L.map mI) (j := 2) (v := mI m2) (by rw [List.getElem?_map, hL]; rfl)
    exact this
  simp [lyD, hm, mI, hm2, rngD_map]
  refine ⟨by omega, ?_⟩
  have g1 : ∀ G, (M1 ++ G)[M.length]? = some (.lst ((shares scores).map D.int)) := fun G => (Ext.app M1 G).at l1
  have g2 : ∀ G, (M1 ++ G)[wi]? = some (.lst (worths.map vI)) := fun G => (Ext.app M1 G).at w1
  refine forD_app (x := 5) (q := 4) (fun k : Nat => D.int (k : Int)) (fun k => .int ((dotI (shares scores) (colI k worths)).fdiv (shares scores).sum)) _ M1 (by decide) rfl (fun _ => trivial) (List.range w) [] _ (fun d => rfl) (fun k hk G Q' kk => ?_) (by simp; omega) (fun S' G hS1 hS2 => ?_) []
  · have hkw : k < w := List.mem_range.mp hk
    have k1 := g1 G
    have k2 := g2 G
    generalize M1 ++ G = M2 at kk k1 k2 ⊢
    simp [k1, k2, zipD_map2]
    have hbs := shares_bd hne
    have hsl := shares_len scores
    have hsum := sum_bd hbs
    have hpos : 0 < scores.length := List.length_pos_iff.mpr hne
    have hat : ∀ r ∈ worths, ∃ v, atI (r.map D.int) (k : Int) = some (.int v) ∧ v = r.getD k 0 := fun r hr => by
      have hlt : k < r.length := by rw [(hb r hr).1]; exact hkw
      refine ⟨r[k], atI_nat (by rw [List.getElem?_map, List.getElem?_eq_getElem hlt]; rfl), ?_⟩
      rw [List.getD_eq_getElem?_getD, List.getElem?_eq_getElem hlt]
      rfl
    refine lcD_ex (fun p : Int × List Int => D.tup [.int p.1, vI p.2]) (fun p => .int (p.1 * p.2.getD k 0)) ((shares scores).zip worths) M2 (fun M' x => ⟨x.at k1, x.at k2⟩) (fun p hp M3 Q3 x3 k3 => ?_) (by simp; omega) fun M3 x3 l3 => ?_
    · obtain ⟨v, ev, rfl'⟩ := hat p.2 (List.of_mem_zip hp).2
      have hv : -310 ≤ v ∧ v ≤ 310 := by
        have hlt : k < p.2.length := by rw [(hb p.2 (List.of_mem_zip hp).2).1]; exact hkw
        have : v ∈ p.2 := by
          rw [rfl', List.getD_eq_getElem?_getD, List.getElem?_eq_getElem hlt]
          exact List.getElem_mem hlt
        exact (hb p.2 (List.of_mem_zip hp).2).2 v this
      have hp1 := hbs p.1 (List.of_mem_zip hp).1
      have q3 := k3 []
      rw [← rfl', List.append_nil] at q3
      simp [vI, ev]
      exact ⟨cmul_of (B := 64) (C := 310) (by omega) hv, q3⟩
    · have k4 := x3.at k1
      have isum : intsOf (((shares scores).zip worths).map fun p => D.int (p.1 * p.2.getD k 0)) = some (((shares scores).zip worths).map fun p => p.1 * p.2.getD k 0) := ints_of _ _
      refine sumHD_obj.mpr ⟨_, _, l3, isum, ?_⟩
      refine ⟨_, k4, _, intsOf_map _, ?_⟩
      rw [dot_col]
      refine intD_int.mpr ⟨⟨by omega, by omega⟩, ?_⟩
      obtain ⟨G3, rfl⟩ := x3
      exact kk G3
  · have hS : ∀ d, (S'.set 5 (some d))[4]? = some (some (.obj M1.length)) := fun d => by rw [hS1 d]; rfl
    have h4 : S'[4]? = some (some (.obj M1.length)) := by
      have := hS (.int 0)
      rw [List.getElem?_set_ne (by decide)] at this
      exact this
    simp [h4]
    have := hQ (.lst ((List.range w).map fun k => D.int ((dotI (shares scores) (colI k worths)).fdiv (shares scores).sum)) :: G)
    simpa [vI, mixI, Function.comp_def] using this
end Z8
set_option Elab.async false
set_option linter.all false
set_option maxRecDepth 100000
set_option maxHeartbeats 4000000
namespace Z8
open PySem PySem.Spec PyProof.Rows L2 GxR Gn Dl
abbrev Pr := List Int × List Int
def prD (p : Pr) : D := .tup [vI p.1, vI p.2]
def rowD (r : List Pr) : D := .tup (r.map prD)
def rowsT (rows : List (List Pr)) : D := .tup (rows.map rowD)
theorem prD_mI (p : Pr) : prD p = mI [p.1, p.2] := rfl
/-- a row as the network wants it -/
def RowOk (N : Net) (r : List Pr) : Prop := r.length = N.layers.length ∧ ∀ p ∈ r, (p.1.length : Int) = N.w ∧ (p.2.length : Int) = N.w
theorem net_at0 (N : Net) : atI [D.str "net", .int N.many, .int N.w, mI N.embeds, mI N.places, .tup (N.layers.map lyD), mI N.outs] 0 = some (.str "net") := rfl
theorem net_at1 (N : Net) : atI [D.str "net", .int N.many, .int N.w, mI N.embeds, mI N.places, .tup (N.layers.map lyD), mI N.outs] 1 = some (.int N.many) := rfl
theorem net_at2 (N : Net) : atI [D.str "net", .int N.many, .int N.w, mI N.embeds, mI N.places, .tup (N.layers.map lyD), mI N.outs] 2 = some (.int N.w) := rfl
theorem net_at5 (N : Net) : atI [D.str "net", .int N.many, .int N.w, mI N.embeds, mI N.places, .tup (N.layers.map lyD), mI N.outs] 5 = some (.tup (N.layers.map lyD)) := rfl
theorem net_win : ¬ Str.ofString "net" = Str.ofString "window" := by decide
theorem p_is_row {N : Net} {r : List Pr} {M : Mem} {Q : KD} {E : KE'} (R : RowOk N r) (h : ∀ G, Q (.bl true) (M ++ G)) : sp_is_row [N.d, rowD r] M Q E := by
  simp [sp_is_row, r_is_row, Net.d, net_at0, net_at2, net_at5, rowD, net_win]
  apply p_is_tuple_of
  simp [R.1]
  have := allD_of (gd := dGN 4) (vs := [4]) (alive := fun _ => True) (Q := Q) (S := [some N.d, some (rowD r), some (.tup (N.layers.map lyD)), some (.int N.w), none]) (te := dCall 3 sp__are_vectors (dCons (dVar 4) (dCons (dC (.int 2)) (dCons (dVar 3) dNil))))
    prD (fun _ => true) r M (fun _ => trivial) (fun p hp G Q' k => by
      simp [prD_mI]
      exact p_are_vectors rfl (by
        intro x hx
        simp at hx
        rcases hx with rfl | rfl
        · exact (R.2 p hp).1
        · exact (R.2 p hp).2) k) (by intro G; rw [all_tt]; exact h G) []
  simpa [Net.d, rowD] using this
theorem p_are_rows {N : Net} {rows : List (List Pr)} {M : Mem} {Q : KD} {E : KE'} (R : ∀ r ∈ rows, RowOk N r) (h : ∀ G, Q (.bl true) (M ++ G)) : sp_are_rows [N.d, rowsT rows] M Q E := by
  simp [sp_are_rows, r_are_rows, rowsT]
  have := allD_of (gd := dGN 2) (vs := [2]) (alive := fun _ => True) (Q := Q) (S := [some N.d, some (rowsT rows), none]) (te := dCall 2 sp_is_row (dCons (dVar 0) (dCons (dVar 2) dNil)))
    rowD (fun _ => true) rows M (fun _ => trivial) (fun r hr G Q' k => by
      simp
      exact p_is_row (R r hr) k) (by intro G; rw [all_tt]; exact h G) []
  simpa [rowsT] using this
theorem p__law_clipped {ns : List Int} {i : Nat} {M : Mem} {Q : KD} {E : KE'} (hi : M[i]? = some (.lst (ns.map D.int))) (hz : ns.length ≤ 1000) (h : ∀ G, Q (vI (ns.map clipI)) (M ++ G)) : sp__law_clipped [.obj i] M Q E := by
  simp [sp__law_clipped, r__law_clipped, hi]
  refine lcD_ex D.int (fun n => .int (clipI n)) ns M (fun M' x => x.at hi) (fun n hn M1 Q' x1 k => ?_) hz fun M1 x1 l1 => ?_
  · simp
    exact (by simpa [clipI] using k [])
  · simp [l1]
    have := x1.q (P := fun M => Q (vI (ns.map clipI)) M) h []
    simpa [vI, Function.comp_def] using this
end Z8
set_option Elab.async false
set_option linter.all false
set_option maxRecDepth 100000
set_option maxHeartbeats 4000000
namespace Z8
open PySem PySem.Spec PyProof.Rows L2 GxR Gn Dl
/-! ### bounds -/
theorem mul_bd {x y : Int} {B C : Nat} (h1 : -(B : Int) ≤ x ∧ x ≤ B) (h2 : -(C : Int) ≤ y ∧ y ≤ C) : -((B * C : Nat) : Int) ≤ x * y ∧ x * y ≤ ((B * C : Nat) : Int) := by
  have a : x.natAbs ≤ B := by omega
  have b : y.natAbs ≤ C := by omega
  have c : (x * y).natAbs ≤ B * C := by rw [Int.natAbs_mul]; exact Nat.mul_le_mul a b
  generalize x * y = z at c ⊢
  generalize B * C = n at c ⊢
  omega
theorem dot_bd {B C : Nat} : ∀ (xs ys : List Int), Bd B xs → Bd C ys → -((xs.length * (B * C) : Nat) : Int) ≤ dotI xs ys ∧ dotI xs ys ≤ ((xs.length * (B * C) : Nat) : Int)
  | [], ys, _, _ => by unfold dotI; simp
  | x :: xs, [], _, _ => by
    have e : dotI (x :: xs) [] = 0 := by unfold dotI; simp
    rw [e]
    generalize (x :: xs).length * (B * C) = n
    omega
  | x :: xs, y :: ys, h1, h2 => by
    have h3 := dot_bd xs ys (fun n hn => h1 n (List.mem_cons_of_mem _ hn)) (fun n hn => h2 n (List.mem_cons_of_mem _ hn))
    have h4 := mul_bd (h1 x (by simp)) (h2 y (by simp))
    have e : dotI (x :: xs) (y :: ys) = x * y + dotI xs ys := by unfold dotI; simp
    have e2 : (x :: xs).length * (B * C) = xs.length * (B * C) + B * C := by rw [List.length_cons, Nat.succ_mul]
    rw [e, e2]
    generalize x * y = z at h4 ⊢
    generalize xs.length * (B * C) = n at h3 ⊢
    generalize B * C = m at h4 ⊢
    omega
theorem times_bd {rows : List (List Int)} {st : List Int} (hr : ∀ r ∈ rows, Bd 5 r ∧ r.length ≤ 3) (hs : Bd 20 st) : Bd 300 (timesI rows st) := fun n hn => by
  obtain ⟨r, hr', rfl⟩ := List.mem_map.mp hn
  have h := dot_bd (B := 5) (C := 20) r st (hr r hr').1 hs
  have hl := (hr r hr').2
  omega
theorem bd310 {ns : List Int} (h : Bd 300 ns) : Bd 310 ns := fun n hn => by
  have := h n hn
  omega
theorem times_bd' {rows : List (List Int)} {st : List Int} (hr : ∀ r ∈ rows, Bd 5 r ∧ r.length ≤ 3) (hs : Bd 20 st) : Bd 310 (timesI rows st) := bd310 (times_bd hr hs)
theorem fdiv_bd {a b : Int} {n : Nat} (hb : 1 ≤ b) (ha : -(n : Int) ≤ a ∧ a ≤ n) : -(n : Int) ≤ a.fdiv b ∧ a.fdiv b ≤ n := by
  rw [Int.fdiv_eq_ediv_of_nonneg a (by omega)]
  refine ⟨?_, ?_⟩
  · refine Int.le_ediv_of_mul_le (by omega) ?_
    have : (n : Int) * 1 ≤ n * b := Int.mul_le_mul_of_nonneg_left hb (by omega)
    have e : -(n : Int) * b = -(n * b) := Int.neg_mul ..
    omega
  · refine Int.le_of_lt_add_one (Int.ediv_lt_of_lt_mul (by omega) ?_)
    have : ((n : Int) + 1) * 1 ≤ (n + 1) * b := Int.mul_le_mul_of_nonneg_left hb (by omega)
    omega
theorem mix_bd {sh : List Int} {ws : List (List Int)} {w : Nat} (h1 : ∀ s ∈ sh, 1 ≤ s ∧ s ≤ 64) (hne : sh ≠ []) (hl : sh.length ≤ 500) (hw : ∀ r ∈ ws, r.length = w ∧ Bd 310 r) : Bd 10000000 (mixI sh ws w) := fun n hn => by
  obtain ⟨k, hk, rfl⟩ := List.mem_map.mp hn
  have hs := sum_bd h1
  have hp : 0 < sh.length := List.length_pos_iff.mpr hne
  have hc : Bd (310 : Nat) (colI k ws) := fun v hv => by
    obtain ⟨r, hr, rfl⟩ := List.mem_map.mp hv
    have hlt : k < r.length := by rw [(hw r hr).1]; exact List.mem_range.mp hk
    rw [List.getD_eq_getElem?_getD, List.getElem?_eq_getElem hlt]
    exact (hw r hr).2 _ (List.getElem_mem hlt)
  have hd := dot_bd (B := 64) (C := 310) sh (colI k ws) (fun s hs' => by have := h1 s hs'; omega) hc
  have hm : sh.length * (64 * 310) ≤ 500 * (64 * 310) := Nat.mul_le_mul_right _ hl
  have := fdiv_bd (b := sh.sum) (by omega) hd
  omega
theorem sumClip_bd (xs ys : List Int) : Bd 20 (sumClip xs ys) := fun n hn => by
  obtain ⟨p, _, rfl⟩ := List.mem_map.mp hn
  exact clipI_bd _
theorem sumClip_len {xs ys : List Int} {w : Nat} (h1 : xs.length = w) (h2 : ys.length = w) : (sumClip xs ys).length = w := by
  unfold sumClip
  simp [h1, h2]
theorem times_len (rows : List (List Int)) (st : List Int) : (timesI rows st).length = rows.length := List.length_map ..
theorem mix_len (sh : List Int) (ws : List (List Int)) (w : Nat) : (mixI sh ws w).length = w := by unfold mixI; simp
/-! ### a step of the network -/
def keysOf (rows : List (List Pr)) (i : Nat) : List (List Int) := rows.map fun r => (r.getD i ([], [])).1
def worthsOf (rows : List (List Pr)) (i : Nat) : List (List Int) := rows.map fun r => (r.getD i ([], [])).2
noncomputable def nearOf (A K W : List (List Int)) (rows : List (List Pr)) (i w : Nat) (st : List Int) : List Int :=
  mixI (shares ((keysOf rows i ++ [timesI K st]).map fun k => dotI (timesI A st) k)) (worthsOf rows i ++ [timesI W st]) w
noncomputable def layGo (w : Nat) (rows : List (List Pr)) : List (List (List (List Int))) → Nat → List Int → List Pr × List Int
  | [A, K, W, X] :: Ls, i, st =>
    let r := layGo w rows Ls (i + 1) (sumClip st (timesI X (nearOf A K W rows i w st)))
    ((timesI K st, timesI W st) :: r.1, r.2)
  | _, _, st => ([], st)
end Z8
set_option Elab.async false
set_option linter.all false
set_option maxRecDepth 100000
set_option maxHeartbeats 4000000
namespace Z8
open PySem PySem.Spec PyProof.Rows L2 GxR Gn Dl
/-- a datum that walks over ds -/
def Sq2 (M : Mem) (d : D) (ds : List D) : Prop := d = .tup ds ∨ ∃ n, d = .obj n ∧ M[n]? = some (.lst ds)
theorem Sq2.ext {M M' : Mem} {d : D} {ds : List D} (h : Sq2 M d ds) (x : Ext M M') : Sq2 M' d ds := h.elim .inl fun ⟨n, e, h⟩ => .inr ⟨n, e, x.at h⟩
theorem lc_walk {α : Type} {gd : TGd} {te : TEd} {vs : List Nat} {Q : KD} {S : Sl} (dd f : α → D) (as : List α) {M : Mem} {d : D} (h : Sq2 M d (as.map dd))
    (el : ∀ a ∈ as, ∀ (M1 : Mem) (Q' : KD), Ext M M1 → (∀ G', Q' (f a) (M1 ++ G')) → gd (dd a) (wipeD S vs) M1 fun S1 M2 => te S1 M2 Q' E00) (hz : as.length ≤ 1000)
    (hk : ∀ M', Ext M M' → M'[M.length]? = some (.lst (as.map f)) → Q (.obj M.length) M') :
    seqD d M (fun ds alive M1 => lcD gd dYes te vs M1.length alive Q S ds (M1 ++ [.lst []])) := by
  rcases h with rfl | ⟨n, rfl, hn⟩
  · exact lcD_ex dd f as M (fun _ _ => trivial) el hz hk
  · exact ⟨_, hn, lcD_ex dd f as M (fun M' x => x.at hn) el hz hk⟩
/-- what a row must be at the i-th layer -/
def RB (w i : Nat) (rows : List (List Pr)) : Prop := rows.length ≤ 400 ∧ ∀ r ∈ rows, i < r.length ∧ ∀ p ∈ r, (p.1.length = w ∧ Bd 310 p.1) ∧ (p.2.length = w ∧ Bd 310 p.2)
theorem RB.get {w i : Nat} {rows : List (List Pr)} (h : RB w i rows) {r : List Pr} (hr : r ∈ rows) : ∃ p, r[i]? = some p ∧ r.getD i ([], []) = p ∧ p ∈ r := by
  have hi := (h.2 r hr).1
  exact ⟨r[i], List.getElem?_eq_getElem hi, by rw [List.getD_eq_getElem?_getD, List.getElem?_eq_getElem hi]; rfl, List.getElem_mem hi⟩
theorem row_at {r : List Pr} {i : Nat} {p : Pr} (h : r[i]? = some p) : atI (r.map prD) (i : Int) = some (prD p) := atI_nat (by rw [List.getElem?_map, h]; rfl)
def tbL : TSd := (dSeq (dPar 15 16 (dCons (dCall 2 sp__law_times (dCons (dOp ixA (dVar 14) (dC (.int 1))) (dCons (dVar 11) (dNil)))) (dCons (dCall 2 sp__law_times (dCons (dOp ixA (dVar 14) (dC (.int 2))) (dCons (dVar 11) (dNil)))) (dNil)))) (dSeq (dSet 17 (dCall 2 sp__law_times (dCons (dOp ixA (dVar 14) (dC (.int 0))) (dCons (dVar 11) (dNil))))) (dSeq (dPar 18 19 (dCons (dOp addD (dLc (dWalk (dVar 1)) (dGN 24) (dYes) (dOp ixA (dOp ixA (dVar 24) (dVar 13)) (dC (.int 0))) [24]) (dLst (dCons (dVar 15) (dNil)))) (dCons (dOp addD (dLc (dWalk (dVar 1)) (dGN 24) (dYes) (dOp ixA (dOp ixA (dVar 24) (dVar 13)) (dC (.int 1))) [24]) (dLst (dCons (dVar 16) (dNil)))) (dNil)))) (dSeq (dSet 20 (dCall 3 sp__law_mixed (dCons (dVar 14) (dCons (dLc (dWalk (dVar 18)) (dGN 23) (dYes) (dCall 2 sp__law_product (dCons (dVar 17) (dCons (dVar 23) (dNil)))) [23]) (dCons (dVar 19) (dNil)))))) (dSeq (dDrop (dBM isLst appendD (dVar 12) (dCons (dTup (dCons (dVar 15) (dCons (dVar 16) (dNil)))) (dNil)))) (dSet 11 (dCall 1 sp__law_clipped (dCons (dLc (dZip (dCons (dVar 11) (dCons (dCall 2 sp__law_times (dCons (dOp ixA (dVar 14) (dC (.int 3))) (dCons (dVar 20) (dNil)))) (dNil)))) (dGTup 2 (dGCons (dGN 21) (dGCons (dGN 22) (dGNil)))) (dYes) (dOp addD (dVar 21) (dVar 22)) [21, 22]) (dNil)))))))))
theorem law_turn {w i p : Nat} {rows : List (List Pr)} {A K W X : List (List Int)} {st : List Int} {acc : List Pr} {a0 a2 a3 a4 a5 a6 a7 a8 a9 a10 y15 y16 y17 y18 y19 y20 : Option D} {rd : D} {M : Mem} {D0 : EndsD} {E : KE'}
    (hw : w ≤ 3) (hw1 : 1 ≤ w) (hL : ∀ m ∈ [A, K, W, X], m.length = w ∧ ∀ r ∈ m, Bd 5 r ∧ r.length = w) (hst : st.length = w ∧ Bd 20 st) (hR : RB w i rows) (hrd : Sq2 M rd (rows.map rowD)) (hp : M[p]? = some (.lst (acc.map prD))) (hacc : acc.length ≤ 100)
    (hq : ∀ b15 b16 b17 b18 b19 b20 M1 G, Ext M M1 → D0.nx [a0, some rd, a2, a3, a4, a5, a6, a7, a8, a9, a10, some (vI (sumClip st (timesI X (nearOf A K W rows i w st)))), some (.obj p), some (.int i), some (lyD [A, K, W, X]), b15, b16, b17, b18, b19, b20, none, none, none, none] (M1.set p (.lst ((acc ++ [(timesI K st, timesI W st)]).map prD)) ++ G)) :
    tbL D0 E [a0, some rd, a2, a3, a4, a5, a6, a7, a8, a9, a10, some (vI st), some (.obj p), some (.int i), some (lyD [A, K, W, X]), y15, y16, y17, y18, y19, y20, none, none, none, none] M := by
  have hA := hL A (by simp)
  have hK := hL K (by simp)
  have hW := hL W (by simp)
  have hX := hL X (by simp)
  have b3 : ∀ {m : List (List Int)}, (m.length = w ∧ ∀ r ∈ m, Bd 5 r ∧ r.length = w) → ∀ r ∈ m, Bd 5 r ∧ r.length ≤ 3 := fun h r hr => ⟨(h.2 r hr).1, by rw [(h.2 r hr).2]; exact hw⟩
  have b4 : ∀ {m : List (List Int)}, (m.length = w ∧ ∀ r ∈ m, Bd 5 r ∧ r.length = w) → ∀ r ∈ m, Bd 5 r ∧ r.length ≤ 1000 := fun h r hr => ⟨(h.2 r hr).1, by rw [(h.2 r hr).2]; omega⟩
  have e0 : atI ([A, K, W, X].map mI) 0 = some (mI A) := rfl
  have e1 : atI ([A, K, W, X].map mI) 1 = some (mI K) := rfl
  have e2 : atI ([A, K, W, X].map mI) 2 = some (mI W) := rfl
  have e3 : atI ([A, K, W, X].map mI) 3 = some (mI X) := rfl
  obtain ⟨L, hLd⟩ : ∃ L, L = [A, K, W, X].map mI := ⟨_, rfl⟩
  simp only [lyD]
  rw [← hLd] at e0 e1 e2 e3 ⊢
  simp [tbL, e0, e1, e2, e3]
  refine p__law_times (b4 hK) hst.2 (by decide) (by decide) (by omega) fun G1 => ?_
  refine p__law_times (b4 hW) hst.2 (by decide) (by decide) (by omega) fun G2 => ?_
  have x2 : Ext M (M ++ G1 ++ G2) := (Ext.app M G1).tr (Ext.app _ G2)
  generalize M ++ G1 ++ G2 = M2 at x2 ⊢
  refine ⟨_, _, ⟨rfl, rfl⟩, ?_⟩
  refine p__law_times (b4 hA) hst.2 (by decide) (by decide) (by omega) fun G3 => ?_
  have x3 : Ext M (M2 ++ G3) := x2.tr (Ext.app _ _)
  generalize M2 ++ G3 = M3 at x3 ⊢
  -- the keys
  refine lc_walk rowD (fun r => vI (r.getD i ([], [])).1) rows (hrd.ext x3) (fun r hr Mx Qx xx kx => ?_) (by have := hR.1; omega) fun M4 x4 l4 => ?_
  · obtain ⟨pr, g1, g2, g3⟩ := hR.get hr
    have := kx []
    rw [g2] at this
    simp [rowD, row_at g1, prD]
    exact ⟨_, rfl, by simpa using this⟩
  have z1 : 1 ≤ sizeLine := small_le (n := 1) (by decide)
  have x4' := x3.tr x4
  have l4' : M4[M3.length]? = some (.lst ((keysOf rows i).map vI)) := by rw [l4]; simp [keysOf, Function.comp_def]
  simp [z1, l4', List.getElem?_append_left (List.getElem?_eq_some_iff.mp l4').1]
  have hkl : (keysOf rows i).length = rows.length := List.length_map ..
  have hwl : (worthsOf rows i).length = rows.length := List.length_map ..
  have hrl := hR.1
  refine ⟨small_le (n := (keysOf rows i).length + 1) (by omega), ?_⟩
  have ek : List.map vI (keysOf rows i) ++ [vI (timesI K st)] = (keysOf rows i ++ [timesI K st]).map vI := by simp
  rw [ek]
  obtain ⟨ks, hks⟩ : ∃ ks, ks = keysOf rows i ++ [timesI K st] := ⟨_, rfl⟩
  obtain ⟨ws, hws⟩ : ∃ ws, ws = worthsOf rows i ++ [timesI W st] := ⟨_, rfl⟩
  rw [← hks]
  obtain ⟨nk, hnk⟩ : ∃ nk, nk = M4.length + 1 := ⟨_, rfl⟩
  have l5 : (M4 ++ [Cell.lst [vI (timesI K st)], Cell.lst (ks.map vI)])[nk]? = some (.lst (ks.map vI)) := by rw [hnk]; simp
  have x5 : Ext M (M4 ++ [Cell.lst [vI (timesI K st)], Cell.lst (ks.map vI)]) := x4'.tr (Ext.app _ _)
  rw [← hnk]
  generalize M4 ++ [Cell.lst [vI (timesI K st)], Cell.lst (ks.map vI)] = M5 at l5 x5 ⊢
  -- the worths
  refine lc_walk rowD (fun r => vI (r.getD i ([], [])).2) rows (hrd.ext x5) (fun r hr Mx Qx xx kx => ?_) (by omega) fun M6 x6 l6 => ?_
  · obtain ⟨pr, g1, g2, g3⟩ := hR.get hr
    have := kx []
    rw [g2] at this
    simp [rowD, row_at g1, prD]
    exact ⟨_, rfl, by simpa using this⟩
  have l6' : M6[M5.length]? = some (.lst ((worthsOf rows i).map vI)) := by rw [l6]; simp [worthsOf, Function.comp_def]
  have x6' := x5.tr x6
  have k6 := x6.at l5
  simp [l6', List.getElem?_append_left (List.getElem?_eq_some_iff.mp l6').1]
  refine ⟨small_le (n := (worthsOf rows i).length + 1) (by omega), _, _, ⟨rfl, rfl⟩, ?_⟩
  have ew : List.map vI (worthsOf rows i) ++ [vI (timesI W st)] = (worthsOf rows i ++ [timesI W st]).map vI := by simp
  rw [ew, ← hws]
  obtain ⟨nw, hnw⟩ : ∃ nw, nw = M6.length + 1 := ⟨_, rfl⟩
  have l7 : (M6 ++ [Cell.lst [vI (timesI W st)], Cell.lst (ws.map vI)])[nw]? = some (.lst (ws.map vI)) := by rw [hnw]; simp
  have x7 : Ext M6 (M6 ++ [Cell.lst [vI (timesI W st)], Cell.lst (ws.map vI)]) := Ext.app _ _
  rw [← hnw]
  generalize M6 ++ [Cell.lst [vI (timesI W st)], Cell.lst (ws.map vI)] = M7 at l7 x7 ⊢
  have k7 := x7.at k6
  have x7' := x6'.tr x7
  have hkb : ∀ k ∈ ks, Bd 310 k := fun k hk => by
    rw [hks] at hk
    rcases List.mem_append.mp hk with hk | hk
    · obtain ⟨r, hr, rfl⟩ := List.mem_map.mp hk
      obtain ⟨pr, g1, g2, g3⟩ := hR.get hr
      rw [g2]
      exact ((hR.2 r hr).2 pr g3).1.2
    · rw [List.mem_singleton.mp hk]
      exact times_bd' (b3 hK) hst.2
  have hwb : ∀ k ∈ ws, k.length = w ∧ Bd 310 k := fun k hk => by
    rw [hws] at hk
    rcases List.mem_append.mp hk with hk | hk
    · obtain ⟨r, hr, rfl⟩ := List.mem_map.mp hk
      obtain ⟨pr, g1, g2, g3⟩ := hR.get hr
      rw [g2]
      exact ((hR.2 r hr).2 pr g3).2
    · rw [List.mem_singleton.mp hk]
      exact ⟨(times_len W st).trans hW.1, times_bd' (b3 hW) hst.2⟩
  have hkn : ks.length = rows.length + 1 := by rw [hks]; simp [hkl]
  -- the scores
  refine lc_walk vI (fun k => .int (dotI (timesI A st) k)) ks (.inr ⟨nk, rfl, k7⟩) (fun k hk Mx Qx xx kx => ?_) (by omega) fun M8 x8 l8 => ?_
  · simp
    exact p__law_product (times_bd' (b3 hA) hst.2) (hkb k hk) (by decide) (by decide) (by rw [times_len]; omega) kx
  have l8' : M8[M7.length]? = some (.lst ((ks.map fun k => dotI (timesI A st) k).map D.int)) := by rw [l8]; simp [Function.comp_def]
  have w8 := x8.at l7
  have x8' := x7'.tr x8
  subst hLd
  have hks0 : ks ≠ [] := fun e => by rw [e] at hkn; simp at hkn
  refine p__law_mixed (L := [A, K, W, X]) (m2 := W) (w := w) rfl hW.1 hw l8' w8 (fun e => hks0 (List.map_eq_nil_iff.mp e)) (by simp; omega) hwb fun G9 => ?_
  obtain ⟨near, hnear⟩ : ∃ near, near = mixI (shares (ks.map fun k => dotI (timesI A st) k)) ws w := ⟨_, rfl⟩
  have enear : nearOf A K W rows i w st = near := by rw [hnear, hks, hws]; rfl
  have x9 : Ext M (M8 ++ G9) := x8'.tr (Ext.app _ _)
  rw [← hnear]
  generalize M8 ++ G9 = M9 at x9 ⊢
  have p9 := x9.at hp
  have hp9 := (List.getElem?_eq_some_iff.mp p9).1
  have hz9 : (acc.map prD).length + 1 ≤ sizeLine := small_le (by rw [List.length_map]; omega)
  refine ⟨⟨p, _, rfl, p9⟩, small_le (n := 2) (by decide), _, p9, hz9, ?_⟩
  have es : acc.map prD ++ [D.tup [vI (timesI K st), vI (timesI W st)]] = (acc ++ [(timesI K st, timesI W st)]).map prD := by simp [prD]
  rw [es]
  have hsb : ∀ s ∈ shares (ks.map fun k => dotI (timesI A st) k), 1 ≤ s ∧ s ≤ 64 := shares_bd (fun e => hks0 (List.map_eq_nil_iff.mp e))
  have hnb : Bd 10000000 near := by
    rw [hnear]
    refine mix_bd hsb (fun e => ?_) ?_ hwb
    · have := shares_len (ks.map fun k => dotI (timesI A st) k)
      rw [e] at this
      simp at this
      omega
    · rw [shares_len]; simp; omega
  refine p__law_times (b4 hX) hnb (by decide) (by decide) (by omega) fun G10 => ?_
  obtain ⟨M10, h10⟩ : ∃ M10, M10 = M9.set p (.lst ((acc ++ [(timesI K st, timesI W st)]).map prD)) ++ G10 := ⟨_, rfl⟩
  rw [← h10]
  simp only [vI, zipRd_tup, zipD_map]
  have htl : (timesI X near).length = w := (times_len X near).trans hX.1
  refine lcD_ex (fun p : Int × Int => D.tup [.int p.1, .int p.2]) (fun p => .int (p.1 + p.2)) (st.zip (timesI X near)) M10 (fun _ _ => trivial) (fun pp hpp Mx Qx xx kx => ?_) (by simp; omega) fun M11 x11 l11 => ?_
  · simp
    exact (by simpa using kx [])
  have l11' : M11[M10.length]? = some (.lst (((st.zip (timesI X near)).map fun p => p.1 + p.2).map D.int)) := by rw [l11]; simp [Function.comp_def]
  refine p__law_clipped l11' (by simp; omega) fun G12 => ?_
  obtain ⟨G11, rfl⟩ := x11
  have ef : ((st.zip (timesI X near)).map fun p => p.1 + p.2).map clipI = sumClip st (timesI X near) := by unfold sumClip; simp [Function.comp_def]
  rw [ef, h10]
  have := hq (some (vI (timesI K st))) (some (vI (timesI W st))) (some (vI (timesI A st))) (some (.obj nk)) (some (.obj nw)) (some (vI near)) M9 (G10 ++ G11 ++ G12) x9
  rw [enear] at this
  simpa [vI, lyD] using this
end Z8
set_option Elab.async false
set_option linter.all false
set_option maxRecDepth 100000
set_option maxHeartbeats 4000000
namespace Z8
open PySem PySem.Spec PyProof.Rows L2 GxR Gn Dl
/-- all below n stays -/
def Lo (n : Nat) (M M' : Mem) : Prop := M.length ≤ M'.length ∧ ∀ k, k < n → M'[k]? = M[k]?
theorem Lo.refl (n : Nat) (M : Mem) : Lo n M M := ⟨Nat.le_refl _, fun _ _ => rfl⟩
theorem Lo.tr {n : Nat} {M M1 M2 : Mem} (a : Lo n M M1) (b : Lo n M1 M2) : Lo n M M2 := ⟨Nat.le_trans a.1 b.1, fun k h => (b.2 k h).trans (a.2 k h)⟩
theorem Lo.ext {n : Nat} {M M' : Mem} (h : Ext M M') (hn : n ≤ M.length) : Lo n M M' := by
  obtain ⟨G, rfl⟩ := h
  exact ⟨by simp, fun k hk => List.getElem?_append_left (by omega)⟩
theorem Lo.set {n p : Nat} (M : Mem) (c : Cell) (hp : n ≤ p) : Lo n M (M.set p c) := ⟨by simp, fun k hk => by rw [List.getElem?_set_ne (by omega)]⟩
theorem ext_of {M M' : Mem} (h : Lo M.length M M') : Ext M M' := by
  refine ⟨M'.drop M.length, ?_⟩
  apply List.ext_getElem?
  intro k
  by_cases hk : k < M.length
  · rw [List.getElem?_append_left hk, h.2 k hk]
  · rw [List.getElem?_append_right (by omega), List.getElem?_drop]
    congr 1
    omega
theorem Sq2.lo {n : Nat} {M M' : Mem} {d : D} {ds : List D} (h : Sq2 M d ds) (hn : M.length ≤ n) (x : Lo n M M') : Sq2 M' d ds := h.elim .inl fun ⟨k, e, h⟩ => .inr ⟨k, e, by rw [x.2 k (Nat.lt_of_lt_of_le (List.getElem?_eq_some_iff.mp h).1 hn)]; exact h⟩
theorem law_layers {w p n : Nat} {rows : List (List Pr)} {a0 a2 a3 a4 a5 a6 a7 a8 a9 a10 : Option D} {rd : D} {D0 : EndsD} {E : KE'} (hw : w ≤ 3) (hw1 : 1 ≤ w) (hnp : n ≤ p) :
    ∀ (Ls : List (List (List (List Int)))) (i : Nat) (st : List Int) (acc : List Pr) (y13 y14 y15 y16 y17 y18 y19 y20 : Option D) (M0 M : Mem),
    (∀ L ∈ Ls, L.length = 4 ∧ ∀ m ∈ L, m.length = w ∧ ∀ r ∈ m, Bd 5 r ∧ r.length = w) → st.length = w ∧ Bd 20 st → (∀ k, i ≤ k → k < i + Ls.length → RB w k rows) → Sq2 M0 rd (rows.map rowD) → M0.length ≤ n → Lo n M0 M → n ≤ M.length → M[p]? = some (.lst (acc.map prD)) → acc.length + Ls.length ≤ 100 →
    (∀ b13 b14 b15 b16 b17 b18 b19 b20 M', Lo n M M' → M'[p]? = some (.lst ((acc ++ (layGo w rows Ls i st).1).map prD)) → D0.nx [a0, some rd, a2, a3, a4, a5, a6, a7, a8, a9, a10, some (vI (layGo w rows Ls i st).2), some (.obj p), b13, b14, b15, b16, b17, b18, b19, b20, none, none, none, none] M') →
    forD (dGTup 2 (dGCons (dGN 13) (dGCons (dGN 14) dGNil))) tbL (fun _ => True) D0 E ((Ls.zipIdx i).map fun q => D.tup [.int (q.2 : Nat), lyD q.1]) [a0, some rd, a2, a3, a4, a5, a6, a7, a8, a9, a10, some (vI st), some (.obj p), y13, y14, y15, y16, y17, y18, y19, y20, none, none, none, none] M
  | [], i, st, acc, y13, y14, y15, y16, y17, y18, y19, y20, M0, M, hL, hst, hR, hrd, hn0, hlo, hnM, hp, hacc, h => by
    refine ⟨trivial, ?_⟩
    have := h y13 y14 y15 y16 y17 y18 y19 y20 M (Lo.refl _ _) (by simpa [layGo] using hp)
    simpa [layGo] using this
  | L :: Ls, i, st, acc, y13, y14, y15, y16, y17, y18, y19, y20, M0, M, hL, hst, hR, hrd, hn0, hlo, hnM, hp, hacc, h => by
    refine ⟨trivial, ?_⟩
    obtain ⟨h4, hLm⟩ := hL L (by simp)
    obtain ⟨A, K, W, X, rfl⟩ : ∃ A K W X, L = [A, K, W, X] := by
      match L, h4 with
      | [A, K, W, X], _ => exact ⟨A, K, W, X, rfl⟩
    have hp' := (List.getElem?_eq_some_iff.mp hp).1
    simp
    have hacc' : acc.length + Ls.length + 1 ≤ 100 := by simpa [Nat.add_assoc] using hacc
    refine law_turn (w := w) (acc := acc) hw hw1 hLm hst (hR i (Nat.le_refl _) (by simp)) (hrd.lo hn0 hlo) hp (by omega) fun b15 b16 b17 b18 b19 b20 M1 G x1 => ?_
    have hXl : X.length = w := (hLm X (by simp)).1
    have lo1 : Lo n M (M1.set p (.lst ((acc ++ [(timesI K st, timesI W st)]).map prD)) ++ G) := ((Lo.ext x1 hnM).tr (Lo.set M1 _ hnp)).tr (Lo.ext (Ext.app _ G) (by simp; exact Nat.le_trans hnM (Lo.ext x1 hnM).1))
    have p1 : (M1.set p (.lst ((acc ++ [(timesI K st, timesI W st)]).map prD)) ++ G)[p]? = some (.lst ((acc ++ [(timesI K st, timesI W st)]).map prD)) := by
      have hp1 : p < M1.length := Nat.lt_of_lt_of_le hp' (Lo.ext x1 hnM).1
      rw [List.getElem?_append_left (by simpa using hp1), List.getElem?_set_self hp1]
    refine law_layers hw hw1 hnp Ls (i + 1) _ (acc ++ [(timesI K st, timesI W st)]) _ _ b15 b16 b17 b18 b19 b20 M0 _ (fun L' h' => hL L' (List.mem_cons_of_mem _ h')) ⟨sumClip_len hst.1 ((times_len X _).trans hXl), sumClip_bd _ _⟩ (fun k k1 k2 => hR k (by omega) (by simp; omega)) hrd hn0 (hlo.tr lo1) (Nat.le_trans hnM lo1.1) p1 (by simp; omega) fun b13 b14 b15 b16 b17 b18 b19 b20 M' l' q' => ?_
    have := h b13 b14 b15 b16 b17 b18 b19 b20 M' (lo1.tr l') (by simpa [layGo] using q')
    simpa [layGo] using this
end Z8
set_option Elab.async false
set_option linter.all false
set_option maxRecDepth 100000
set_option maxHeartbeats 4000000
namespace Z8
open PySem PySem.Spec PyProof.Rows L2 GxR Gn Dl
theorem lenD_sq {M : Mem} {d : D} {ds : List D} {Q : KD} (h : Sq2 M d ds) (q : Q (.int (ds.length : Nat)) M) : lenD [d] M Q := by
  rcases h with rfl | ⟨n, rfl, hn⟩
  · exact q
  · exact .inl ⟨ds, hn, q⟩
theorem enumD_map {α : Type} (f : α → D) : ∀ (as : List α) (i : Nat), ((as.map f).zipIdx i).map (fun p => D.tup [.int (p.2 : Nat), p.1]) = (as.zipIdx i).map fun q => D.tup [.int (q.2 : Nat), f q.1]
  | [], _ => rfl
  | a :: as, i => by
    have := enumD_map f as (i + 1)
    simp only [List.map_cons, List.zipIdx_cons]
    rw [this]
def placeOf (N : Net) (k : Nat) : List Int := N.places.getD (k % N.places.length) []
theorem at_getD {α : Type} {f : α → D} {xs : List α} {k : Nat} (x0 : α) (h : k < xs.length) : atI (xs.map f) (k : Int) = some (f (xs.getD k x0)) := by
  rw [List.getD_eq_getElem?_getD, List.getElem?_eq_getElem h]
  exact atI_nat (by rw [List.getElem?_map, List.getElem?_eq_getElem h]; rfl)
theorem mem_getD' {α : Type} {xs : List α} {k : Nat} (x0 : α) (h : k < xs.length) : xs.getD k x0 ∈ xs := by
  rw [List.getD_eq_getElem?_getD, List.getElem?_eq_getElem h]
  exact List.getElem_mem h
theorem place_at (N : Net) (k : Nat) (h : N.places ≠ []) : atI (N.places.map vI) ((k : Int).fmod (N.places.length : Nat)) = some (vI (placeOf N k)) := by
  have hp : 0 < N.places.length := List.length_pos_iff.mpr h
  have e : (k : Int).fmod (N.places.length : Nat) = ((k % N.places.length : Nat) : Int) := by
    rw [Int.fmod_eq_emod_of_nonneg _ (by omega)]
    rfl
  rw [e]
  exact at_getD [] (Nat.mod_lt _ hp)
/-- the rows that a network has made so far -/
def RowsB (N : Net) (w : Nat) (rows : List (List Pr)) : Prop := rows.length ≤ 400 ∧ ∀ r ∈ rows, r.length = N.layers.length ∧ ∀ p ∈ r, (p.1.length = w ∧ Bd 310 p.1) ∧ (p.2.length = w ∧ Bd 310 p.2)
noncomputable def stepNet (N : Net) (w : Nat) (rows : List (List Pr)) (t : Int) : List Pr × List Int := layGo w rows N.layers 0 (sumClip (N.embeds.getD t.toNat []) (placeOf N rows.length))
theorem p__law_net_step {N : Net} {w : Nat} {rows : List (List Pr)} {rd : D} {t : Int} {M : Mem} {Q : KD} {E : KE'} (B : NetB N) (hw : N.w = w) (hR : RowsB N w rows) (hrd : Sq2 M rd (rows.map rowD)) (ht : 0 ≤ t ∧ t < N.many)
    (h : ∀ M', Ext M M' → Q (.tup [rowD (stepNet N w rows t).1, vI (stepNet N w rows t).2]) M') : sp__law_net_step [N.d, rd, .int t] M Q E := by
  have w3 : w ≤ 3 := by have := B.w3; omega
  have w1 : 1 ≤ w := by have := B.O.w1; omega
  have hel : t.toNat < N.embeds.length := by have := B.O.el; omega
  have htc : (t.toNat : Int) = t := by omega
  have eat : atI (N.embeds.map vI) t = some (vI (N.embeds.getD t.toNat [])) := by
    have := at_getD (f := vI) ([] : List Int) hel
    rw [htc] at this
    exact this
  have hp := B.O.p1
  have pm : placeOf N rows.length ∈ N.places := mem_getD' [] (Nat.mod_lt _ (List.length_pos_iff.mpr hp))
  have em : N.embeds.getD t.toNat [] ∈ N.embeds := mem_getD' [] hel
  have pl : (placeOf N rows.length).length = w := by have := B.O.pw _ pm; omega
  have elen : (N.embeds.getD t.toNat []).length = w := by have := B.O.ew _ em; omega
  simp [sp__law_net_step, r__law_net_step, Net.d]
  refine lenD_sq hrd ?_
  simp [mI]
  refine ⟨hp, _, place_at N rows.length hp, _, eat, ?_⟩
  simp only [vI, zipRd_tup, zipD_map]
  refine lcD_ex (fun p : Int × Int => D.tup [.int p.1, .int p.2]) (fun p => .int (p.1 + p.2)) ((N.embeds.getD t.toNat []).zip (placeOf N rows.length)) M (fun _ _ => trivial) (fun pp hpp Mx Qx xx kx => ?_) (by simp; omega) fun M1 x1 l1 => ?_
  · simp
    exact (by simpa using kx [])
  have l1' : M1[M.length]? = some (.lst ((((N.embeds.getD t.toNat []).zip (placeOf N rows.length)).map fun p => p.1 + p.2).map D.int)) := by rw [l1]; simp [Function.comp_def]
  refine p__law_clipped l1' (by simp; omega) fun G2 => ?_
  have x2 : Ext M (M1 ++ G2) := x1.tr (Ext.app _ _)
  have ef : (((N.embeds.getD t.toNat []).zip (placeOf N rows.length)).map fun p => p.1 + p.2).map clipI = sumClip (N.embeds.getD t.toNat []) (placeOf N rows.length) := by unfold sumClip; simp [Function.comp_def]
  rw [ef]
  generalize M1 ++ G2 = M2 at x2 ⊢
  refine ⟨_, _, ⟨rfl, rfl⟩, ?_⟩
  have l3 : (M2 ++ [Cell.lst []])[M2.length]? = some (.lst (([] : List Pr).map prD)) := by simp
  unfold enumD
  rw [enumD_map]
  have hlyr : ∀ L ∈ N.layers, L.length = 4 ∧ ∀ m ∈ L, m.length = w ∧ ∀ r ∈ m, Bd 5 r ∧ r.length = w := fun L hL => ⟨(B.O.ly L hL).1, fun m hm => by
    have q := (B.O.ly L hL).2 m hm
    exact ⟨by have := q.1; omega, fun r hr => ⟨B.lb L hL m hm r hr, by have := q.2 r hr; omega⟩⟩⟩
  refine law_layers (w := w) (p := M2.length) (n := M2.length) (rows := rows) w3 w1 (Nat.le_refl _) N.layers 0 (sumClip (N.embeds.getD t.toNat []) (placeOf N rows.length)) [] _ _ _ _ _ _ _ _ M2 (M2 ++ [Cell.lst []]) hlyr ⟨sumClip_len elen pl, sumClip_bd _ _⟩ (fun k _ hk => ⟨hR.1, fun r hr => ⟨by have := (hR.2 r hr).1; omega, (hR.2 r hr).2⟩⟩) (hrd.ext x2) (Nat.le_refl _) (Lo.ext (Ext.app _ _) (Nat.le_refl _)) (by simp) l3 (by have := B.ll; simp; omega) fun b13 b14 b15 b16 b17 b18 b19 b20 M' lo p' => ?_
  have x4 : Ext M M' := x2.tr (ext_of ((Lo.ext (Ext.app M2 [Cell.lst []]) (Nat.le_refl _)).tr lo))
  simp [p']
  exact ⟨small_le (n := 2) (by decide), by simpa [stepNet, rowD] using h M' x4⟩
end Z8
set_option Elab.async false
set_option linter.all false
set_option maxRecDepth 100000
set_option maxHeartbeats 4000000
namespace Z8
open PySem PySem.Spec PyProof.Rows L2 GxR Gn Dl
def LyOk (w : Nat) (Ls : List (List (List (List Int)))) : Prop := ∀ L ∈ Ls, L.length = 4 ∧ ∀ m ∈ L, m.length = w ∧ ∀ r ∈ m, Bd 5 r ∧ r.length = w
theorem lay_ok {w : Nat} {rows : List (List Pr)} (hw : w ≤ 3) : ∀ (Ls : List (List (List (List Int)))) (i : Nat) (st : List Int), LyOk w Ls → st.length = w ∧ Bd 20 st →
    (layGo w rows Ls i st).1.length = Ls.length ∧ (∀ p ∈ (layGo w rows Ls i st).1, (p.1.length = w ∧ Bd 300 p.1) ∧ (p.2.length = w ∧ Bd 300 p.2)) ∧ (layGo w rows Ls i st).2.length = w ∧ Bd 20 (layGo w rows Ls i st).2
  | [], i, st, _, hs => by simp [layGo]; exact hs
  | L :: Ls, i, st, hL, hs => by
    obtain ⟨h4, hLm⟩ := hL L (by simp)
    obtain ⟨A, K, W, X, rfl⟩ : ∃ A K W X, L = [A, K, W, X] := by
      match L, h4 with
      | [A, K, W, X], _ => exact ⟨A, K, W, X, rfl⟩
    have hX := hLm X (by simp)
    have hK := hLm K (by simp)
    have hW := hLm W (by simp)
    have b3 : ∀ {m : List (List Int)}, (m.length = w ∧ ∀ r ∈ m, Bd 5 r ∧ r.length = w) → ∀ r ∈ m, Bd 5 r ∧ r.length ≤ 3 := fun h r hr => ⟨(h.2 r hr).1, by rw [(h.2 r hr).2]; exact hw⟩
    obtain ⟨h1, h2, h3, h4⟩ := lay_ok (rows := rows) hw Ls (i + 1) (sumClip st (timesI X (nearOf A K W rows i w st))) (fun L' h' => hL L' (List.mem_cons_of_mem _ h')) ⟨sumClip_len hs.1 ((times_len X _).trans hX.1), sumClip_bd _ _⟩
    refine ⟨by simp [layGo, h1], fun p hp => ?_, by simpa [layGo] using h3, by simpa [layGo] using h4⟩
    simp only [layGo, List.mem_cons] at hp
    rcases hp with rfl | hp
    · exact ⟨⟨(times_len K st).trans hK.1, times_bd (b3 hK) hs.2⟩, (times_len W st).trans hW.1, times_bd (b3 hW) hs.2⟩
    · exact h2 p hp
theorem NetB.ly {N : Net} {w : Nat} (B : NetB N) (hw : N.w = w) : LyOk w N.layers := fun L hL => ⟨(B.O.ly L hL).1, fun m hm => by
    have q := (B.O.ly L hL).2 m hm
    exact ⟨by have := q.1; omega, fun r hr => ⟨B.lb L hL m hm r hr, by have := q.2 r hr; omega⟩⟩⟩
theorem NetB.start {N : Net} {w : Nat} (B : NetB N) (hw : N.w = w) (k : Nat) {t : Int} (ht : 0 ≤ t ∧ t < N.many) : (sumClip (N.embeds.getD t.toNat []) (placeOf N k)).length = w ∧ Bd 20 (sumClip (N.embeds.getD t.toNat []) (placeOf N k)) := by
  have hel : t.toNat < N.embeds.length := by have := B.O.el; omega
  have pm : placeOf N k ∈ N.places := mem_getD' [] (Nat.mod_lt _ (List.length_pos_iff.mpr B.O.p1))
  have em : N.embeds.getD t.toNat [] ∈ N.embeds := mem_getD' [] hel
  exact ⟨sumClip_len (by have := B.O.ew _ em; omega) (by have := B.O.pw _ pm; omega), sumClip_bd _ _⟩
theorem step_ok {N : Net} {w : Nat} {rows : List (List Pr)} {t : Int} (B : NetB N) (hw : N.w = w) (ht : 0 ≤ t ∧ t < N.many) :
    (stepNet N w rows t).1.length = N.layers.length ∧ (∀ p ∈ (stepNet N w rows t).1, (p.1.length = w ∧ Bd 300 p.1) ∧ (p.2.length = w ∧ Bd 300 p.2)) ∧ (stepNet N w rows t).2.length = w ∧ Bd 20 (stepNet N w rows t).2 :=
  lay_ok (by have := B.w3; omega) N.layers 0 _ (B.ly hw) (B.start hw rows.length ht)
/-- the rows after tokens -/
noncomputable def rowsNet (N : Net) (w : Nat) : List Int → List (List Pr) → List (List Pr)
  | [], acc => acc
  | t :: ts, acc => rowsNet N w ts (acc ++ [(stepNet N w acc t).1])
theorem RowsB.snoc {N : Net} {w : Nat} {rows : List (List Pr)} {t : Int} (h : RowsB N w rows) (hl : rows.length < 400) (B : NetB N) (hw : N.w = w) (ht : 0 ≤ t ∧ t < N.many) : RowsB N w (rows ++ [(stepNet N w rows t).1]) := by
  refine ⟨by simp; omega, fun r hr => ?_⟩
  rcases List.mem_append.mp hr with hr | hr
  · exact h.2 r hr
  · rw [List.mem_singleton.mp hr]
    have := step_ok (rows := rows) B hw ht
    exact ⟨this.1, fun p hp => ⟨⟨(this.2.1 p hp).1.1, bd310 (this.2.1 p hp).1.2⟩, (this.2.1 p hp).2.1, bd310 (this.2.1 p hp).2.2⟩⟩
theorem rows_go {N : Net} {w p n : Nat} {a1 : Option D} {D0 : EndsD} {E : KE'} (B : NetB N) (hw : N.w = w) (hnp : n ≤ p) (alive : Mem → Prop) (al : ∀ M, alive M) : ∀ (ts : List Int) (acc : List (List Pr)) (y : Option D) (M : Mem), TokOk N.many ts → RowsB N w acc → acc.length + ts.length ≤ 300 → n ≤ M.length → M[p]? = some (.lst (acc.map rowD)) →
    (∀ y M', Lo n M M' → M'[p]? = some (.lst ((rowsNet N w ts acc).map rowD)) → D0.nx [some N.d, a1, some (.obj p), y] M') →
    forD (dGN 3) (dDrop (dBM isLst appendD (dVar 2) (dCons (dIf (dTest (dOp (eqA false) (dOp ixA (dVar 0) (dC (.int 0))) (dC (.str "window")))) (dTup (dCons (dVar 3) (dNil))) (dOp ixA (dCall 3 sp__law_net_step (dCons (dVar 0) (dCons (dVar 2) (dCons (dVar 3) (dNil))))) (dC (.int 0)))) (dNil)))) alive D0 E (ts.map D.int) [some N.d, a1, some (.obj p), y] M
  | [], acc, y, M, ht, hR, hl, hn, hp, h => ⟨al M, h y M (Lo.refl _ _) hp⟩
  | t :: ts, acc, y, M, ht, hR, hl, hn, hp, h => by
    have hp' := (List.getElem?_eq_some_iff.mp hp).1
    have hl' : acc.length + ts.length + 1 ≤ 300 := by simpa [Nat.add_assoc] using hl
    have htk := ht t (by simp)
    refine ⟨al M, ?_⟩
    simp [isLst, hp, Net.d, net_at0, net_win]
    refine p__law_net_step (N := N) (w := w) (rows := acc) B hw hR (.inr ⟨p, rfl, hp⟩) htk fun M1 x1 => ?_
    have p1 := x1.at hp
    have hp1 := (List.getElem?_eq_some_iff.mp p1).1
    have hz : (acc.map rowD).length + 1 ≤ sizeLine := small_le (by rw [List.length_map]; omega)
    refine ixA_tup.mpr ⟨_, rfl, _, p1, hz, ?_⟩
    have es : acc.map rowD ++ [rowD (stepNet N w acc t).1] = (acc ++ [(stepNet N w acc t).1]).map rowD := by simp
    rw [es]
    have lo1 : Lo n M (M1.set p (.lst ((acc ++ [(stepNet N w acc t).1]).map rowD))) := (Lo.ext x1 hn).tr (Lo.set M1 _ hnp)
    have := rows_go B hw hnp alive al ts (acc ++ [(stepNet N w acc t).1]) (some (.int t)) (M1.set p (.lst ((acc ++ [(stepNet N w acc t).1]).map rowD))) (fun x hx => ht x (List.mem_cons_of_mem _ hx)) (hR.snoc (by omega) B hw htk) (by simp; omega) (Nat.le_trans hn lo1.1) (List.getElem?_set_self hp1) (D0 := D0) (E := E) (a1 := a1) (fun y M' l' q' => h y M' (lo1.tr l') q')
    simpa [Net.d] using this
theorem rowsB0 (N : Net) (w : Nat) : RowsB N w [] := ⟨by simp, by simp⟩
theorem p__law_rows {N : Net} {w : Nat} {ts : List Int} {M : Mem} {Q : KD} {E : KE'} (B : NetB N) (hw : N.w = w) (ht : TokOk N.many ts) (hl : ts.length ≤ 300) (h : ∀ G, Q (rowsT (rowsNet N w ts [])) (M ++ G)) : sp__law_rows [N.d, vI ts] M Q E := by
  simp [sp__law_rows, r__law_rows, vI]
  refine rows_go (w := w) (n := M.length) B hw (Nat.le_refl _) (fun _ => True) (fun _ => trivial) ts [] none _ ht (rowsB0 N w) (by simpa using hl) (by simp) (by simp) fun y M' lo p' => ?_
  obtain ⟨G, rfl⟩ := ext_of ((Lo.ext (Ext.app M [Cell.lst []]) (Nat.le_refl _)).tr lo)
  simp [p']
  exact h G
theorem p__law_stepped {N : Net} {w : Nat} {rows : List (List Pr)} {t : Int} {M : Mem} {Q : KD} {E : KE'} (B : NetB N) (hw : N.w = w) (hR : RowsB N w rows) (ht : 0 ≤ t ∧ t < N.many)
    (h : ∀ G, Q (.tup [rowD (stepNet N w rows t).1, vI (shares (timesI N.outs (stepNet N w rows t).2))]) (M ++ G)) : sp__law_stepped [N.d, rowsT rows, .int t] M Q E := by
  simp [sp__law_stepped, r__law_stepped, Net.d, net_at0, net_win]
  refine p__law_net_step (N := N) (w := w) (rows := rows) B hw hR (.inl rfl) ht fun M1 x1 => ?_
  have st := (step_ok (rows := rows) B hw ht).2.2
  have hQ := x1.q (P := fun M => Q (.tup [rowD (stepNet N w rows t).1, vI (shares (timesI N.outs (stepNet N w rows t).2))]) M) h
  simp
  refine p__law_net_weights B st.2 fun G => ?_
  exact ⟨small_le (n := 2) (by decide), hQ G⟩
end Z8
set_option Elab.async false
set_option linter.all false
set_option maxRecDepth 100000
set_option maxHeartbeats 4000000
namespace Z8
open PySem PySem.Spec PyProof.Rows L2 GxR Gn Dl
/-- what the program's mixture is to be (wants the rule for zip of many) -/
def MixOk (w : Nat) : Prop := ∀ (asked : List Int) (pairs : List Pr) (pi : Nat) (M : Mem) (Q : KD) (E : KE'), M[pi]? = some (.lst (pairs.map prD)) → pairs ≠ [] → pairs.length ≤ 500 → asked.length = w ∧ Bd 310 asked → (∀ p ∈ pairs, (p.1.length = w ∧ Bd 310 p.1) ∧ (p.2.length = w ∧ Bd 310 p.2)) →
  (∀ G, Q (vI (mixI (shares (pairs.map fun p => dotI asked p.1)) (pairs.map (·.2)) w)) (M ++ G)) → sp__mixed [vI asked, .obj pi] M Q E
def pairsOf (rows : List (List Pr)) (i : Nat) : List Pr := rows.map fun r => r.getD i ([], [])
def tbP : TSd := (dSeq (dSet 15 (dTup (dCons (dCall 2 sp__times (dCons (dVar 12) (dCons (dVar 8) (dNil)))) (dCons (dCall 2 sp__times (dCons (dVar 13) (dCons (dVar 8) (dNil)))) (dNil))))) (dSeq (dDrop (dBM isLst appendD (dVar 9) (dCons (dVar 15) (dNil)))) (dSeq (dSet 16 (dOp addD (dLc (dWalk (dVar 1)) (dGN 18) (dYes) (dOp ixA (dVar 18) (dVar 10)) [18]) (dLst (dCons (dVar 15) (dNil))))) (dSeq (dSet 17 (dCall 2 sp__mixed (dCons (dCall 2 sp__times (dCons (dVar 11) (dCons (dVar 8) (dNil)))) (dCons (dVar 16) (dNil))))) (dSet 8 (dCall 2 sp__clipped_sum (dCons (dVar 8) (dCons (dCall 2 sp__times (dCons (dVar 14) (dCons (dVar 17) (dNil)))) (dNil)))))))))
theorem prog_turn {w i p : Nat} {rows : List (List Pr)} {A K W X : List (List Int)} {st : List Int} {acc : List Pr} {a0 a2 a3 a4 a5 a6 a7 y15 y16 y17 : Option D} {M : Mem} {D0 : EndsD} {E : KE'} (hmix : MixOk w)
    (hw : w ≤ 3) (hw1 : 1 ≤ w) (hL : ∀ m ∈ [A, K, W, X], m.length = w ∧ ∀ r ∈ m, Bd 5 r ∧ r.length = w) (hst : st.length = w ∧ Bd 20 st) (hR : RB w i rows) (hp : M[p]? = some (.lst (acc.map prD))) (hacc : acc.length ≤ 100)
    (hq : ∀ b15 b16 b17 M1 G, Ext M M1 → D0.nx [a0, some (rowsT rows), a2, a3, a4, a5, a6, a7, some (vI (sumClip st (timesI X (nearOf A K W rows i w st)))), some (.obj p), some (.int i), some (mI A), some (mI K), some (mI W), some (mI X), b15, b16, b17, none] (M1.set p (.lst ((acc ++ [(timesI K st, timesI W st)]).map prD)) ++ G)) :
    tbP D0 E [a0, some (rowsT rows), a2, a3, a4, a5, a6, a7, some (vI st), some (.obj p), some (.int i), some (mI A), some (mI K), some (mI W), some (mI X), y15, y16, y17, none] M := by
  have hA := hL A (by simp)
  have hK := hL K (by simp)
  have hW := hL W (by simp)
  have hX := hL X (by simp)
  have b3 : ∀ {m : List (List Int)}, (m.length = w ∧ ∀ r ∈ m, Bd 5 r ∧ r.length = w) → ∀ r ∈ m, Bd 5 r ∧ r.length ≤ 3 := fun h r hr => ⟨(h.2 r hr).1, by rw [(h.2 r hr).2]; exact hw⟩
  have b4 : ∀ {m : List (List Int)}, (m.length = w ∧ ∀ r ∈ m, Bd 5 r ∧ r.length = w) → ∀ r ∈ m, Bd 5 r ∧ r.length ≤ 1000 := fun h r hr => ⟨(h.2 r hr).1, by rw [(h.2 r hr).2]; omega⟩
  simp [tbP]
  refine p__times (b4 hK) hst.2 (by decide) (by decide) (by omega) fun G1 => ?_
  refine p__times (b4 hW) hst.2 (by decide) (by decide) (by omega) fun G2 => ?_
  have x2 : Ext M (M ++ G1 ++ G2) := (Ext.app M G1).tr (Ext.app _ G2)
  generalize M ++ G1 ++ G2 = M2 at x2 ⊢
  have p2 := x2.at hp
  have hp2 := (List.getElem?_eq_some_iff.mp p2).1
  have hz2 : (acc.map prD).length + 1 ≤ sizeLine := small_le (by rw [List.length_map]; omega)
  refine ⟨small_le (n := 2) (by decide), ⟨p, _, rfl, p2⟩, _, p2, hz2, ?_⟩
  have es : acc.map prD ++ [D.tup [vI (timesI K st), vI (timesI W st)]] = (acc ++ [(timesI K st, timesI W st)]).map prD := by simp [prD]
  rw [es]
  have ep : D.tup [vI (timesI K st), vI (timesI W st)] = prD (timesI K st, timesI W st) := rfl
  rw [ep]
  obtain ⟨M3, h3⟩ : ∃ M3, M3 = M2.set p (.lst ((acc ++ [(timesI K st, timesI W st)]).map prD)) := ⟨_, rfl⟩
  rw [← h3]
  simp only [rowsT, seqD_tup]
  refine lcD_ex rowD (fun r => prD (r.getD i ([], []))) rows M3 (fun _ _ => trivial) (fun r hr Mx Qx xx kx => ?_) (by have := hR.1; omega) fun M4 x4 l4 => ?_
  · obtain ⟨pr, g1, g2, g3⟩ := hR.get hr
    have := kx []
    rw [g2] at this
    simp [rowD, row_at g1]
    simpa using this
  have z1 : 1 ≤ sizeLine := small_le (n := 1) (by decide)
  have l4' : M4[M3.length]? = some (.lst ((pairsOf rows i).map prD)) := by rw [l4]; simp [pairsOf, Function.comp_def]
  have hrl := hR.1
  have hpl : (pairsOf rows i).length = rows.length := List.length_map ..
  simp [z1, l4', List.getElem?_append_left (List.getElem?_eq_some_iff.mp l4').1]
  refine ⟨small_le (n := (pairsOf rows i).length + 1) (by omega), ?_⟩
  have ek : (pairsOf rows i).map prD ++ [prD (timesI K st, timesI W st)] = (pairsOf rows i ++ [(timesI K st, timesI W st)]).map prD := by simp
  rw [ek]
  obtain ⟨ps, hps⟩ : ∃ ps, ps = pairsOf rows i ++ [(timesI K st, timesI W st)] := ⟨_, rfl⟩
  rw [← hps]
  obtain ⟨nk, hnk⟩ : ∃ nk, nk = M4.length + 1 := ⟨_, rfl⟩
  have l5 : (M4 ++ [Cell.lst [prD (timesI K st, timesI W st)], Cell.lst (ps.map prD)])[nk]? = some (.lst (ps.map prD)) := by rw [hnk]; simp
  have x5 : Ext M3 (M4 ++ [Cell.lst [prD (timesI K st, timesI W st)], Cell.lst (ps.map prD)]) := x4.tr (Ext.app _ _)
  rw [← hnk]
  generalize M4 ++ [Cell.lst [prD (timesI K st, timesI W st)], Cell.lst (ps.map prD)] = M5 at l5 x5 ⊢
  refine p__times (b4 hA) hst.2 (by decide) (by decide) (by omega) fun G6 => ?_
  have x6 : Ext M5 (M5 ++ G6) := Ext.app _ _
  generalize M5 ++ G6 = M6 at x6 ⊢
  have hpb : ∀ q ∈ ps, (q.1.length = w ∧ Bd 310 q.1) ∧ (q.2.length = w ∧ Bd 310 q.2) := fun q hq' => by
    rw [hps] at hq'
    rcases List.mem_append.mp hq' with hk | hk
    · obtain ⟨r, hr, rfl⟩ := List.mem_map.mp hk
      obtain ⟨pr, g1, g2, g3⟩ := hR.get hr
      rw [g2]
      exact (hR.2 r hr).2 pr g3
    · rw [List.mem_singleton.mp hk]
      exact ⟨⟨(times_len K st).trans hK.1, times_bd' (b3 hK) hst.2⟩, (times_len W st).trans hW.1, times_bd' (b3 hW) hst.2⟩
  have hps0 : ps ≠ [] := by rw [hps]; simp
  have hpn : ps.length ≤ 500 := by rw [hps]; simp [hpl]; omega
  refine hmix (timesI A st) ps nk M6 _ E (x6.at l5) hps0 hpn ⟨(times_len A st).trans hA.1, times_bd' (b3 hA) hst.2⟩ hpb fun G7 => ?_
  have enear : mixI (shares (ps.map fun p => dotI (timesI A st) p.1)) (ps.map (·.2)) w = nearOf A K W rows i w st := by
    rw [hps]
    unfold nearOf keysOf worthsOf pairsOf
    simp [Function.comp_def]
  have hnb : Bd 10000000 (nearOf A K W rows i w st) := by
    rw [← enear]
    refine mix_bd (shares_bd (fun e => hps0 (List.map_eq_nil_iff.mp e))) (fun e => ?_) ?_ (fun r hr => ?_)
    · have := shares_len (ps.map fun p => dotI (timesI A st) p.1)
      rw [e] at this
      simp at this
      exact hps0 (List.eq_nil_of_length_eq_zero this.symm)
    · rw [shares_len]; simpa using hpn
    · obtain ⟨q, hq', rfl⟩ := List.mem_map.mp hr
      exact (hpb q hq').2
  rw [enear]
  have x7 : Ext M3 (M6 ++ G7) := (x5.tr x6).tr (Ext.app _ _)
  generalize M6 ++ G7 = M7 at x7 ⊢
  refine p__times (b4 hX) hnb (by decide) (by decide) (by omega) fun G8 => ?_
  refine p__clipped_sum (by omega) fun G9 => ?_
  obtain ⟨G, rfl⟩ := x7
  rw [h3]
  have := hq (some (prD (timesI K st, timesI W st))) (some (.obj nk)) (some (vI (nearOf A K W rows i w st))) M2 (G ++ G8 ++ G9) x2
  simpa [rowsT] using this
end Z8
set_option Elab.async false
set_option linter.all false
set_option maxRecDepth 100000
set_option maxHeartbeats 4000000
namespace Z8
open PySem PySem.Spec PyProof.Rows L2 GxR Gn Dl
theorem dGTup_ly {t : TGsd} {A K W X : List (List Int)} {S : Sl} {M : Mem} {Q : Sl → Mem → Prop} : dGTup 4 t (lyD [A, K, W, X]) S M Q ↔ t [mI A, mI K, mI W, mI X] S M Q :=
  ⟨fun ⟨_, e, _, h⟩ => by cases e; exact h, fun h => ⟨_, rfl, rfl, h⟩⟩
theorem prog_layers {w p n : Nat} {rows : List (List Pr)} {a0 a2 a3 a4 a5 a6 a7 : Option D} {D0 : EndsD} {E : KE'} (hmix : MixOk w) (hw : w ≤ 3) (hw1 : 1 ≤ w) (hnp : n ≤ p) :
    ∀ (Ls : List (List (List (List Int)))) (i : Nat) (st : List Int) (acc : List Pr) (y10 y11 y12 y13 y14 y15 y16 y17 : Option D) (M : Mem),
    LyOk w Ls → st.length = w ∧ Bd 20 st → (∀ k, i ≤ k → k < i + Ls.length → RB w k rows) → n ≤ M.length → M[p]? = some (.lst (acc.map prD)) → acc.length + Ls.length ≤ 100 →
    (∀ b10 b11 b12 b13 b14 b15 b16 b17 M', Lo n M M' → M'[p]? = some (.lst ((acc ++ (layGo w rows Ls i st).1).map prD)) → D0.nx [a0, some (rowsT rows), a2, a3, a4, a5, a6, a7, some (vI (layGo w rows Ls i st).2), some (.obj p), b10, b11, b12, b13, b14, b15, b16, b17, none] M') →
    forD (dGTup 2 (dGCons (dGN 10) (dGCons (dGTup 4 (dGCons (dGN 11) (dGCons (dGN 12) (dGCons (dGN 13) (dGCons (dGN 14) dGNil))))) dGNil))) tbP (fun _ => True) D0 E ((Ls.zipIdx i).map fun q => D.tup [.int (q.2 : Nat), lyD q.1]) [a0, some (rowsT rows), a2, a3, a4, a5, a6, a7, some (vI st), some (.obj p), y10, y11, y12, y13, y14, y15, y16, y17, none] M
  | [], i, st, acc, y10, y11, y12, y13, y14, y15, y16, y17, M, hL, hst, hR, hnM, hp, hacc, h => by
    refine ⟨trivial, ?_⟩
    have := h y10 y11 y12 y13 y14 y15 y16 y17 M (Lo.refl _ _) (by simpa [layGo] using hp)
    simpa [layGo] using this
  | L :: Ls, i, st, acc, y10, y11, y12, y13, y14, y15, y16, y17, M, hL, hst, hR, hnM, hp, hacc, h => by
    refine ⟨trivial, ?_⟩
    obtain ⟨h4, hLm⟩ := hL L (by simp)
    obtain ⟨A, K, W, X, rfl⟩ : ∃ A K W X, L = [A, K, W, X] := by
      match L, h4 with
      | [A, K, W, X], _ => exact ⟨A, K, W, X, rfl⟩
    have hp' := (List.getElem?_eq_some_iff.mp hp).1
    simp [dGTup_ly]
    have hacc' : acc.length + Ls.length + 1 ≤ 100 := by simpa [Nat.add_assoc] using hacc
    refine prog_turn (w := w) (acc := acc) hmix hw hw1 hLm hst (hR i (Nat.le_refl _) (by simp)) hp (by omega) fun b15 b16 b17 M1 G x1 => ?_
    have hXl : X.length = w := (hLm X (by simp)).1
    have lo1 : Lo n M (M1.set p (.lst ((acc ++ [(timesI K st, timesI W st)]).map prD)) ++ G) := ((Lo.ext x1 hnM).tr (Lo.set M1 _ hnp)).tr (Lo.ext (Ext.app _ G) (by simp; exact Nat.le_trans hnM (Lo.ext x1 hnM).1))
    have p1 : (M1.set p (.lst ((acc ++ [(timesI K st, timesI W st)]).map prD)) ++ G)[p]? = some (.lst ((acc ++ [(timesI K st, timesI W st)]).map prD)) := by
      have hp1 : p < M1.length := Nat.lt_of_lt_of_le hp' (Lo.ext x1 hnM).1
      rw [List.getElem?_append_left (by simpa using hp1), List.getElem?_set_self hp1]
    refine prog_layers hmix hw hw1 hnp Ls (i + 1) _ (acc ++ [(timesI K st, timesI W st)]) _ _ _ _ _ b15 b16 b17 _ (fun L' h' => hL L' (List.mem_cons_of_mem _ h')) ⟨sumClip_len hst.1 ((times_len X _).trans hXl), sumClip_bd _ _⟩ (fun k k1 k2 => hR k (by omega) (by simp; omega)) (Nat.le_trans hnM lo1.1) p1 (by simp; omega) fun b10 b11 b12 b13 b14 b15 b16 b17 M' l' q' => ?_
    have := h b10 b11 b12 b13 b14 b15 b16 b17 M' (lo1.tr l') (by simpa [layGo] using q')
    simpa [layGo] using this
theorem p__network_step {N : Net} {w : Nat} {rows : List (List Pr)} {t : Int} {M : Mem} {Q : KD} {E : KE'} (hmix : MixOk w) (B : NetB N) (hw : N.w = w) (hR : RowsB N w rows) (ht : 0 ≤ t ∧ t < N.many)
    (h : ∀ G, Q (.tup [rowD (stepNet N w rows t).1, vI (shares (timesI N.outs (stepNet N w rows t).2))]) (M ++ G)) : sp__network_step [N.d, rowsT rows, .int t] M Q E := by
  have w3 : w ≤ 3 := by have := B.w3; omega
  have w1 : 1 ≤ w := by have := B.O.w1; omega
  have hel : t.toNat < N.embeds.length := by have := B.O.el; omega
  have htc : (t.toNat : Int) = t := by omega
  have eat : atI (N.embeds.map vI) t = some (vI (N.embeds.getD t.toNat [])) := by
    have := at_getD (f := vI) ([] : List Int) hel
    rw [htc] at this
    exact this
  have hp := B.O.p1
  have pm : placeOf N rows.length ∈ N.places := mem_getD' [] (Nat.mod_lt _ (List.length_pos_iff.mpr hp))
  have em : N.embeds.getD t.toNat [] ∈ N.embeds := mem_getD' [] hel
  have pl : (placeOf N rows.length).length = w := by have := B.O.pw _ pm; omega
  have elen : (N.embeds.getD t.toNat []).length = w := by have := B.O.ew _ em; omega
  simp [sp__network_step, r__network_step, Net.d, rowsT]
  simp [mI]
  refine ⟨_, eat, hp, _, place_at N rows.length hp, ?_⟩
  refine p__clipped_sum (by omega) fun G1 => ?_
  have x1 : Ext M (M ++ G1) := Ext.app _ _
  generalize M ++ G1 = M1 at x1 ⊢
  have st := step_ok (rows := rows) B hw ht
  have hol : N.outs.length ≤ 5 := by have := B.O.ol; have := B.m5; omega
  have hne : timesI N.outs (stepNet N w rows t).2 ≠ [] := fun e => by
    have h1 := B.O.ol
    have h2 := B.O.m2
    have := times_len N.outs (stepNet N w rows t).2
    rw [e] at this
    simp at this
    omega
  unfold enumD
  rw [enumD_map]
  have l2 : (M1 ++ [Cell.lst []])[M1.length]? = some (.lst (([] : List Pr).map prD)) := by simp
  refine prog_layers hmix (w := w) (p := M1.length) (n := M1.length) (rows := rows) w3 w1 (Nat.le_refl _) N.layers 0 (sumClip (N.embeds.getD t.toNat []) (placeOf N rows.length)) [] _ _ _ _ _ _ _ _ (M1 ++ [Cell.lst []]) (B.ly hw) ⟨sumClip_len elen pl, sumClip_bd _ _⟩ (fun k _ hk => ⟨hR.1, fun r hr => ⟨by have := (hR.2 r hr).1; omega, (hR.2 r hr).2⟩⟩) (by simp) l2 (by have := B.ll; simp; omega) fun b10 b11 b12 b13 b14 b15 b16 b17 M' lo p' => ?_
  have x4 : Ext M M' := x1.tr (ext_of ((Lo.ext (Ext.app M1 [Cell.lst []]) (Nat.le_refl _)).tr lo))
  simp [p']
  have hQ := x4.q (P := fun M => Q (.tup [rowD (stepNet N w rows t).1, vI (shares (timesI N.outs (stepNet N w rows t).2))]) M) h
  refine p__times (rows := N.outs) (B := 5) (C := 20) (fun r hr => ⟨B.ob r hr, by have := B.O.ow r hr; omega⟩) st.2.2.2 (by decide) (by decide) (by omega) fun G2 => ?_
  refine p__shares_t (List.length_pos_iff.mpr hne) (by rw [times_len]; omega) fun m hm hy G3 => ?_
  have em : m = maxI (timesI N.outs (stepNet N w rows t).2) := maxI_eq ⟨hm, hy⟩
  refine ⟨small_le (n := 2) (by decide), ?_⟩
  have := hQ (G2 ++ G3)
  rw [← List.append_assoc] at this
  subst em
  simpa [stepNet, shares, rowD] using this
end Z8
set_option Elab.async false
set_option linter.all false
set_option maxRecDepth 100000
set_option maxHeartbeats 4000000
namespace Z8
open PySem PySem.Spec PyProof.Rows L2 GxR Gn Dl
theorem p_next_row {N : Net} {w : Nat} {rows : List (List Pr)} {t : Int} {M : Mem} {Q : KD} {E : KE'} (hmix : MixOk w) (B : NetB N) (hw : N.w = w) (hR : RowsB N w rows) (ht : 0 ≤ t ∧ t < N.many)
    (h : ∀ G, Q (.tup [rowD (stepNet N w rows t).1, vI (shares (timesI N.outs (stepNet N w rows t).2))]) (M ++ G)) : sp_next_row [N.d, rowsT rows, .int t] M Q E := by
  simp [sp_next_row, r_next_row, Net.d, net_at0, net_win]
  exact p__network_step (N := N) hmix B hw hR ht h
theorem rows_after_go {N : Net} {w : Nat} {a1 : Option D} {D0 : EndsD} {E : KE'} (hmix : MixOk w) (B : NetB N) (hw : N.w = w) : ∀ (ts : List Int) (acc : List (List Pr)) (y3 y4 : Option D) (M : Mem), TokOk N.many ts → RowsB N w acc → acc.length + ts.length ≤ 300 →
    (∀ y3 y4 M', Ext M M' → D0.nx [some N.d, a1, some (rowsT (rowsNet N w ts acc)), y3, y4] M') →
    forD (dGN 3) (dSeq (dSet 4 (dOp ixA (dCall 3 sp_next_row (dCons (dVar 0) (dCons (dVar 2) (dCons (dVar 3) (dNil))))) (dC (.int 0)))) (dSet 2 (dTup (dStar (dVar 2) (dCons (dVar 4) (dNil)))))) (fun _ => True) D0 E (ts.map D.int) [some N.d, a1, some (rowsT acc), y3, y4] M
  | [], acc, y3, y4, M, ht, hR, hl, h => ⟨trivial, h y3 y4 M (Ext.refl M)⟩
  | t :: ts, acc, y3, y4, M, ht, hR, hl, h => by
    have hl' : acc.length + ts.length + 1 ≤ 300 := by simpa [Nat.add_assoc] using hl
    have htk := ht t (by simp)
    refine ⟨trivial, ?_⟩
    simp
    refine p_next_row hmix B hw hR htk fun G => ?_
    refine ixA_tup.mpr ⟨_, rfl, ?_⟩
    simp [rowsT]
    refine ⟨small_le (n := acc.length + 1) (by omega), ?_⟩
    have es : acc.map rowD ++ [rowD (stepNet N w acc t).1] = (acc ++ [(stepNet N w acc t).1]).map rowD := by simp
    rw [es]
    exact rows_after_go hmix B hw ts (acc ++ [(stepNet N w acc t).1]) _ _ (M ++ G) (fun x hx => ht x (List.mem_cons_of_mem _ hx)) (hR.snoc (by omega) B hw htk) (by simp; omega) fun y3 y4 M' x => h y3 y4 M' ((Ext.app M G).tr x)
theorem p_rows_after {N : Net} {w : Nat} {ts : List Int} {M : Mem} {Q : KD} {E : KE'} (hmix : MixOk w) (B : NetB N) (hw : N.w = w) (ht : TokOk N.many ts) (hl : ts.length ≤ 300) (h : ∀ G, Q (rowsT (rowsNet N w ts [])) (M ++ G)) : sp_rows_after [N.d, vI ts] M Q E := by
  simp [sp_rows_after, r_rows_after, vI]
  refine rows_after_go hmix B hw ts [] none none M ht (rowsB0 N w) (by simpa using hl) fun y3 y4 M' x => ?_
  obtain ⟨G, rfl⟩ := x
  simp
  exact h G
theorem rows_ok {N : Net} {w : Nat} (B : NetB N) (hw : N.w = w) : ∀ (ts : List Int) (acc : List (List Pr)), TokOk N.many ts → RowsB N w acc → acc.length + ts.length ≤ 300 → RowsB N w (rowsNet N w ts acc)
  | [], acc, _, hR, _ => hR
  | t :: ts, acc, ht, hR, hl => by
    have hl' : acc.length + ts.length + 1 ≤ 300 := by simpa [Nat.add_assoc] using hl
    exact rows_ok B hw ts _ (fun x hx => ht x (List.mem_cons_of_mem _ hx)) (hR.snoc (by omega) B hw (ht t (by simp))) (by simp; omega)
theorem p_rows_of {N : Net} {w : Nat} {ts : List Int} {M : Mem} {Q : KD} {E : KE'} (hmix : MixOk w) (B : NetB N) (hw : N.w = w) (ht : TokOk N.many ts) (hne : ts ≠ []) (hl : ts.length ≤ 300) (h : ∀ G, Q (rowsT (rowsNet N w ts [])) (M ++ G)) : sp_rows_of [N.d, vI ts] M Q E := by
  simp [sp_rows_of, r_rows_of]
  refine p_need_model B.O fun G1 => ?_
  refine p_need_tokens ht hne fun G2 => ?_
  refine p_rows_after hmix B hw ht hl fun G3 => ?_
  have := h (G1 ++ G2 ++ G3)
  simpa using this
theorem p_stepped {N : Net} {w : Nat} {rows : List (List Pr)} {t : Int} {M : Mem} {Q : KD} {E : KE'} (hmix : MixOk w) (B : NetB N) (hw : N.w = w) (hR : RowsB N w rows) (ht : 0 ≤ t ∧ t < N.many)
    (h : ∀ G, Q (.tup [rowD (stepNet N w rows t).1, vI (shares (timesI N.outs (stepNet N w rows t).2))]) (M ++ G)) : sp_stepped [N.d, rowsT rows, .int t] M Q E := by
  simp [sp_stepped, r_stepped]
  refine p_need_model B.O fun G1 => ?_
  refine p_are_rows (fun r hr => ⟨(hR.2 r hr).1, fun p hp => ⟨by rw [((hR.2 r hr).2 p hp).1.1, hw], by rw [((hR.2 r hr).2 p hp).2.1, hw]⟩⟩) fun G2 => ?_
  simp [Net.d, net_at1]
  refine p_is_token ?_
  simp [ht.1, ht.2]
  refine p_next_row (N := N) hmix B hw hR ht fun G3 => ?_
  have := h (G1 ++ (G2 ++ G3))
  simpa using this
end Z8
set_option Elab.async false
set_option linter.all false
set_option maxRecDepth 100000
set_option maxHeartbeats 4000000
namespace Z8
open PySem PySem.Spec PyProof.Rows L2 GxR Gn Dl
theorem cutL_init {α : Type} (xs : List α) (v : α) : cutL (xs ++ [v]) none (some (-1)) = xs := by
  unfold cutL HT.sIx
  simp
  have e : (-1 + ((xs.length : Int) + 1)).toNat = xs.length := by omega
  rw [e]
  exact List.take_left
theorem sl_init (ts : List Int) (t : Int) {M : Mem} {Q : KD} : slD (vI (ts ++ [t])) none (some (-1)) M Q ↔ Q (vI ts) M := by
  unfold vI
  rw [slD_tup, List.map_append]
  show Q (.tup (cutL (ts.map D.int ++ [.int t]) none (some (-1)))) M ↔ _
  rw [cutL_init]
theorem ix_last (ts : List Int) (t : Int) {M : Mem} {Q : KD} (h : Q (.int t) M) : ixA (vI (ts ++ [t])) (.int (-1)) M Q := by
  unfold vI
  rw [ixA_tup, List.map_append]
  exact ⟨.int t, atI_last _ _, h⟩
theorem p_weights_after {N : Net} {w : Nat} {ts : List Int} {t : Int} {M : Mem} {Q : KD} {E : KE'} (hmix : MixOk w) (B : NetB N) (hw : N.w = w) (ht : TokOk N.many (ts ++ [t])) (hl : ts.length ≤ 299)
    (h : ∀ G, Q (vI (shares (timesI N.outs (stepNet N w (rowsNet N w ts []) t).2))) (M ++ G)) : sp_weights_after [N.d, vI (ts ++ [t])] M Q E := by
  have hts : TokOk N.many ts := fun x hx => ht x (List.mem_append_left _ hx)
  have htt := ht t (by simp)
  simp [sp_weights_after, r_weights_after, Net.d, net_at0, net_win]
  refine (sl_init ts t).mpr ?_
  refine p_rows_after (N := N) hmix B hw hts (by omega) fun G1 => ?_
  refine ix_last ts t ?_
  refine p_next_row (N := N) hmix B hw (rows_ok B hw ts [] hts (rowsB0 N w) (by simp; omega)) htt fun G2 => ?_
  refine ixA_tup.mpr ⟨_, rfl, ?_⟩
  rw [List.append_assoc]
  exact h _
theorem p_model_weights {N : Net} {w : Nat} {ts : List Int} {t : Int} {M : Mem} {Q : KD} {E : KE'} (hmix : MixOk w) (B : NetB N) (hw : N.w = w) (ht : TokOk N.many (ts ++ [t])) (hl : ts.length ≤ 299)
    (h : ∀ G, Q (vI (shares (timesI N.outs (stepNet N w (rowsNet N w ts []) t).2))) (M ++ G)) : sp_model_weights [N.d, vI (ts ++ [t])] M Q E := by
  simp [sp_model_weights, r_model_weights]
  refine p_need_model B.O fun G1 => ?_
  refine p_need_tokens ht (by simp) fun G2 => ?_
  refine p_weights_after hmix B hw ht hl fun G3 => ?_
  have := h (G1 ++ (G2 ++ G3))
  simpa using this
end Z8
set_option Elab.async false
set_option linter.all false
set_option maxRecDepth 100000
set_option maxHeartbeats 4000000
namespace Z8
open PySem PySem.Spec PyProof.Rows L2 GxR Gn Dl
/-! ### networks of which the law knows the answer -/
theorem dot_zero : ∀ (n : Nat) (v : List Int), dotI (List.replicate n 0) v = 0
  | 0, v => by unfold dotI; simp
  | n + 1, [] => by unfold dotI; simp
  | n + 1, x :: v => by
    have := dot_zero n v
    unfold dotI at this ⊢
    rw [List.replicate_succ]
    simp [this]
theorem times_zero (m n : Nat) (v : List Int) : timesI (List.replicate m (List.replicate n 0)) v = List.replicate m 0 := by
  unfold timesI
  rw [List.map_replicate, dot_zero]
theorem clip_zero : ∀ {st : List Int} {w : Nat}, st.length = w → Bd 20 st → sumClip st (List.replicate w 0) = st
  | [], 0, _, _ => rfl
  | s :: st, w + 1, hl, hb => by
    have ih := clip_zero (st := st) (w := w) (by simpa using hl) fun n hn => hb n (List.mem_cons_of_mem _ hn)
    have hs := hb s (by simp)
    unfold sumClip at ih ⊢
    rw [List.replicate_succ]
    simp [ih]
    unfold clipI
    split <;> split <;> omega
/-- layers whose last matrix is nothing leave the state -/
theorem lay_none {w : Nat} {rows : List (List Pr)} : ∀ (Ls : List (List (List (List Int)))) (i : Nat) (st : List Int), (∀ L ∈ Ls, ∃ A K W, L = [A, K, W, List.replicate w (List.replicate w 0)]) → st.length = w → Bd 20 st → (layGo w rows Ls i st).2 = st
  | [], i, st, _, _, _ => rfl
  | L :: Ls, i, st, h, hl, hb => by
    obtain ⟨A, K, W, rfl⟩ := h L (by simp)
    have e : sumClip st (timesI (List.replicate w (List.replicate w 0)) (nearOf A K W rows i w st)) = st := by rw [times_zero, clip_zero hl hb]
    have := lay_none (rows := rows) Ls (i + 1) st (fun L' h' => h L' (List.mem_cons_of_mem _ h')) hl hb
    simp only [layGo]
    rw [e]
    exact this
/-- equal scores have equal shares -/
theorem shares_alike {m : Nat} {c : Int} (hm : 0 < m) : shares (List.replicate m c) = List.replicate m 64 := by
  have hne : List.replicate m c ≠ [] := fun e => by
    have := congrArg List.length e
    simp at this
    omega
  have hx := (maxI_is hne).1
  have e : maxI (List.replicate m c) = c := List.eq_of_mem_replicate hx
  unfold shares shI
  rw [e, List.map_replicate]
  have : sh1 (c - c) = 64 := by rw [Int.sub_self]; decide
  rw [this]
theorem times_alike (m : Nat) (r st : List Int) : timesI (List.replicate m r) st = List.replicate m (dotI r st) := by
  unfold timesI
  rw [List.map_replicate]
end Z8
set_option Elab.async false
set_option linter.all false
set_option maxRecDepth 100000
set_option maxHeartbeats 4000000
namespace Z8
open PySem PySem.Spec PyProof.Rows L2 GxR Gn Dl
/-! ### the program's mixture -/
theorem cols_of (w : Nat) (ws : List (List Int)) (h : ∀ r ∈ ws, r.length = w) : colsD (ws.map fun r => r.map D.int) w = (List.range w).map fun k => vI (colI k ws) := by
  unfold colsD
  apply List.map_congr_left
  intro k hk
  have hkw : k < w := List.mem_range.mp hk
  unfold vI colI
  rw [List.map_map, List.map_map]
  congr 1
  apply List.map_congr_left
  intro r hr
  have hl := h r hr
  show (r.map D.int).getD k .non = .int (r.getD k 0)
  rw [List.getD_eq_getElem?_getD, List.getD_eq_getElem?_getD, List.getElem?_map, List.getElem?_eq_getElem (by omega)]
  rfl
theorem colI_bd {w k : Nat} {B : Int} {ws : List (List Int)} (hk : k < w) (h : ∀ r ∈ ws, r.length = w ∧ Bd B r) : Bd B (colI k ws) := fun n hn => by
  unfold colI at hn
  obtain ⟨r, hr, rfl⟩ := List.mem_map.mp hn
  have hl := (h r hr).1
  have : r.getD k 0 ∈ r := by
    rw [List.getD_eq_getElem?_getD, List.getElem?_eq_getElem (by omega)]
    exact List.getElem_mem _
  exact (h r hr).2 _ this
theorem sums_pos {sh : List Int} (hne : sh ≠ []) (h : ∀ s ∈ sh, 1 ≤ s ∧ s ≤ 64) : 0 < sh.sum ∧ sh.sum ≤ 64 * sh.length := by
  have := sum_bd h
  have hp := List.length_pos_iff.mpr hne
  omega
theorem mix_ok {w : Nat} (hw : w ≤ 3) : MixOk w := by
  intro asked pairs pi M Q E hp hne hl ha hb h
  simp [sp__mixed, r__mixed, hp]
  refine lcD_ex prD (fun p => .int (dotI asked p.1)) pairs M (fun M' x => x.at hp) (fun p hpm M2 Q2 x2 k2 => ?_) (by omega) fun M1 x1 l1 => ?_
  · simp [prD]
    exact p__scalar_product ha.2 (hb p hpm).1.2 (by decide) (by decide) (by omega) k2
  have e1 : (pairs.map fun p => D.int (dotI asked p.1)) = (pairs.map fun p => dotI asked p.1).map D.int := by simp [Function.comp_def]
  rw [e1] at l1
  obtain ⟨sc, hsc⟩ : ∃ sc, sc = pairs.map fun p => dotI asked p.1 := ⟨_, rfl⟩
  rw [← hsc] at l1 h
  have hscl : sc.length = pairs.length := by rw [hsc, List.length_map]
  have hscn : sc ≠ [] := fun e => hne (List.length_eq_zero_iff.mp (by rw [← hscl, e]; rfl))
  have hQ := x1.q (P := fun M => Q (vI (mixI (shares sc) (pairs.map (·.2)) w)) M) h
  have hp1 := x1.at hp
  refine p__shares_l l1 (List.length_pos_iff.mpr hscn) (by omega) fun m hm hy G1 => ?_
  have em : m = maxI sc := maxI_eq ⟨hm, hy⟩
  subst em
  have hsh : shI (maxI sc) sc = shares sc := rfl
  rw [hsh]
  have hbs := shares_bd hscn
  have hsl := shares_len sc
  obtain ⟨hs0, hs1⟩ := sums_pos (sh := shares sc) (fun e => hscn (List.length_eq_zero_iff.mp (by rw [← hsl, e]; rfl))) hbs
  have hp2 : (M1 ++ G1)[pi]? = some (.lst (pairs.map prD)) := (Ext.app M1 G1).at hp1
  have hQ2 := (Ext.app M1 G1).q (P := fun M => Q (vI (mixI (shares sc) (pairs.map (·.2)) w)) M) hQ
  generalize M1 ++ G1 = M2 at hp2 hQ2 ⊢
  have hsv : vI (shares sc) = D.tup ((shares sc).map D.int) := rfl
  simp [hsv, hp2]
  refine lcD_ex prD (fun p => vI p.2) pairs M2 (fun M' x => x.at hp2) (fun p hpm M3 Q3 x3 k3 => ?_) (by omega) fun M3 x3 l3 => ?_
  · simp [prD]
    simpa using k3 []
  have hQ3 := x3.q (P := fun M => Q (vI (mixI (shares sc) (pairs.map (·.2)) w)) M) hQ2
  obtain ⟨ws, hws⟩ : ∃ ws, ws = pairs.map (·.2) := ⟨_, rfl⟩
  rw [← hws] at hQ3
  have e2 : (pairs.map fun p => vI p.2) = (ws.map fun r => r.map D.int).map D.tup := by rw [hws]; simp [vI, Function.comp_def]
  rw [e2] at l3
  have hwb : ∀ r ∈ ws, r.length = w ∧ Bd 310 r := fun r hr => by
    rw [hws] at hr
    obtain ⟨p, hpm, rfl⟩ := List.mem_map.mp hr
    exact (hb p hpm).2
  have hwl : ws.length = pairs.length := by rw [hws, List.length_map]
  refine ⟨_, l3, ws.map fun r => r.map D.int, w, rfl, fun e => hne (List.length_eq_zero_iff.mp (by rw [← hwl, ← List.length_map (f := fun r => r.map D.int), e]; rfl)), fun r hr => ?_, small_le (by rw [List.length_map]; omega), ?_⟩
  · obtain ⟨r', hr', rfl⟩ := List.mem_map.mp hr
    rw [List.length_map]
    exact (hwb r' hr').1
  rw [cols_of w ws fun r hr => (hwb r hr).1]
  refine lcD_ex (fun k : Nat => vI (colI k ws)) (fun k => .int ((dotI (shares sc) (colI k ws)).fdiv (shares sc).sum)) (List.range w) M3 (fun _ _ => trivial) (fun k hk M4 Q4 x4 k4 => ?_) (by simp; omega) fun M4 x4 l4 => ?_
  · have hkw : k < w := List.mem_range.mp hk
    simp
    rw [← hsv]
    refine p__scalar_product (B := 64) (C := 310) (fun s hs => by have := hbs s hs; omega) (colI_bd hkw hwb) (by decide) (by decide) (by rw [hsl, hscl]; omega) fun G => ?_
    refine intD_int.mpr ⟨⟨by omega, by omega⟩, k4 G⟩
  · have hQ4 := x4.q (P := fun M => Q (vI (mixI (shares sc) ws w)) M) hQ3
    simp [l4]
    simpa [vI, mixI, Function.comp_def] using hQ4 []
end Z8
set_option Elab.async false
set_option linter.all false
set_option maxRecDepth 100000
set_option maxHeartbeats 4000000
namespace Z8
open PySem PySem.Spec PyProof.Rows L2 GxR Gn Dl
/-! ### what the law prints, and the networks that it makes of one -/
def pPr (p : Pr) : PyData := .tuple [pI p.1, pI p.2]
def pRow (r : List Pr) : PyData := .tuple (r.map pPr)
def pRows (rows : List (List Pr)) : PyData := .tuple (rows.map pRow)
theorem pu_pr (p : Pr) : Pu (prD p) (pPr p) := Pu.tup (Pus.cons (Pu.vI _) (Pus.cons (Pu.vI _) Pus.nil))
theorem pu_row (r : List Pr) : Pu (rowD r) (pRow r) := Pu.tup (Pus.map fun p _ => pu_pr p)
theorem pu_rows (rows : List (List Pr)) : Pu (rowsT rows) (pRows rows) := Pu.tup (Pus.map fun r _ => pu_row r)
theorem abs_lt {n B : Int} (h : -B ≤ n ∧ n ≤ B) (hB : B < 100000000) : n.natAbs < 100000000 := by omega
theorem sz_vec {w : Nat} {ns : List Int} (hl : ns.length = w) (hw : w ≤ 3) (hb : Bd 310 ns) : Sz 39 1 (pI ns) := (Sz.pI (m := 3) (fun n hn => abs_lt (hb n hn) (by decide)) (by omega)).mono (by decide) (by decide)
theorem sz_pr {w : Nat} {p : Pr} (hw : w ≤ 3) (h : (p.1.length = w ∧ Bd 310 p.1) ∧ (p.2.length = w ∧ Bd 310 p.2)) : Sz 85 2 (pPr p) :=
  (Sz.tup (k := 39) (d := 1) (m := 2) (ps := [pI p.1, pI p.2]) (fun q hq => by
    rcases List.mem_cons.mp hq with rfl | hq
    · exact sz_vec h.1.1 hw h.1.2
    · rw [List.mem_singleton.mp hq]
      exact sz_vec h.2.1 hw h.2.2) (by simp)).mono (by decide) (by decide)
theorem sz_row {w : Nat} {r : List Pr} (hw : w ≤ 3) (hl : r.length ≤ 2) (h : ∀ p ∈ r, (p.1.length = w ∧ Bd 310 p.1) ∧ (p.2.length = w ∧ Bd 310 p.2)) : Sz 177 3 (pRow r) :=
  (Sz.tup (k := 85) (d := 2) (m := 2) (fun q hq => by
    obtain ⟨p, hp, rfl⟩ := List.mem_map.mp hq
    exact sz_pr hw (h p hp)) (by rw [List.length_map]; exact hl)).mono (by decide) (by decide)
theorem sz_rows {N : Net} {w : Nat} {rows : List (List Pr)} (B : NetB N) (hw : N.w = w) (hR : RowsB N w rows) (hl : rows.length ≤ 11) : Sz 1972 4 (pRows rows) :=
  (Sz.tup (k := 177) (d := 3) (m := 11) (fun q hq => by
    obtain ⟨r, hr, rfl⟩ := List.mem_map.mp hq
    exact sz_row (by have := B.w3; omega) (by rw [(hR.2 r hr).1]; exact B.ll) (hR.2 r hr).2) (by rw [List.length_map]; exact hl)).mono (by decide) (by decide)
theorem sz_two {n d : Nat} {p q : PyData} (h1 : Sz n d p) (h2 : Sz n d q) : Sz (2 * (n + 2) + 3) (d + 1) (.tuple [p, q]) := Sz.tup (fun x hx => by
  rcases List.mem_cons.mp hx with rfl | hx
  · exact h1
  · rw [List.mem_singleton.mp hx]
    exact h2) (by simp)
theorem sz_shares {ns : List Int} (h : ∀ s ∈ ns, 1 ≤ s ∧ s ≤ 64) (hl : ns.length ≤ 5) : Sz 63 1 (pI ns) := (Sz.pI (m := 5) (fun n hn => abs_lt (B := 64) (by have := h n hn; omega) (by decide)) hl).mono (by decide) (by decide)
theorem rowsNet_len {N : Net} {w : Nat} : ∀ (ts : List Int) (acc : List (List Pr)), (rowsNet N w ts acc).length = acc.length + ts.length
  | [], acc => by simp [rowsNet]
  | t :: ts, acc => by
    rw [rowsNet, rowsNet_len ts]
    simp
    omega
theorem rowsNet_snoc {N : Net} {w : Nat} : ∀ (ts : List Int) (t : Int) (acc : List (List Pr)), rowsNet N w (ts ++ [t]) acc = rowsNet N w ts acc ++ [(stepNet N w (rowsNet N w ts acc) t).1]
  | [], t, acc => rfl
  | x :: ts, t, acc => by
    show rowsNet N w (ts ++ [t]) _ = rowsNet N w ts _ ++ _
    rw [rowsNet_snoc ts t]
    rfl
def Net.alike (N : Net) : Net := { N with outs := List.replicate N.many.toNat (N.outs.getD 0 []) }
def zeroM (w : Nat) : List (List Int) := List.replicate w (List.replicate w 0)
def Net.hush (N : Net) (w : Nat) : Net := { N with layers := N.layers.map fun L => L.take 3 ++ [zeroM w] }
def Net.bare (N : Net) : Net := { N with layers := [] }
theorem out0 {N : Net} (B : NetB N) : N.outs.getD 0 [] ∈ N.outs := by
  have h1 := B.O.ol
  have h2 := B.O.m2
  exact mem_getD' [] (by omega)
theorem alike_ok {N : Net} (B : NetB N) : NetB N.alike where
  O := ⟨B.O.m2, B.O.w1, B.O.el, B.O.ew, B.O.p1, B.O.pw, B.O.ly, by have := B.O.m2; simp [Net.alike]; omega, fun r hr => by
    rw [List.eq_of_mem_replicate hr]
    exact B.O.ow _ (out0 B)⟩
  m5 := B.m5
  w3 := B.w3
  eb := B.eb
  pl := B.pl
  pb := B.pb
  ll := B.ll
  lb := B.lb
  ob := fun r hr => by
    rw [List.eq_of_mem_replicate hr]
    exact B.ob _ (out0 B)
theorem bare_ok {N : Net} (B : NetB N) : NetB N.bare where
  O := ⟨B.O.m2, B.O.w1, B.O.el, B.O.ew, B.O.p1, B.O.pw, fun L hL => (by cases hL), B.O.ol, B.O.ow⟩
  m5 := B.m5
  w3 := B.w3
  eb := B.eb
  pl := B.pl
  pb := B.pb
  ll := by show 0 ≤ 2; decide
  lb := fun L hL => by cases hL
  ob := B.ob
theorem zero_sq {w : Nat} : ∀ r ∈ zeroM w, r.length = w ∧ Bd 5 r := fun r hr => by
  rw [List.eq_of_mem_replicate hr]
  refine ⟨List.length_replicate, fun n hn => ?_⟩
  rw [List.eq_of_mem_replicate hn]
  decide
theorem hush_mem {N : Net} {w : Nat} (B : NetB N) {L : List (List (List Int))} (hL : L ∈ (N.hush w).layers) : ∃ A K W X, [A, K, W, X] ∈ N.layers ∧ L = [A, K, W, zeroM w] := by
  obtain ⟨L', hL', rfl⟩ := List.mem_map.mp hL
  have h4 := (B.O.ly L' hL').1
  match L', h4 with
  | [A, K, W, X], _ => exact ⟨A, K, W, X, hL', rfl⟩
theorem hush_ok {N : Net} {w : Nat} (B : NetB N) (hw : N.w = w) : NetB (N.hush w) where
  O := ⟨B.O.m2, B.O.w1, B.O.el, B.O.ew, B.O.p1, B.O.pw, fun L hL => by
    obtain ⟨A, K, W, X, h1, rfl⟩ := hush_mem B hL
    refine ⟨rfl, fun m hm => ?_⟩
    have q := (B.O.ly _ h1).2
    simp only [List.mem_cons, List.not_mem_nil, or_false] at hm
    rcases hm with rfl | rfl | rfl | rfl
    · exact q _ (by simp)
    · exact q _ (by simp)
    · exact q _ (by simp)
    · refine ⟨?_, fun r hr => ?_⟩
      · show ((zeroM w).length : Int) = N.w
        rw [hw]
        simp [zeroM]
      · show (r.length : Int) = N.w
        rw [hw, (zero_sq r hr).1], B.O.ol, B.O.ow⟩
  m5 := B.m5
  w3 := B.w3
  eb := B.eb
  pl := B.pl
  pb := B.pb
  ll := by show (N.layers.map _).length ≤ 2; rw [List.length_map]; exact B.ll
  lb := fun L hL m hm r hr => by
    obtain ⟨A, K, W, X, h1, rfl⟩ := hush_mem B hL
    have q := B.lb _ h1
    simp only [List.mem_cons, List.not_mem_nil, or_false] at hm
    rcases hm with rfl | rfl | rfl | rfl
    · exact q _ (by simp) r hr
    · exact q _ (by simp) r hr
    · exact q _ (by simp) r hr
    · exact (zero_sq r hr).2
  ob := B.ob
/-- the state before all layers -/
def start (N : Net) (k : Nat) (t : Int) : List Int := sumClip (N.embeds.getD t.toNat []) (placeOf N k)
theorem bare_step (N : Net) (w : Nat) (rows : List (List Pr)) (t : Int) : (stepNet N.bare w rows t).2 = start N rows.length t := rfl
theorem hush_step {N : Net} {w : Nat} (B : NetB N) (hw : N.w = w) (rows : List (List Pr)) {t : Int} (ht : 0 ≤ t ∧ t < N.many) : (stepNet (N.hush w) w rows t).2 = start N rows.length t := by
  have hs := B.start hw rows.length ht
  exact lay_none (N.hush w).layers 0 _ (fun L hL => by
    obtain ⟨A, K, W, X, _, rfl⟩ := hush_mem B hL
    exact ⟨A, K, W, rfl⟩) hs.1 hs.2
end Z8
set_option Elab.async false
set_option linter.all false
set_option maxRecDepth 100000
set_option maxHeartbeats 4000000
namespace Z8
open PySem PySem.Spec PyProof.Rows L2 GxR Gn Dl
/-! ### a thing is the same as itself -/
theorem eqA_bl {neg a b : Bool} {M : Mem} {Q : KD} (h : Q (.bl (if neg then !decide (a = b) else decide (a = b))) M) : eqA neg (.bl a) (.bl b) M Q := by
  have e : PyData.eqv (.bool a) (.bool b) = decide (a = b) := by
    rw [PyData.eqv]
    cases a <;> cases b <;> rfl
  show eqD neg (.bl a) (.bl b) M Q
  refine eqD_of (Pu.bl a) (Pu.bl b) ((Pn.bl 0 a).sh (by decide)) ((Pn.bl 0 b).sh (by decide)) ?_
  rw [e]
  exact h
def Rfl (sp : SpD) (d : D) : Prop := ∀ M Q E, Q (.bl true) M → sp [d, d] M Q E
def twins (ds : List D) (k : Nat) : List D := ((zipD ds ds).zipIdx k).map fun p => D.tup [.int (p.2 : Nat), p.1]
theorem twins_cons (d : D) (ds : List D) (k : Nat) : twins (d :: ds) k = .tup [.int (k : Nat), .tup [d, d]] :: twins ds (k + 1) := rfl
theorem enumD_twins (ds : List D) : enumD (zipD ds ds) = twins ds 0 := rfl
theorem same0_int (n : Int) : Rfl sp_same__0 (.int n) := fun M Q E h => by
  simp [sp_same__0, r_same__0]
  exact eqA_bl (by simp; exact eqA_bl (by simpa using h))
theorem first0_go {a0 a1 : Option D} {Dd : EndsD} {E : KE'} {M : Mem} : ∀ (ds : List D) (j : Nat) (y2 y3 y4 : Option D), (∀ d ∈ ds, Rfl sp_same__0 d) → (∀ y2 y3 y4, Dd.nx [a0, a1, y2, y3, y4] M) →
    forD (dGTup 2 (dGCons (dGN 2) (dGCons (dGTup 2 (dGCons (dGN 3) (dGCons (dGN 4) (dGNil)))) (dGNil)))) (dIfS (dNotT (dTest (dCall 2 sp_same__0 (dCons (dVar 3) (dCons (dVar 4) (dNil)))))) (dRet (dVar 2)) (dNext)) (fun _ => True) Dd E (twins ds j) [a0, a1, y2, y3, y4] M
  | [], j, y2, y3, y4, _, h => ⟨trivial, h y2 y3 y4⟩
  | d :: ds, j, y2, y3, y4, hs, h => by
    rw [twins_cons]
    refine ⟨trivial, ?_⟩
    simp
    refine hs d (by simp) _ _ _ ?_
    simp
    exact first0_go ds (j + 1) _ _ _ (fun d hd => hs d (List.mem_cons_of_mem _ hd)) h
theorem p_first0 {ds : List D} {M : Mem} {Q : KD} {E : KE'} (hs : ∀ d ∈ ds, Rfl sp_same__0 d) (h : Q .non M) : sp_first_difference__0 [.tup ds, .tup ds] M Q E := by
  simp [sp_first_difference__0, r_first_difference__0, enumD_twins]
  refine ⟨ds, ds, ⟨rfl, rfl⟩, ?_⟩
  rw [enumD_twins]
  refine first0_go ds 0 none none none hs fun y2 y3 y4 => ?_
  simp
  exact h
theorem same1_tup {ds : List D} (hs : ∀ d ∈ ds, Rfl sp_same__0 d) : Rfl sp_same__1 (.tup ds) := fun M Q E h => by
  simp [sp_same__1, r_same__1]
  refine p_first0 hs (.inl ⟨rfl, ?_⟩)
  exact h
theorem same1_int (n : Int) : Rfl sp_same__1 (.int n) := fun M Q E h => by
  simp [sp_same__1, r_same__1]
  exact eqA_bl (by simp; exact eqA_bl (by simpa using h))
theorem first1_go {a0 a1 : Option D} {Dd : EndsD} {E : KE'} {M : Mem} : ∀ (ds : List D) (j : Nat) (y2 y3 y4 : Option D), (∀ d ∈ ds, Rfl sp_same__1 d) → (∀ y2 y3 y4, Dd.nx [a0, a1, y2, y3, y4] M) →
    forD (dGTup 2 (dGCons (dGN 2) (dGCons (dGTup 2 (dGCons (dGN 3) (dGCons (dGN 4) (dGNil)))) (dGNil)))) (dIfS (dNotT (dTest (dCall 2 sp_same__1 (dCons (dVar 3) (dCons (dVar 4) (dNil)))))) (dRet (dVar 2)) (dNext)) (fun _ => True) Dd E (twins ds j) [a0, a1, y2, y3, y4] M
  | [], j, y2, y3, y4, _, h => ⟨trivial, h y2 y3 y4⟩
  | d :: ds, j, y2, y3, y4, hs, h => by
    rw [twins_cons]
    refine ⟨trivial, ?_⟩
    simp
    refine hs d (by simp) _ _ _ ?_
    simp
    exact first1_go ds (j + 1) _ _ _ (fun d hd => hs d (List.mem_cons_of_mem _ hd)) h
theorem p_first1 {ds : List D} {M : Mem} {Q : KD} {E : KE'} (hs : ∀ d ∈ ds, Rfl sp_same__1 d) (h : Q .non M) : sp_first_difference__1 [.tup ds, .tup ds] M Q E := by
  simp [sp_first_difference__1, r_first_difference__1, enumD_twins]
  refine ⟨ds, ds, ⟨rfl, rfl⟩, ?_⟩
  rw [enumD_twins]
  refine first1_go ds 0 none none none hs fun y2 y3 y4 => ?_
  simp
  exact h
theorem same2_tup {ds : List D} (hs : ∀ d ∈ ds, Rfl sp_same__1 d) : Rfl sp_same__2 (.tup ds) := fun M Q E h => by
  simp [sp_same__2, r_same__2]
  refine p_first1 hs (.inl ⟨rfl, ?_⟩)
  exact h
theorem same2_int (n : Int) : Rfl sp_same__2 (.int n) := fun M Q E h => by
  simp [sp_same__2, r_same__2]
  exact eqA_bl (by simp; exact eqA_bl (by simpa using h))
theorem first2_go {a0 a1 : Option D} {Dd : EndsD} {E : KE'} {M : Mem} : ∀ (ds : List D) (j : Nat) (y2 y3 y4 : Option D), (∀ d ∈ ds, Rfl sp_same__2 d) → (∀ y2 y3 y4, Dd.nx [a0, a1, y2, y3, y4] M) →
    forD (dGTup 2 (dGCons (dGN 2) (dGCons (dGTup 2 (dGCons (dGN 3) (dGCons (dGN 4) (dGNil)))) (dGNil)))) (dIfS (dNotT (dTest (dCall 2 sp_same__2 (dCons (dVar 3) (dCons (dVar 4) (dNil)))))) (dRet (dVar 2)) (dNext)) (fun _ => True) Dd E (twins ds j) [a0, a1, y2, y3, y4] M
  | [], j, y2, y3, y4, _, h => ⟨trivial, h y2 y3 y4⟩
  | d :: ds, j, y2, y3, y4, hs, h => by
    rw [twins_cons]
    refine ⟨trivial, ?_⟩
    simp
    refine hs d (by simp) _ _ _ ?_
    simp
    exact first2_go ds (j + 1) _ _ _ (fun d hd => hs d (List.mem_cons_of_mem _ hd)) h
theorem p_first2 {ds : List D} {M : Mem} {Q : KD} {E : KE'} (hs : ∀ d ∈ ds, Rfl sp_same__2 d) (h : Q .non M) : sp_first_difference__2 [.tup ds, .tup ds] M Q E := by
  simp [sp_first_difference__2, r_first_difference__2, enumD_twins]
  refine ⟨ds, ds, ⟨rfl, rfl⟩, ?_⟩
  rw [enumD_twins]
  refine first2_go ds 0 none none none hs fun y2 y3 y4 => ?_
  simp
  exact h
theorem same3_tup {ds : List D} (hs : ∀ d ∈ ds, Rfl sp_same__2 d) : Rfl sp_same__3 (.tup ds) := fun M Q E h => by
  simp [sp_same__3, r_same__3]
  refine p_first2 hs (.inl ⟨rfl, ?_⟩)
  exact h
theorem same3_int (n : Int) : Rfl sp_same__3 (.int n) := fun M Q E h => by
  simp [sp_same__3, r_same__3]
  exact eqA_bl (by simp; exact eqA_bl (by simpa using h))
theorem first3_go {a0 a1 : Option D} {Dd : EndsD} {E : KE'} {M : Mem} : ∀ (ds : List D) (j : Nat) (y2 y3 y4 : Option D), (∀ d ∈ ds, Rfl sp_same__3 d) → (∀ y2 y3 y4, Dd.nx [a0, a1, y2, y3, y4] M) →
    forD (dGTup 2 (dGCons (dGN 2) (dGCons (dGTup 2 (dGCons (dGN 3) (dGCons (dGN 4) (dGNil)))) (dGNil)))) (dIfS (dNotT (dTest (dCall 2 sp_same__3 (dCons (dVar 3) (dCons (dVar 4) (dNil)))))) (dRet (dVar 2)) (dNext)) (fun _ => True) Dd E (twins ds j) [a0, a1, y2, y3, y4] M
  | [], j, y2, y3, y4, _, h => ⟨trivial, h y2 y3 y4⟩
  | d :: ds, j, y2, y3, y4, hs, h => by
    rw [twins_cons]
    refine ⟨trivial, ?_⟩
    simp
    refine hs d (by simp) _ _ _ ?_
    simp
    exact first3_go ds (j + 1) _ _ _ (fun d hd => hs d (List.mem_cons_of_mem _ hd)) h
theorem p_first3 {ds : List D} {M : Mem} {Q : KD} {E : KE'} (hs : ∀ d ∈ ds, Rfl sp_same__3 d) (h : Q .non M) : sp_first_difference__3 [.tup ds, .tup ds] M Q E := by
  simp [sp_first_difference__3, r_first_difference__3, enumD_twins]
  refine ⟨ds, ds, ⟨rfl, rfl⟩, ?_⟩
  rw [enumD_twins]
  refine first3_go ds 0 none none none hs fun y2 y3 y4 => ?_
  simp
  exact h
theorem p_certificate {ds : List D} {M : Mem} {Q : KD} {E : KE'} (hs : ∀ d ∈ ds, Rfl sp_same__3 d) (h : Q (.tup [.str "right"]) M) : sp_certificate [.tup ds, .tup ds] M Q E := by
  simp [sp_certificate, r_certificate]
  refine p_first3 hs ?_
  refine .inl ⟨rfl, .inr ⟨rfl, ?_⟩⟩
  exact ⟨small_le (n := 1) (by decide), h⟩
theorem same_vec (v : List Int) : Rfl sp_same__1 (vI v) := same1_tup fun d hd => by
  obtain ⟨n, _, rfl⟩ := List.mem_map.mp hd
  exact same0_int n
theorem same_pair (p : Pr) : Rfl sp_same__2 (prD p) := same2_tup fun d hd => by
  rcases List.mem_cons.mp hd with rfl | hd
  · exact same_vec _
  · rw [List.mem_singleton.mp hd]; exact same_vec _
theorem same_row (r : List Pr) : Rfl sp_same__3 (rowD r) := same3_tup fun d hd => by
  obtain ⟨p, _, rfl⟩ := List.mem_map.mp hd
  exact same_pair p
theorem same_rowW (t : Int) : Rfl sp_same__3 (.tup [.int t]) := same3_tup fun d hd => by
  rw [List.mem_singleton.mp hd]
  exact same2_int t
end Z8
set_option Elab.async false
set_option linter.all false
set_option maxRecDepth 100000
set_option maxHeartbeats 4000000
namespace Z8.Wn
open PySem PySem.Spec PyProof.Rows L2 GxR Gn Dl
/-! ### drawn weights -/
structure WOk (w : Nat) (ws : List Int) : Prop where
  len : ws.length = w
  bd : ∀ x ∈ ws, 0 ≤ x ∧ x ≤ 1000
  pos : 0 < ws.sum
theorem sum_nn : ∀ {ws : List Int}, (∀ x ∈ ws, 0 ≤ x) → 0 ≤ ws.sum
  | [], _ => by simp
  | x :: ws, h => by
    have h1 := h x (by simp)
    have h2 := sum_nn fun y hy => h y (List.mem_cons_of_mem x hy)
    simp
    omega
theorem sum_set : ∀ {ws : List Int} {r : Nat} {v : Int}, (∀ x ∈ ws, 0 ≤ x) → r < ws.length → 1 ≤ v → 0 < (ws.set r v).sum
  | [], r, v, _, h, _ => absurd h (Nat.not_lt_zero _)
  | x :: ws, 0, v, hx, _, hv => by
    have h2 := sum_nn fun y hy => hx y (List.mem_cons_of_mem x hy)
    simp
    omega
  | x :: ws, r + 1, v, hx, h, hv => by
    have h1 := hx x (by simp)
    have h2 := sum_set (ws := ws) (r := r) (v := v) (fun y hy => hx y (List.mem_cons_of_mem x hy)) (by simpa using h) hv
    simp
    omega
theorem _root_.Z8.Fr.set3 {i j k : Nat} {M0 M : Mem} {c : Cell} (h : Fr i j M0 M) (hk : M0.length ≤ k) : Fr i j M0 (M.set k c) := by
  refine ⟨by rw [List.length_set]; exact h.1, fun l h1 h2 h3 => ?_⟩
  rw [List.getElem?_set_ne (by omega)]
  exact h.2 l h1 h2 h3
theorem _root_.Z8.Dk.set {i j f k : Nat} {M : Mem} {c : Cell} (h : Dk i j f M) (hi : k ≠ i) (hj : k ≠ j) : Dk i j f (M.set k c) := by
  obtain ⟨ns, m, q, h⟩ := h
  exact ⟨ns, m, q, by rw [List.getElem?_set_ne hi]; exact h.d, by rw [List.getElem?_set_ne hj]; exact h.l, h.ne, h.m0, h.m1, h.k0, h.k1, h.nl⟩
theorem ixn {n j : Nat} (hj : j < n) : ixN n (j : Int) = some j := by
  unfold ixN
  rw [if_pos (by omega), if_pos (by omega)]
  simp
theorem p__law_drawn_weights {i j f wide : Nat} {M : Mem} {Q : KD} {E : KE'} (h : Dk i j (f + 2 + 3 * wide) M) (hw : 0 < wide) (hw2 : wide ≤ 900) (hq : ∀ ws M', WOk wide ws → Dk i j f M' → Fr i j M M' → Q (vI ws) M') : sp__law_drawn_weights [.obj i, .int wide] M Q E := by
  simp [sp__law_drawn_weights, r__law_drawn_weights, rngD_map]
  refine ⟨by omega, ?_⟩
  refine lcD_drawn (i := i) (j := j) (c := 3) (f := f + 2) (fun i : Nat => D.int (i : Int)) (fun x => ∃ t : Int, x = .int t ∧ (0 ≤ t ∧ t ≤ 1000)) (List.range wide) M (fun _ _ => trivial) (by simpa using h) (by simp; omega) (fun a ha g M1 Q' D2 F2 k => ?_) fun ds M2 p1 p2 D2 F2 e2 => ?_
  · simp
    refine p__law_draw (f := g + 2) D2 (by decide) (by decide) fun r1 M3 a0 a1 D3 F3 => ?_
    refine p__law_draw (f := g + 1) D3 (by decide) (by decide) fun r2 M4 b0 b1 D4 F4 => ?_
    have z8 : 8 ≤ sizeLine := small_le (n := 8) (by decide)
    simp [z8]
    have D5 : Dk i j (g + 1) (M4 ++ [.lst [.int 0, .int 1, .int 1, .int 2, .int 3, .int 5, .int r1, .int r2]]) := D4.app _
    have hl5 : (M4 ++ [Cell.lst [.int 0, .int 1, .int 1, .int 2, .int 3, .int 5, .int r1, .int r2]])[M4.length]? = some (.lst [.int 0, .int 1, .int 1, .int 2, .int 3, .int 5, .int r1, .int r2]) := by simp
    refine p__law_pick_l (f := g) (n := M4.length) D5 hl5 (by simp) (by simp) D4.out.1 D4.out.2 fun d M5 hd D6 F6 => k d M5 ?_ D6 (((F3.tr F4).tr (Fr.app _ _ _ _)).tr F6)
    simp only [List.mem_cons, List.not_mem_nil, or_false] at hd
    rcases hd with rfl | rfl | rfl | rfl | rfl | rfl | rfl | rfl
    all_goals exact ⟨_, rfl, by omega⟩
  · obtain ⟨ns, rfl, hn⟩ := ints_ex p1
    simp at p2
    have hM : M.length < M2.length := (List.getElem?_eq_some_iff.mp e2).1
    have mi : M.length ≠ i := h.out.1
    have mj : M.length ≠ j := h.out.2
    have nn : ∀ x ∈ ns, 0 ≤ x := fun x hx => (hn x hx).1
    have hs0 := sum_nn nn
    simp [e2, intsOf_map]
    by_cases hz : ns.sum = 0
    · refine .inr ⟨hz, ?_⟩
      refine p__law_draw (f := f + 1) D2 (by decide) (by decide) fun r1 M3 a0 a1 D3 F3 => ?_
      simp
      refine p__law_draw (f := f) D3 (by omega) (by omega) fun r2 M4 b0 b1 D4 F4 => ?_
      have e4 : M4[M.length]? = some (.lst (ns.map D.int)) := ((F3.tr F4).2 _ hM mi mj).trans e2
      have hM4 := (List.getElem?_eq_some_iff.mp e4).1
      obtain ⟨n, rfl⟩ : ∃ n : Nat, r2 = n := ⟨r2.toNat, by omega⟩
      have hnl : n < ns.length := by omega
      have e5 : (ns.map D.int).set n (.int (1 + r1)) = (ns.set n (1 + r1)).map D.int := by rw [List.map_set]
      refine .inl ⟨_, e4, _, rfl, n, by rw [List.length_map]; exact ixn hnl, (ns.set n (1 + r1)).map D.int, ?_, ?_⟩
      · rw [← e5]
        exact List.getElem?_set_self hM4
      · rw [e5]
        refine hq (ns.set n (1 + r1)) _ ⟨by rw [List.length_set]; exact p2, fun x hx => ?_, sum_set nn hnl (by omega)⟩ (D4.set mi mj) (((F2.tr F3).tr F4).set3 (Nat.le_refl _))
        rcases List.mem_or_eq_of_mem_set hx with hx | rfl
        · exact hn x hx
        · omega
    · refine .inl ⟨hz, ?_⟩
      exact hq ns M2 ⟨p2, hn, by omega⟩ (D2.le (by omega)) F2
end Z8.Wn
set_option Elab.async false
set_option linter.all false
set_option maxRecDepth 100000
set_option maxHeartbeats 4000000
namespace Z8.Wn
open PySem PySem.Spec PyProof.Rows L2 GxR Gn Dl
/-! ### drawn windows -/
abbrev Ent := List Int × List Int
structure Win where
  many : Int
  k : Int
  ents : List Ent
  dflt : List Int
def entD (e : Ent) : D := .tup [vI e.1, vI e.2]
def Win.d (W : Win) : D := .tup [.str "window", .int W.many, .int W.k, .tup (W.ents.map entD), vI W.dflt]
/-- an entry -/
def EOk (many k : Nat) (e : Ent) : Prop := (TokOk many e.1 ∧ e.1.length ≤ k) ∧ WOk many e.2
structure WinB (W : Win) : Prop where
  ex : ∃ m k : Nat, W.many = m ∧ W.k = k ∧ 2 ≤ m ∧ m ≤ 8 ∧ k ≤ 3 ∧ (∀ e ∈ W.ents, EOk m k e) ∧ WOk m W.dflt
  few : W.ents.length ≤ 200
  asc : (W.ents.map (·.1)).Pairwise fun x y => HT.lexLt x y = true
/-- the dict of entries that is drawn -/
def dTe (kvs : List Ent) : List (List Key × D) := kvs.map fun e => (Zn.kI e.1, vI e.2)
theorem kI_inj {x y : List Int} (h : Zn.kI x = Zn.kI y) : x = y := by
  unfold Zn.kI at h
  exact List.map_inj_right (f := (Sum.inl : Int → Key)) (fun a b e => Sum.inl.inj e) |>.mp h
/-- a store -/
def putE (kvs : List Ent) (k v : List Int) : List Ent := if (kvs.any fun e => decide (e.1 = k)) = true then kvs.map (fun e => if e.1 = k then (e.1, v) else e) else kvs ++ [(k, v)]
theorem put_dTe (kvs : List Ent) (k v : List Int) : putKD (dTe kvs) (Zn.kI k) (vI v) = dTe (putE kvs k v) := by
  have e0 : ∀ e : Ent, (Zn.kI e.1 = Zn.kI k) = (e.1 = k) := fun e => propext ⟨kI_inj, fun h => by rw [h]⟩
  unfold putKD putE dTe
  have e1 : ((kvs.map fun e => (Zn.kI e.1, vI e.2)).any fun kv => decide (kv.1 = Zn.kI k)) = kvs.any fun e => decide (e.1 = k) := by
    rw [List.any_map]
    congr 1
    funext e
    simp [e0 e]
  rw [e1]
  split
  · rw [List.map_map, List.map_map]
    apply List.map_congr_left
    intro e _
    simp only [Function.comp]
    by_cases h : e.1 = k
    · rw [if_pos (by rw [h]), if_pos h]
    · rw [if_neg (fun z => h (kI_inj z)), if_neg h]
  · simp
theorem putE_ok {P : Ent → Prop} {kvs : List Ent} {k v : List Int} (h : ∀ e ∈ kvs, P e) (hk : P (k, v)) : ∀ e ∈ putE kvs k v, P e := by
  unfold putE
  split
  · intro e he
    obtain ⟨e', he', rfl⟩ := List.mem_map.mp he
    split
    · rename_i h2
      rw [h2]
      exact hk
    · exact h e' he'
  · intro e he
    rcases List.mem_append.mp he with he | he
    · exact h e he
    · rw [List.mem_singleton.mp he]; exact hk
theorem putE_len (kvs : List Ent) (k v : List Int) : (putE kvs k v).length ≤ kvs.length + 1 := by
  unfold putE
  split
  · rw [List.length_map]; omega
  · simp
theorem putE_nd {kvs : List Ent} {k v : List Int} (h : (kvs.map (·.1)).Nodup) : ((putE kvs k v).map (·.1)).Nodup := by
  unfold putE
  split
  · rw [List.map_map]
    have : ((fun e : Ent => e.1) ∘ fun e : Ent => if e.1 = k then (e.1, v) else e) = fun e => e.1 := by
      funext e
      simp only [Function.comp]
      split <;> rfl
    rw [this]
    exact h
  · rename_i hn
    rw [List.map_append, List.nodup_append]
    refine ⟨h, by simp, fun x hx y hy => ?_⟩
    simp only [List.map_cons, List.map_nil, List.mem_singleton] at hy
    obtain ⟨e, he, rfl⟩ := List.mem_map.mp hx
    intro z
    apply hn
    rw [List.any_eq_true]
    exact ⟨e, he, by simp [z, hy]⟩
theorem val_dTe {kvs : List Ent} (hn : (kvs.map (·.1)).Nodup) : ∀ {e : Ent}, e ∈ kvs → valD (dTe kvs) (Zn.kI e.1) = some (vI e.2) := by
  intro e he
  unfold valD dTe
  rw [List.find?_map]
  have : kvs.find? ((fun kv : List Key × D => decide (kv.1 = Zn.kI e.1)) ∘ fun e => (Zn.kI e.1, vI e.2)) = some e := by
    have h2 : ((fun kv : List Key × D => decide (kv.1 = Zn.kI e.1)) ∘ fun e => (Zn.kI e.1, vI e.2)) = fun e' : Ent => decide (e'.1 = e.1) := by
      funext e'
      simp only [Function.comp]
      exact decide_eq_decide.mpr ⟨kI_inj, fun h => by rw [h]⟩
    rw [h2]
    clear h2
    induction kvs with
    | nil => cases he
    | cons a kvs ih =>
      rw [List.map_cons, List.nodup_cons] at hn
      rw [List.find?_cons]
      rcases List.mem_cons.mp he with rfl | he
      · simp
      · have hne : a.1 ≠ e.1 := fun z => hn.1 (by rw [z]; exact List.mem_map.mpr ⟨e, he, rfl⟩)
        simp only [hne, decide_false]
        exact ih hn.2 he
  rw [this]
  rfl
end Z8.Wn
set_option Elab.async false
set_option linter.all false
set_option maxRecDepth 100000
set_option maxHeartbeats 4000000
namespace Z8.Wn
open PySem PySem.Spec PyProof.Rows L2 GxR Gn Dl
def tbW : TSd := (dSeq (dSet 5 (dCB tupOfD (dCons (dLc (dRange1 (dCons (dCall 2 sp__law_draw (dCons (dVar 0) (dCons (dOp addD (dVar 2) (dC (.int 1))) (dNil)))) (dNil))) (dGN 6) (dYes) (dCall 2 sp__law_draw (dCons (dVar 0) (dCons (dVar 1) (dNil)))) [6]) (dNil)))) (dPutT (dVar 3) (dVar 5) (dCall 2 sp__law_drawn_weights (dCons (dVar 0) (dCons (dVar 1) (dNil))))))
/-- what is known of the entries so far -/
structure KvB (m k : Nat) (kvs : List Ent) : Prop where
  ok : ∀ e ∈ kvs, EOk m k e
  nd : (kvs.map (·.1)).Nodup
theorem win_turn {i j p m k f : Nat} {kvs : List Ent} {a4 y5 : Option D} {M0 M : Mem} {Dd : EndsD} {E : KE'} (hm : 2 ≤ m ∧ m ≤ 8) (hk : k ≤ 3) (hp0 : M0.length ≤ p) (pi : p ≠ i) (pj : p ≠ j) (D0 : Dk i j (f + 40) M) (F0 : Fr i j M0 M) (hp : M[p]? = some (.dT (dTe kvs))) (B : KvB m k kvs) (hl : kvs.length ≤ 500)
    (hq : ∀ last ws M', TokOk m last → Dk i j f M' → Fr i j M0 M' → M'[p]? = some (.dT (dTe (putE kvs last ws))) → KvB m k (putE kvs last ws) → Dd.nx [some (.obj i), some (.int m), some (.int k), some (.obj p), a4, some (vI last), none] M') :
    tbW Dd E [some (.obj i), some (.int m), some (.int k), some (.obj p), a4, y5, none] M := by
  have hpl := (List.getElem?_eq_some_iff.mp hp).1
  simp [tbW]
  refine p__law_draw (f := f + 39) D0 (by omega) (by omega) fun r M1 r0 r1 D1 F1 => ?_
  obtain ⟨n, rfl⟩ : ∃ n : Nat, r = n := ⟨r.toNat, by omega⟩
  simp [rngD_map]
  refine ⟨by omega, ?_⟩
  refine lcD_drawn (i := i) (j := j) (c := 1) (f := f + 30) (fun i : Nat => D.int (i : Int)) (fun x => ∃ t : Int, x = .int t ∧ (0 ≤ t ∧ t < m)) (List.range n) M1 (fun _ _ => trivial) (D1.le (by simp; omega)) (by simp; omega) (fun a ha g M2 Q' D2 F2 kk => ?_) fun ds M2 p1 p2 D2 F2 e2 => ?_
  · simp
    exact p__law_draw D2 (by omega) (by omega) fun r M3 r0 r1 D3 F3 => kk _ _ ⟨r, rfl, r0, r1⟩ D3 F3
  · obtain ⟨ts, rfl, ht⟩ := ints_ex p1
    simp at p2
    have hp2 : M2[p]? = some (.dT (dTe kvs)) := ((F1.tr F2).2 _ hpl pi pj).trans hp
    have hpl2 := (List.getElem?_eq_some_iff.mp hp2).1
    simp [e2]
    refine p__law_drawn_weights (f := f) (D2.le (by omega)) (by omega) (by omega) fun ws M3 hw D3 F3 => ?_
    have hp3 : M3[p]? = some (.dT (dTe kvs)) := (F3.2 _ hpl2 pi pj).trans hp2
    have hpl3 := (List.getElem?_eq_some_iff.mp hp3).1
    have hd : (dTe kvs).length < sizeLine := by unfold dTe; rw [List.length_map]; exact Nat.lt_of_lt_of_le (Nat.lt_succ_of_le hl) (small_le (n := 501) (by decide))
    refine ⟨_, hp3, _, keysD_ints ts, hd, ?_⟩
    rw [put_dTe]
    have ho : EOk m k (ts, ws) := ⟨⟨ht, by show ts.length ≤ k; omega⟩, hw⟩
    exact hq ts ws _ ht (D3.set pi pj) ((((F0.tr F1).tr F2).tr F3).set3 hp0) (List.getElem?_set_self hpl3) ⟨putE_ok B.ok ho, putE_nd B.nd⟩
theorem win_go {i j p m k f : Nat} {M0 : Mem} {Dd : EndsD} {E : KE'} (hm : 2 ≤ m ∧ m ≤ 8) (hk : k ≤ 3) (hp0 : M0.length ≤ p) (pi : p ≠ i) (pj : p ≠ j) : ∀ (as : List Nat) (kvs : List Ent) (a4 y5 : Option D) (M : Mem), Dk i j (f + 40 * as.length) M → Fr i j M0 M → M[p]? = some (.dT (dTe kvs)) → KvB m k kvs → kvs.length + as.length ≤ 100 →
    (∀ kvs' a4 y5 M', Dk i j f M' → Fr i j M0 M' → M'[p]? = some (.dT (dTe kvs')) → KvB m k kvs' → kvs'.length ≤ 100 → Dd.nx [some (.obj i), some (.int m), some (.int k), some (.obj p), a4, y5, none] M') →
    forD (dGN 4) tbW (fun _ => True) Dd E (as.map fun n : Nat => D.int (n : Int)) [some (.obj i), some (.int m), some (.int k), some (.obj p), a4, y5, none] M
  | [], kvs, a4, y5, M, D0, F0, hp, B, hl, h => ⟨trivial, h kvs a4 y5 M (by simpa using D0) F0 hp B (by simpa using hl)⟩
  | a :: as, kvs, a4, y5, M, D0, F0, hp, B, hl, h => by
    refine ⟨trivial, ?_⟩
    have e0 : f + 40 * (a :: as).length = (f + 40 * as.length) + 40 := by rw [List.length_cons, Nat.mul_succ, Nat.add_assoc]
    rw [e0] at D0
    have hl' : kvs.length + as.length + 1 ≤ 100 := by simpa [Nat.add_assoc] using hl
    refine win_turn hm hk hp0 pi pj D0 F0 hp B (by omega) fun last ws M' ht D1 F1 hp1 B1 => ?_
    have := putE_len kvs last ws
    exact win_go hm hk hp0 pi pj as (putE kvs last ws) _ _ M' D1 F1 hp1 B1 (by omega) h
theorem lex_tot : ∀ {x y : List Int}, HT.lexLt y x = false → x ≠ y → HT.lexLt x y = true
  | [], [], _, h => absurd rfl h
  | [], y :: ys, _, _ => rfl
  | x :: xs, [], h, _ => by simp [HT.lexLt] at h
  | x :: xs, y :: ys, h, hne => by
    rw [HT.lexLt_cons] at h ⊢
    by_cases e : x = y
    · subst e
      rw [if_pos rfl] at h ⊢
      exact lex_tot h fun z => hne (by rw [z])
    · rw [if_neg (Ne.symm e)] at h
      rw [if_neg e]
      have := of_decide_eq_false h
      exact decide_eq_true (by omega)
theorem ents_of {kvs : List Ent} {ks : List (List Int)} (hp : ks.Perm (kvs.map (·.1))) : ∃ es : List Ent, es.map (·.1) = ks ∧ ∀ e ∈ es, e ∈ kvs := by
  have h : ∀ k ∈ ks, ∃ e, e ∈ kvs ∧ e.1 = k := fun k hk => by
    obtain ⟨e, he, e2⟩ := List.mem_map.mp (hp.mem_iff.mp hk)
    exact ⟨e, he, e2⟩
  clear hp
  induction ks with
  | nil => exact ⟨[], rfl, fun e he => by cases he⟩
  | cons k ks ih =>
    obtain ⟨es, h1, h2⟩ := ih fun k' hk' => h k' (List.mem_cons_of_mem _ hk')
    obtain ⟨e, he, rfl⟩ := h k (by simp)
    exact ⟨e :: es, by simp [h1], fun e' he' => (List.mem_cons.mp he').elim (fun z => z ▸ he) (h2 e')⟩
theorem p__law_drawn_window {i j f : Nat} {M : Mem} {Q : KD} {E : KE'} (h : Dk i j (f + 1300) M) (hq : ∀ W M', WinB W → W.ents.length ≤ 100 → Dk i j f M' → Fr i j M M' → Q W.d M') : sp__law_drawn_window [.obj i] M Q E := by
  simp [sp__law_drawn_window, r__law_drawn_window]
  refine ⟨small_le (n := 7) (by decide), ?_⟩
  have hl1 : (M ++ [Cell.lst [.int 2, .int 3, .int 4, .int 5, .int 6, .int 3, .int 8]])[M.length]? = some (.lst [.int 2, .int 3, .int 4, .int 5, .int 6, .int 3, .int 8]) := by simp
  refine p__law_pick_l (f := f + 1299) (n := M.length) (h.app _) hl1 (by simp) (by simp) h.out.1 h.out.2 fun dm M1 hdm D1 F1 => ?_
  obtain ⟨m, rfl, hm⟩ : ∃ m : Nat, dm = .int m ∧ 2 ≤ m ∧ m ≤ 8 := by
    simp only [List.mem_cons, List.not_mem_nil, or_false] at hdm
    rcases hdm with rfl | rfl | rfl | rfl | rfl | rfl | rfl
    · exact ⟨2, rfl, by omega⟩
    · exact ⟨3, rfl, by omega⟩
    · exact ⟨4, rfl, by omega⟩
    · exact ⟨5, rfl, by omega⟩
    · exact ⟨6, rfl, by omega⟩
    · exact ⟨3, rfl, by omega⟩
    · exact ⟨8, rfl, by omega⟩
  refine ⟨small_le (n := 5) (by decide), ?_⟩
  have hl2 : (M1 ++ [Cell.lst [.int 1, .int 2, .int 0, .int 1, .int 3]])[M1.length]? = some (.lst [.int 1, .int 2, .int 0, .int 1, .int 3]) := by simp
  refine p__law_pick_l (f := f + 1298) (n := M1.length) (D1.app _) hl2 (by simp) (by simp) D1.out.1 D1.out.2 fun dk M2 hdk D2 F2 => ?_
  obtain ⟨k, rfl, hk⟩ : ∃ k : Nat, dk = .int k ∧ k ≤ 3 := by
    simp only [List.mem_cons, List.not_mem_nil, or_false] at hdk
    rcases hdk with rfl | rfl | rfl | rfl | rfl
    · exact ⟨1, rfl, by omega⟩
    · exact ⟨2, rfl, by omega⟩
    · exact ⟨0, rfl, by omega⟩
    · exact ⟨1, rfl, by omega⟩
    · exact ⟨3, rfl, by omega⟩
  refine ⟨small_le (n := 3) (by decide), small_le (n := 4) (by decide), ?_⟩
  have hl3 : (M2 ++ [Cell.dT [], Cell.lst [.int 9, .int 9, .int 9, .int 30]])[M2.length + 1]? = some (.lst [.int 9, .int 9, .int 9, .int 30]) := by simp
  have o2 := D2.out
  have D2' : Dk i j (f + 1298) (M2 ++ [Cell.dT [], Cell.lst [.int 9, .int 9, .int 9, .int 30]]) := D2.app _
  have F2' : Fr i j M (M2 ++ [Cell.dT [], Cell.lst [.int 9, .int 9, .int 9, .int 30]]) := ((((Fr.app i j M _).tr F1).tr (Fr.app _ _ _ _)).tr F2).tr (Fr.app _ _ _ _)
  have hpe : (M2 ++ [Cell.dT [], Cell.lst [.int 9, .int 9, .int 9, .int 30]])[M2.length]? = some (.dT (dTe [])) := by simp [dTe]
  have hMp : M.length ≤ M2.length := Nat.le_trans (Nat.le_trans (by simp) F1.1) (Nat.le_trans (by simp) F2.1)
  have nd : M2.length + 1 ≠ i ∧ M2.length + 1 ≠ j := by
    obtain ⟨ns, mm, kk, q⟩ := D2
    have := (List.getElem?_eq_some_iff.mp q.d).1
    have := (List.getElem?_eq_some_iff.mp q.l).1
    omega
  generalize hM3 : M2 ++ [Cell.dT [], Cell.lst [.int 9, .int 9, .int 9, .int 30]] = M3 at hl3 D2' F2' hpe ⊢
  have hpl := (List.getElem?_eq_some_iff.mp hpe).1
  refine p__law_pick_l (f := f + 1297) (n := M2.length + 1) D2' hl3 (by simp) (by simp) nd.1 nd.2 fun dn M4 hdn D4 F4 => ?_
  obtain ⟨n9, rfl, hn9⟩ : ∃ n9 : Nat, dn = .int n9 ∧ 0 < n9 ∧ n9 ≤ 30 := by
    simp only [List.mem_cons, List.not_mem_nil, or_false] at hdn
    rcases hdn with rfl | rfl | rfl | rfl
    · exact ⟨9, rfl, by omega⟩
    · exact ⟨9, rfl, by omega⟩
    · exact ⟨9, rfl, by omega⟩
    · exact ⟨30, rfl, by omega⟩
  refine p__law_draw (f := f + 1296) D4 (by omega) (by omega) fun r M5 r0 r1 D5 F5 => ?_
  obtain ⟨n, rfl⟩ : ∃ n : Nat, r = n := ⟨r.toNat, by omega⟩
  refine ⟨_, rfl, by omega, by omega, ?_⟩
  have en : ((n : Int)).toNat = n := by omega
  rw [en, rngD_map]
  simp only [Int.zero_add]
  have hp5 : M5[M2.length]? = some (.dT (dTe [])) := ((F4.tr F5).2 _ hpl o2.1 o2.2).trans hpe
  refine win_go (M0 := M) (f := f + 50) hm hk hMp o2.1 o2.2 (List.range n) [] none none M5 (D5.le (by simp; omega)) ((F2'.tr F4).tr F5) hp5 ⟨(fun e he => by cases he), by simp⟩ (by simp; omega) fun kvs a4 y5 M6 D6 F6 hp6 B6 hl6 => ?_
  simp
  refine ⟨dTe kvs, kvs.map (·.1), hp6, by simp [dTe, Function.comp_def], fun ks hperm hsrt => ?_⟩
  obtain ⟨es, rfl, hes⟩ := ents_of hperm
  have hlen : es.length = kvs.length := by
    have := hperm.length_eq
    simpa using this
  have hpl6 := (List.getElem?_eq_some_iff.mp hp6).1
  have o6 := D6.out
  have D7 : Dk i j (f + 50) (M6 ++ [.lst ((es.map (·.1)).map kyI)]) := D6.app _
  have F7 : Fr i j M (M6 ++ [.lst ((es.map (·.1)).map kyI)]) := F6.tr (Fr.app _ _ _ _)
  have hp7 : (M6 ++ [.lst ((es.map (·.1)).map kyI)])[M2.length]? = some (.dT (dTe kvs)) := by rw [List.getElem?_append_left hpl6]; exact hp6
  have hl7 : (M6 ++ [.lst ((es.map (·.1)).map kyI)])[M6.length]? = some (.lst (es.map fun e => kyI e.1)) := by simp [Function.comp_def]
  generalize M6 ++ [Cell.lst ((es.map (·.1)).map kyI)] = M7 at D7 F7 hp7 hl7 ⊢
  refine ⟨_, hl7, ?_⟩
  refine lcD_ex (fun e : Ent => kyI e.1) entD es M7 (fun M' x => x.at hl7) (fun e he M8 Q8 x8 k8 => ?_) (by omega) fun M8 x8 l8 => ?_
  · simp
    refine ⟨M2.length, dTe kvs, _, _, _, rfl, x8.at hp7, rfl, keysD_ints e.1, val_dTe B6.nd (hes e he), ?_⟩
    refine ⟨small_le (n := 2) (by decide), ?_⟩
    have := k8 []
    rw [List.append_nil] at this
    exact this
  obtain ⟨G8, rfl⟩ := x8
  simp [l8]
  refine p__law_drawn_weights (f := f) ((D7.app _).le (by omega)) (by omega) (by omega) fun ws M9 hw D9 F9 => ?_
  refine ⟨small_le (n := 5) (by decide), ?_⟩
  refine hq ⟨m, k, es, ws⟩ M9 ⟨⟨m, k, rfl, rfl, hm.1, hm.2, hk, fun e he => B6.ok e (hes e he), hw⟩, by show es.length ≤ 200; omega, ?_⟩ (by show es.length ≤ 100; omega) D9 ((F7.tr (Fr.app _ _ _ _)).tr F9)
  have nd : (es.map (·.1)).Nodup := hperm.nodup_iff.mpr B6.nd
  exact (hsrt.and nd).imp fun {x y} h => lex_tot h.1 h.2
end Z8.Wn
set_option Elab.async false
set_option linter.all false
set_option maxRecDepth 100000
set_option maxHeartbeats 4000000
namespace Z8.Wn
open PySem PySem.Spec PyProof.Rows L2 GxR Gn Dl
/-! ### equal rows of ints -/
theorem eqv_ints : ∀ a b : List Int, PyData.eqvAll (a.map .int) (b.map .int) = decide (a = b)
  | [], [] => by rw [List.map_nil, PyData.eqvAll]; rfl
  | [], b :: bs => by rw [List.map_nil, List.map_cons, PyData.eqvAll]; rfl
  | a :: as, [] => by rw [List.map_nil, List.map_cons, PyData.eqvAll]; rfl
  | a :: as, b :: bs => by
    rw [List.map_cons, List.map_cons, PyData.eqvAll, eqv_ints as bs, PyData.eqv]
    by_cases h : a = b
    · subst h; simp
    · simp [h]
theorem eqv_pI (a b : List Int) : PyData.eqv (pI a) (pI b) = decide (a = b) := by
  unfold pI
  rw [PyData.eqv]
  exact eqv_ints a b
theorem eqA_vI {neg : Bool} {a b : List Int} {M : Mem} {Q : KD} (h : Q (.bl (if neg then !decide (a = b) else decide (a = b))) M) : eqA neg (vI a) (vI b) M Q := by
  refine eqA_tup.mpr ?_
  refine eqD_of (p := pI a) (q := pI b) (Pu.vI a) (Pu.vI b) ((Pn.pI a).sh (by decide)) ((Pn.pI b).sh (by decide)) ?_
  rw [eqv_pI]
  exact h
/-! ### kinds of windows -/
theorem allD_tt {α : Type} {gd : TGd} {te : TEd} {vs : List Nat} {Q : KD} {S : Sl} (dd : α → D) (as : List α) (M : Mem)
    (el : ∀ a ∈ as, ∀ (G : Mem) (Q' : KD), (∀ G', Q' (.bl true) (M ++ G ++ G')) → gd (dd a) (wipeD S vs) (M ++ G) fun S1 M1 => te S1 M1 Q' E00) (h : ∀ G, Q (.bl true) (M ++ G)) : allD gd te vs (fun _ => True) Q S (as.map dd) M := by
  have := allD_of (gd := gd) (te := te) (vs := vs) (alive := fun _ => True) (Q := Q) (S := S) dd (fun _ => true) as M (fun _ => trivial) el (by intro G; rw [all_tt]; exact h G) []
  rwa [List.append_nil] at this
theorem p_are_weights {m : Nat} {ws : List Int} {M : Mem} {Q : KD} {E : KE'} (W : WOk m ws) (h : ∀ G, Q (.bl true) (M ++ G)) : sp_are_weights [vI ws] M Q E := by
  simp [sp_are_weights, r_are_weights, vI]
  refine allD_tt D.int ws M (fun n hn G Q' k => ?_) fun G => ?_
  · simp
    refine p_is_integer_from ?_
    simp [(W.bd n hn).1]
    simpa using k []
  · have hp := W.pos
    simp [hp]
    exact h G
theorem p__are_model_weights {m : Nat} {ws : List Int} {M : Mem} {Q : KD} {E : KE'} (W : WOk m ws) (h : ∀ G, Q (.bl true) (M ++ G)) : sp__are_model_weights [vI ws, .int m] M Q E := by
  simp [sp__are_model_weights, r__are_model_weights]
  refine p_are_weights W fun G => ?_
  simp [vI, W.len]
  exact h G
theorem p__is_entry {m k : Nat} {e : Ent} {M : Mem} {Q : KD} {E : KE'} (O : EOk m k e) (h : ∀ G, Q (.bl true) (M ++ G)) : sp__is_entry [entD e, .int m, .int k] M Q E := by
  simp [sp__is_entry, r__is_entry, entD]
  apply p_is_tuple_of
  simp
  refine p_are_tokens fun G1 => ?_
  rw [tok_all O.1.1]
  have hl := O.1.2
  simp [vI, hl]
  refine p__are_model_weights O.2 fun G2 => ?_
  have := h (G1 ++ G2)
  rw [← List.append_assoc] at this
  exact this
theorem cutL_1 {α : Type} (xs : List α) : cutL xs (some 1) none = xs.tail := by
  unfold cutL HT.sIx
  cases xs with
  | nil => simp
  | cons x xs =>
    have : (1 : Int) ≤ (xs.length : Int) + 1 := by omega
    simp [HT.sIx]
theorem zip_tail {ks : List (List Int)} (h : ks.Pairwise fun x y => HT.lexLt x y = true) : ∀ p ∈ ks.zip ks.tail, HT.lexLt p.1 p.2 = true := by
  induction ks with
  | nil => intro p hp; simp at hp
  | cons x ks ih =>
    rw [List.pairwise_cons] at h
    cases ks with
    | nil => intro p hp; simp at hp
    | cons y ks =>
      intro p hp
      rw [List.tail_cons, List.zip_cons_cons] at hp
      rcases List.mem_cons.mp hp with rfl | hp
      · exact h.1 y (by simp)
      · exact ih h.2 p hp
theorem zipD_ky (xs ys : List (List Int)) : zipD (xs.map kyI) (ys.map kyI) = (xs.zip ys).map fun p => D.tup [kyI p.1, kyI p.2] := by
  unfold zipD
  rw [List.zipWith_map_left, List.zipWith_map_right, List.zip, List.map_zipWith]
theorem p_is_ascending {n : Nat} {ks : List (List Int)} {M : Mem} {Q : KD} {E : KE'} (hn : M[n]? = some (.lst (ks.map kyI))) (hl : ks.length ≤ 900) (hs : ks.Pairwise fun x y => HT.lexLt x y = true) (h : ∀ G, Q (.bl true) (M ++ G)) : sp_is_ascending [.obj n] M Q E := by
  have hnl := (List.getElem?_eq_some_iff.mp hn).1
  simp [sp_is_ascending, r_is_ascending]
  refine ⟨_, hn, ?_⟩
  simp only [cutL_1, ← List.map_tail]
  have h1 : (M ++ [Cell.lst (ks.tail.map kyI)])[n]? = some (.lst (ks.map kyI)) := by rw [List.getElem?_append_left hnl]; exact hn
  have h2 : (M ++ [Cell.lst (ks.tail.map kyI)])[M.length]? = some (.lst (ks.tail.map kyI)) := by simp
  refine ⟨_, h1, ?_⟩
  have hQ : ∀ G, Q (.bl true) (M ++ [Cell.lst (ks.tail.map kyI)] ++ G) := fun G => by rw [List.append_assoc]; exact h _
  clear h
  have e1 : M ++ [Cell.lst (ks.tail.map kyI), Cell.lst []] = M ++ [Cell.lst (ks.tail.map kyI)] ++ [Cell.lst []] := by rw [List.append_assoc]; rfl
  have e2 : M.length + 1 = (M ++ [Cell.lst (ks.tail.map kyI)]).length := by rw [List.length_append]; rfl
  rw [e1, e2]
  generalize hm : M.length = m at h2 ⊢
  generalize M ++ [Cell.lst (ks.tail.map kyI)] = M1 at h1 h2 hQ ⊢
  rw [zipD_ky]
  refine lcD_ex (fun p : List Int × List Int => D.tup [kyI p.1, kyI p.2]) (fun p => .bl true) (ks.zip ks.tail) M1 (fun M' x => ⟨x.at h1, x.at h2⟩) (fun p hp M2 Q' x k => ?_) (by simp; omega) fun M2 x e => ?_
  · have hlt := zip_tail hs p hp
    have hk := k []
    rw [List.append_nil] at hk
    simp [kyI, cmpD]
    rw [hlt]
    exact hk
  · simp
    refine ⟨(ks.zip ks.tail).map fun _ => true, by rw [e]; simp [Function.comp_def], ?_⟩
    obtain ⟨G, rfl⟩ := x
    simp [all_tt]
    exact hQ G
theorem win_at0 (W : Win) : atI [D.str "window", .int W.many, .int W.k, .tup (W.ents.map entD), vI W.dflt] 0 = some (.str "window") := rfl
theorem win_at1 (W : Win) : atI [D.str "window", .int W.many, .int W.k, .tup (W.ents.map entD), vI W.dflt] 1 = some (.int W.many) := rfl
theorem win_at2 (W : Win) : atI [D.str "window", .int W.many, .int W.k, .tup (W.ents.map entD), vI W.dflt] 2 = some (.int W.k) := rfl
theorem win_at3 (W : Win) : atI [D.str "window", .int W.many, .int W.k, .tup (W.ents.map entD), vI W.dflt] 3 = some (.tup (W.ents.map entD)) := rfl
theorem win_at4 (W : Win) : atI [D.str "window", .int W.many, .int W.k, .tup (W.ents.map entD), vI W.dflt] 4 = some (vI W.dflt) := rfl
theorem p__is_window_model {W : Win} {M : Mem} {Q : KD} {E : KE'} (B : WinB W) (h : ∀ G, Q (.bl true) (M ++ G)) : sp__is_window_model [W.d] M Q E := by
  obtain ⟨m, k, em, ek, m2, m8, k3, he, hd⟩ := B.ex
  have hasc := B.asc
  have hfew := B.few
  obtain ⟨many, kk, ents, dflt⟩ := W
  simp only at em ek he hd hasc hfew
  subst em ek
  simp [sp__is_window_model, r__is_window_model, Win.d]
  apply p_is_tuple_of
  simp
  refine ⟨_, rfl, ?_⟩
  simp
  apply p_is_integer_from
  have m2' : (2 : Int) ≤ m := by omega
  simp [m2']
  apply p_is_integer_from
  simp
  refine allD_tt entD ents M (fun e he1 G Q' k => ?_) fun G => ?_
  · simp
    exact p__is_entry (he e he1) k
  · simp
    refine p__are_model_weights hd fun G2 => ?_
    simp
    have hQ : ∀ G3, Q (.bl true) (M ++ (G ++ G2) ++ G3) := fun G3 => by rw [List.append_assoc]; exact h _
    have e1 : M ++ (G ++ (G2 ++ [Cell.lst []])) = M ++ (G ++ G2) ++ [Cell.lst []] := by simp
    have e2 : M.length + (G.length + G2.length) = (M ++ (G ++ G2)).length := by simp
    rw [e1, e2]
    generalize M ++ (G ++ G2) = M1 at hQ ⊢
    refine lcD_ex entD (fun e => kyI e.1) ents M1 (fun M' x => trivial) (fun e he1 M2 Q' x k => ?_) (by omega) fun M2 x e2 => ?_
    · have hk := k []
      rw [List.append_nil] at hk
      simp [entD]
      exact hk
    · obtain ⟨G3, rfl⟩ := x
      refine p_is_ascending (n := M1.length) (ks := ents.map (·.1)) (by rw [e2]; simp [Function.comp_def]) (by simp; omega) hasc fun G4 => ?_
      rw [List.append_assoc]
      exact hQ _
theorem p_is_model {W : Win} {M : Mem} {Q : KD} {E : KE'} (B : WinB W) (h : ∀ G, Q (.bl true) (M ++ G)) : sp_is_model [W.d] M Q E := by
  simp [sp_is_model, r_is_model]
  refine p__is_window_model B fun G => ?_
  simp
  exact h G
theorem p_need_model {W : Win} {M : Mem} {Q : KD} {E : KE'} (B : WinB W) (h : ∀ G, Q .non (M ++ G)) : sp__need_model [W.d] M Q E := by
  simp [sp__need_model, r__need_model]
  exact p_is_model B fun G => by simpa using h G
theorem p_need_tokens {W : Win} {ts : List Int} {M : Mem} {Q : KD} {E : KE'} (ht : TokOk W.many ts) (hne : ts ≠ []) (h : ∀ G, Q .non (M ++ G)) : sp__need_tokens [W.d, vI ts] M Q E := by
  simp [sp__need_tokens, r__need_tokens, Win.d]
  refine ⟨_, rfl, ?_⟩
  refine p_are_tokens fun G => ?_
  rw [tok_all ht]
  simp [vI]
  refine eqD_empty (ps := ts.map .int) (Pus.map fun a _ => Pu.int a) (k := 1) (Pn.pI ts) (by decide) ?_
  have hn2 : (ts.map D.int).isEmpty = false := by
    cases hp : ts with
    | nil => exact absurd hp hne
    | cons _ _ => rfl
  rw [hn2]
  simp
  exact h G
end Z8.Wn
set_option Elab.async false
set_option linter.all false
set_option maxRecDepth 100000
set_option maxHeartbeats 4000000
namespace Z8.Wn
open PySem PySem.Spec PyProof.Rows L2 GxR Gn Dl
def lastI (k : Nat) (ts : List Int) : List Int := ts.drop (ts.length - k)
def lookE (es : List Ent) (last : List Int) : Option (List Int) := (es.find? fun e => decide (e.1 = last)).map (·.2)
def lookW (W : Win) (ts : List Int) : List Int := (lookE W.ents (lastI W.k.toNat ts)).getD W.dflt
theorem cut_last (k : Nat) (ts : List Int) : cutL (ts.map D.int) (some (if k < ts.length then (ts.length : Int) - (k : Int) else 0)) none = (lastI k ts).map D.int := by
  unfold cutL HT.sIx lastI
  rw [List.map_drop]
  simp
  split
  · have h1 : ¬ ((ts.length : Int) - (k : Int) < 0) := by omega
    have h2 : (ts.length : Int) - (k : Int) ≤ ts.length := by omega
    have e : ((ts.length : Int) - (k : Int)).toNat = ts.length - k := by omega
    simp [h1, h2, e]
    exact List.take_of_length_le (by simp)
  · have e : ts.length - k = 0 := by omega
    simp [e]
    exact List.take_of_length_le (by simp)
theorem look_go {a0 a1 a2 a3 a4 a5 : Option D} {last : List Int} {M : Mem} {Dd : EndsD} {E : KE'} : ∀ (es : List Ent) (y7 y8 : Option D), (∀ r, lookE es last = some r → Dd.rt (vI r) M) → (lookE es last = none → ∀ y7 y8, Dd.nx [a0, a1, a2, a3, a4, a5, some (vI last), y7, y8] M) →
    forD (dGTup 2 (dGCons (dGN 7) (dGCons (dGN 8) (dGNil)))) (dIfS (dTest (dOp (eqA false) (dVar 7) (dVar 6))) (dRet (dVar 8)) (dNext)) (fun _ => True) Dd E (es.map entD) [a0, a1, a2, a3, a4, a5, some (vI last), y7, y8] M
  | [], y7, y8, h1, h2 => ⟨trivial, h2 rfl y7 y8⟩
  | e :: es, y7, y8, h1, h2 => by
    refine ⟨trivial, ?_⟩
    simp [entD]
    refine eqA_vI ?_
    by_cases he : e.1 = last
    · simp [he]
      exact h1 e.2 (by simp [lookE, he])
    · simp [he]
      have e2 : lookE (e :: es) last = lookE es last := by simp [lookE, he]
      exact look_go es _ _ (fun r hr => h1 r (e2.trans hr)) fun hn => h2 (e2.trans hn)
theorem p__window_weights {W : Win} {ts : List Int} {M : Mem} {Q : KD} {E : KE'} (hk : 0 ≤ W.k) (h : Q (vI (lookW W ts)) M) : sp__window_weights [W.d, vI ts] M Q E := by
  obtain ⟨k, ek⟩ : ∃ k : Nat, W.k = k := ⟨W.k.toNat, by omega⟩
  simp [sp__window_weights, r__window_weights, Win.d, ek]
  simp [vI, cut_last]
  refine look_go (last := lastI k ts) W.ents none none (fun r hr => ?_) fun hn y7 y8 => ?_
  · simp
    simpa [lookW, ek, hr] using h
  · simp
    simpa [lookW, ek, hn, vI] using h
theorem lawlook_go {a0 a1 : Option D} {last : List Int} {M : Mem} {Dd : EndsD} {E : KE'} : ∀ (es : List Ent) (y3 : Option D), (∀ r, lookE es last = some r → Dd.rt (vI r) M) → (lookE es last = none → ∀ y3, Dd.nx [a0, a1, some (vI last), y3] M) →
    forD (dGN 3) (dIfS (dTest (dOp (eqA false) (dOp ixA (dVar 3) (dC (.int 0))) (dVar 2))) (dRet (dOp ixA (dVar 3) (dC (.int 1)))) (dNext)) (fun _ => True) Dd E (es.map entD) [a0, a1, some (vI last), y3] M
  | [], y3, h1, h2 => ⟨trivial, h2 rfl y3⟩
  | e :: es, y3, h1, h2 => by
    refine ⟨trivial, ?_⟩
    simp [entD]
    refine ⟨_, rfl, eqA_vI ?_⟩
    by_cases he : e.1 = last
    · simp [he]
      exact ⟨_, rfl, h1 e.2 (by simp [lookE, he])⟩
    · simp [he]
      have e2 : lookE (e :: es) last = lookE es last := by simp [lookE, he]
      exact lawlook_go es _ (fun r hr => h1 r (e2.trans hr)) fun hn => h2 (e2.trans hn)
theorem p__law_window_weights {W : Win} {ts : List Int} {M : Mem} {Q : KD} {E : KE'} (hk : 0 ≤ W.k) (h : Q (vI (lookW W ts)) M) : sp__law_window_weights [W.d, vI ts] M Q E := by
  obtain ⟨k, ek⟩ : ∃ k : Nat, W.k = k := ⟨W.k.toNat, by omega⟩
  simp [sp__law_window_weights, r__law_window_weights, Win.d, ek]
  simp [vI]
  refine ⟨_, rfl, ?_⟩
  simp [cut_last]
  refine ⟨_, rfl, ?_⟩
  simp
  refine lawlook_go (last := lastI k ts) W.ents none (fun r hr => ?_) fun hn y3 => ?_
  · simp
    simpa [lookW, ek, hr] using h
  · simp
    refine ⟨_, rfl, ?_⟩
    simpa [lookW, ek, hn, vI] using h
end Z8.Wn
set_option Elab.async false
set_option linter.all false
set_option maxRecDepth 100000
set_option maxHeartbeats 4000000
namespace Z8.Wn
open PySem PySem.Spec PyProof.Rows L2 GxR Gn Dl
def rowW (t : Int) : D := .tup [.int t]
def rowsW (ts : List Int) : D := .tup (ts.map rowW)
theorem win_win : (Str.ofString "window" = Str.ofString "window") = True := by simp
theorem WinB.k0 {W : Win} (B : WinB W) : 0 ≤ W.k := by
  obtain ⟨m, k, em, ek, _⟩ := B.ex
  omega
theorem p_next_row {W : Win} {ts : List Int} {t : Int} {M : Mem} {Q : KD} {E : KE'} (B : WinB W) (hl : ts.length ≤ 500)
    (h : ∀ G, Q (.tup [rowW t, vI (lookW W (ts ++ [t]))]) (M ++ G)) : sp_next_row [W.d, rowsW ts, .int t] M Q E := by
  simp [sp_next_row, r_next_row, Win.d, win_at0, rowsW]
  refine lcD_ex rowW (fun t => .int t) ts M (fun M' x => trivial) (fun a ha M2 Q' x k => ?_) (by omega) fun M2 x e2 => ?_
  · have hk := k []
    rw [List.append_nil] at hk
    simp [rowW]
    exact ⟨_, rfl, hk⟩
  · obtain ⟨G, rfl⟩ := x
    simp [e2]
    have e : ts.map D.int ++ [D.int t] = (ts ++ [t]).map D.int := by simp
    rw [e]
    refine ⟨small_le (n := 1) (by omega), small_le (n := ts.length + 1) (by omega), small_le (n := 1) (by omega), ?_⟩
    refine p__window_weights (W := W) (ts := ts ++ [t]) B.k0 ?_
    exact ⟨small_le (n := 2) (by omega), h G⟩
theorem rows_after_go {W : Win} {a1 : Option D} {D0 : EndsD} {E : KE'} (B : WinB W) : ∀ (ts acc : List Int) (y3 y4 : Option D) (M : Mem), acc.length + ts.length ≤ 300 →
    (∀ y3 y4 M', Ext M M' → D0.nx [some W.d, a1, some (rowsW (acc ++ ts)), y3, y4] M') →
    forD (dGN 3) (dSeq (dSet 4 (dOp ixA (dCall 3 sp_next_row (dCons (dVar 0) (dCons (dVar 2) (dCons (dVar 3) (dNil))))) (dC (.int 0)))) (dSet 2 (dTup (dStar (dVar 2) (dCons (dVar 4) (dNil)))))) (fun _ => True) D0 E (ts.map D.int) [some W.d, a1, some (rowsW acc), y3, y4] M
  | [], acc, y3, y4, M, hl, h => ⟨trivial, by have := h y3 y4 M (Ext.refl M); rwa [List.append_nil] at this⟩
  | t :: ts, acc, y3, y4, M, hl, h => by
    have hl' : acc.length + ts.length + 1 ≤ 300 := by simpa [Nat.add_assoc] using hl
    refine ⟨trivial, ?_⟩
    simp
    refine p_next_row B (by omega) fun G => ?_
    refine ixA_tup.mpr ⟨_, rfl, ?_⟩
    simp [rowsW]
    refine ⟨small_le (n := acc.length + 1) (by omega), ?_⟩
    have es : acc.map rowW ++ [rowW t] = (acc ++ [t]).map rowW := by simp
    rw [es]
    refine rows_after_go B ts (acc ++ [t]) _ _ (M ++ G) (by simp; omega) fun y3 y4 M' x => ?_
    have := h y3 y4 M' ((Ext.app M G).tr x)
    rwa [List.append_assoc]
theorem p_rows_after {W : Win} {ts : List Int} {M : Mem} {Q : KD} {E : KE'} (B : WinB W) (hl : ts.length ≤ 300) (h : ∀ G, Q (rowsW ts) (M ++ G)) : sp_rows_after [W.d, vI ts] M Q E := by
  simp [sp_rows_after, r_rows_after, vI]
  refine rows_after_go B ts [] none none M (by simpa using hl) fun y3 y4 M' x => ?_
  obtain ⟨G, rfl⟩ := x
  simp
  exact h G
theorem p_rows_of {W : Win} {ts : List Int} {M : Mem} {Q : KD} {E : KE'} (B : WinB W) (ht : TokOk W.many ts) (hne : ts ≠ []) (hl : ts.length ≤ 300) (h : ∀ G, Q (rowsW ts) (M ++ G)) : sp_rows_of [W.d, vI ts] M Q E := by
  simp [sp_rows_of, r_rows_of]
  refine p_need_model B fun G1 => ?_
  refine p_need_tokens ht hne fun G2 => ?_
  refine p_rows_after B hl fun G3 => ?_
  have := h (G1 ++ G2 ++ G3)
  simpa using this
theorem p_weights_after {W : Win} {ts : List Int} {M : Mem} {Q : KD} {E : KE'} (B : WinB W) (h : Q (vI (lookW W ts)) M) : sp_weights_after [W.d, vI ts] M Q E := by
  simp [sp_weights_after, r_weights_after, Win.d, win_at0]
  exact p__window_weights (W := W) B.k0 h
theorem p_model_weights {W : Win} {ts : List Int} {M : Mem} {Q : KD} {E : KE'} (B : WinB W) (ht : TokOk W.many ts) (hne : ts ≠ []) (h : ∀ G, Q (vI (lookW W ts)) (M ++ G)) : sp_model_weights [W.d, vI ts] M Q E := by
  simp [sp_model_weights, r_model_weights]
  refine p_need_model B fun G1 => ?_
  refine p_need_tokens ht hne fun G2 => ?_
  refine p_weights_after B ?_
  have := h (G1 ++ G2)
  simpa using this
theorem p_is_row {W : Win} {t : Int} {M : Mem} {Q : KD} {E : KE'} (ht : 0 ≤ t ∧ t < W.many) (h : Q (.bl true) M) : sp_is_row [W.d, rowW t] M Q E := by
  simp [sp_is_row, r_is_row, Win.d, win_at0, win_at1, rowW]
  apply p_is_tuple_of
  simp
  refine ⟨_, rfl, p_is_token ?_⟩
  simp [ht.1, ht.2]
  exact h
theorem p_are_rows {W : Win} {ts : List Int} {M : Mem} {Q : KD} {E : KE'} (ht : TokOk W.many ts) (h : ∀ G, Q (.bl true) (M ++ G)) : sp_are_rows [W.d, rowsW ts] M Q E := by
  simp [sp_are_rows, r_are_rows, rowsW]
  refine allD_tt rowW ts M (fun t hr G Q' k => ?_) fun G => h G
  have hk := k []
  rw [List.append_nil] at hk
  simp
  exact p_is_row (ht t hr) hk
theorem p_stepped {W : Win} {ts : List Int} {t : Int} {M : Mem} {Q : KD} {E : KE'} (B : WinB W) (hts : TokOk W.many ts) (hl : ts.length ≤ 500) (ht : 0 ≤ t ∧ t < W.many)
    (h : ∀ G, Q (.tup [rowW t, vI (lookW W (ts ++ [t]))]) (M ++ G)) : sp_stepped [W.d, rowsW ts, .int t] M Q E := by
  simp [sp_stepped, r_stepped]
  refine p_need_model B fun G1 => ?_
  refine p_are_rows hts fun G2 => ?_
  simp [Win.d, win_at1]
  refine p_is_token ?_
  simp [ht.1, ht.2]
  refine p_next_row (W := W) B hl fun G3 => ?_
  have := h (G1 ++ (G2 ++ G3))
  simpa using this
end Z8.Wn
set_option Elab.async false
set_option linter.all false
set_option maxRecDepth 100000
set_option maxHeartbeats 4000000
namespace Z8.Wn
open PySem PySem.Spec PyProof.Rows L2 GxR Gn Dl
theorem valD_look (kvs : List Ent) (last : List Int) : valD (dTe kvs) (Zn.kI last) = (lookE kvs last).map vI := by
  unfold valD dTe lookE
  rw [List.find?_map, Option.map_map, Option.map_map]
  have h2 : ((fun kv : List Key × D => decide (kv.1 = Zn.kI last)) ∘ fun e => (Zn.kI e.1, vI e.2)) = fun e' : Ent => decide (e'.1 = last) := by
    funext e'
    simp only [Function.comp]
    exact decide_eq_decide.mpr ⟨kI_inj, fun h => by rw [h]⟩
  rw [h2]
  rfl
theorem look_mem {kvs : List Ent} {last r : List Int} (h : lookE kvs last = some r) : (last, r) ∈ kvs := by
  unfold lookE at h
  cases hf : kvs.find? fun e => decide (e.1 = last) with
  | none => rw [hf] at h; cases h
  | some e =>
    rw [hf] at h
    cases h
    have h1 := List.find?_some hf
    have h2 := List.mem_of_find?_eq_some hf
    have h3 : e.1 = last := by simpa using h1
    rw [← h3]
    exact h2
theorem look_of {kvs : List Ent} (hn : (kvs.map (·.1)).Nodup) {last r : List Int} (h : (last, r) ∈ kvs) : lookE kvs last = some r := by
  have := val_dTe hn h
  rw [valD_look] at this
  cases hl : lookE kvs last with
  | none => rw [hl] at this; cases this
  | some s =>
    rw [hl] at this
    have h1 : vI s = vI r := Option.some.inj this
    unfold vI at h1
    have h2 := D.tup.inj h1
    rw [List.map_inj_right (f := D.int) (fun a b e => D.int.inj e) |>.mp h2]
theorem look_same {es kvs : List Ent} (h1 : (es.map (·.1)).Nodup) (h2 : (kvs.map (·.1)).Nodup) (h : ∀ e, e ∈ es ↔ e ∈ kvs) (last : List Int) : lookE es last = lookE kvs last := by
  cases ha : lookE es last with
  | some r => exact (look_of h2 ((h _).mp (look_mem ha))).symm
  | none =>
    cases hb : lookE kvs last with
    | none => rfl
    | some r =>
      have := look_of h1 ((h _).mpr (look_mem hb))
      rw [this] at ha
      cases ha
theorem pairs_ents : ∀ es : List Ent, pairsT (es.map entD) = some (dTe es)
  | [] => rfl
  | e :: es => by
    have ih := pairs_ents es
    unfold pairsT dTe
    rw [List.map_cons]
    unfold entD
    unfold entD at ih
    simp only [vI]
    simp only [vI] at ih
    rw [keysD_ints, ih]
    rfl
theorem putE_new {kvs : List Ent} {k v : List Int} (h : k ∉ kvs.map (·.1)) : putE kvs k v = kvs ++ [(k, v)] := by
  unfold putE
  rw [if_neg]
  intro z
  rw [List.any_eq_true] at z
  obtain ⟨e, he, h2⟩ := z
  have h3 : e.1 = k := by simpa using h2
  exact h (List.mem_map.mpr ⟨e, he, h3⟩)
theorem merge_go : ∀ (es acc : List Ent), ((acc ++ es).map (·.1)).Nodup → mergeTD (dTe acc) (dTe es) = dTe (acc ++ es)
  | [], acc, _ => by simp [mergeTD, dTe]
  | e :: es, acc, h => by
    have e0 : mergeTD (dTe acc) (dTe (e :: es)) = mergeTD (putKD (dTe acc) (Zn.kI e.1) (vI e.2)) (dTe es) := rfl
    have hnot : e.1 ∉ acc.map (·.1) := fun z => by
      rw [List.map_append, List.nodup_append] at h
      exact h.2.2 _ z e.1 (by simp) rfl
    rw [e0, put_dTe, putE_new hnot, merge_go es]
    · simp
    · simpa using h
theorem merge_ents {es : List Ent} (h : (es.map (·.1)).Nodup) : mergeTD [] (dTe es) = dTe es := merge_go es [] h
theorem drop_dTe (kvs : List Ent) (k : List Int) : dropKD (dTe kvs) (Zn.kI k) = dTe (kvs.filter fun e => decide (e.1 ≠ k)) := by
  unfold dropKD dTe
  rw [List.filter_map]
  congr 1
  apply List.filter_congr
  intro e _
  simp only [Function.comp]
  exact decide_eq_decide.mpr ⟨fun h z => h (by rw [z]), fun h z => h (kI_inj z)⟩
theorem KvB.drop {m k : Nat} {kvs : List Ent} (B : KvB m k kvs) (p : Ent → Bool) : KvB m k (kvs.filter p) :=
  ⟨fun e he => B.ok e (List.mem_filter.mp he).1, B.nd.sublist (List.Sublist.map _ List.filter_sublist)⟩
theorem lex_irr : ∀ x : List Int, HT.lexLt x x = false
  | [] => rfl
  | x :: xs => by rw [HT.lexLt_cons, if_pos rfl, lex_irr xs]
theorem lt_nd {ks : List (List Int)} (h : ks.Pairwise fun x y => HT.lexLt x y = true) : ks.Nodup := h.imp fun {x y} h e => by
  subst e
  rw [lex_irr] at h
  cases h
theorem look_ok {W : Win} (B : WinB W) (ts : List Int) : WOk W.many.toNat (lookW W ts) := by
  obtain ⟨m, k, em, ek, m2, m8, k3, he, hd⟩ := B.ex
  have e : W.many.toNat = m := by omega
  rw [e]
  unfold lookW
  cases hl : lookE W.ents (lastI W.k.toNat ts) with
  | none => exact hd
  | some r => exact (he _ (look_mem hl)).2
theorem abs_lt {n B : Int} (h : -B ≤ n ∧ n ≤ B) (hB : B < 100000000) : n.natAbs < 100000000 := by omega
theorem sz_w {m : Nat} {ws : List Int} (h : WOk m ws) (hm : m ≤ 8) : Sz 99 1 (pI ws) := (Sz.pI (m := 8) (fun n hn => abs_lt (B := 1000) (by have := h.bd n hn; omega) (by decide)) (by rw [h.len]; exact hm)).mono (by decide) (by decide)
theorem sz_two {n d : Nat} {p q : PyData} (h1 : Sz n d p) (h2 : Sz n d q) : Sz (2 * (n + 2) + 3) (d + 1) (.tuple [p, q]) := Sz.tup (fun x hx => by
  rcases List.mem_cons.mp hx with rfl | hx
  · exact h1
  · rw [List.mem_singleton.mp hx]
    exact h2) (by simp)
theorem WinB.m8 {W : Win} (B : WinB W) : W.many.toNat ≤ 8 := by
  obtain ⟨m, k, em, ek, m2, m8, k3, he, hd⟩ := B.ex
  omega
theorem WinB.sz {W : Win} (B : WinB W) (ts : List Int) : Sz 99 1 (pI (lookW W ts)) := sz_w (look_ok B ts) B.m8
def pRowW (t : Int) : PyData := .tuple [.int t]
theorem pu_rowW (t : Int) : Pu (rowW t) (pRowW t) := Pu.tup (Pus.cons (Pu.int t) Pus.nil)
theorem sz_rowW {W : Win} (B : WinB W) {t : Int} (ht : 0 ≤ t ∧ t < W.many) : Sz 15 1 (pRowW t) := (Sz.pI (m := 1) (ns := [t]) (fun n hn => by
  rw [List.mem_singleton.mp hn]
  have := B.m8
  exact abs_lt (B := 8) (by omega) (by decide)) (by simp)).mono (by decide) (by decide)
theorem pu_rowsW (ts : List Int) : Pu (rowsW ts) (.tuple (ts.map pRowW)) := Pu.tup (Pus.map fun t _ => pu_rowW t)
theorem sz_rowsW {W : Win} (B : WinB W) {ts : List Int} (ht : TokOk W.many ts) (hl : ts.length ≤ 30) : Sz 513 2 (.tuple (ts.map pRowW)) :=
  (Sz.tup (k := 15) (d := 1) (m := 30) (fun q hq => by
    obtain ⟨t, h1, rfl⟩ := List.mem_map.mp hq
    exact sz_rowW B (ht t h1)) (by rw [List.length_map]; exact hl)).mono (by decide) (by decide)
end Z8.Wn
set_option Elab.async false
set_option linter.all false
set_option maxRecDepth 100000
set_option maxHeartbeats 4000000
namespace Z8
open PySem PySem.Spec PyProof.Rows L2 GxR Gn Dl
/-! ### a model, whatever its kind -/
structure Face where
  ds : List D
  many : Int
  ρ : Type
  rd : ρ → D
  pr : ρ → PyData
  ok : List ρ → Prop
  step : List ρ → Int → ρ × List Int
def Face.d (f : Face) : D := .tup f.ds
def Face.run (f : Face) : List Int → List f.ρ → List f.ρ
  | [], acc => acc
  | t :: ts, acc => f.run ts (acc ++ [(f.step acc t).1])
def Face.rows (f : Face) (rs : List f.ρ) : D := .tup (rs.map f.rd)
structure FaceOk (f : Face) : Prop where
  m2 : 2 ≤ f.many
  m8 : f.many ≤ 8
  at1 : atI f.ds 1 = some (.int f.many)
  size : ∀ {M Q E}, (∀ G, Q (.int f.many) (M ++ G)) → sp_model_size [f.d] M Q E
  pu : ∀ r, Pu (f.rd r) (f.pr r)
  ok0 : f.ok []
  snoc : ∀ {rows t}, f.ok rows → rows.length < 300 → 0 ≤ t ∧ t < f.many → f.ok (rows ++ [(f.step rows t).1])
  sz : ∀ {rows}, f.ok rows → ∀ r ∈ rows, Sz 200 3 (f.pr r)
  szw : ∀ {rows t}, f.ok rows → 0 ≤ t ∧ t < f.many → Sz 99 1 (pI (f.step rows t).2)
  stepped : ∀ {rows t M Q E}, f.ok rows → rows.length ≤ 300 → 0 ≤ t ∧ t < f.many → (∀ G, Q (.tup [f.rd (f.step rows t).1, vI (f.step rows t).2]) (M ++ G)) → sp_stepped [f.d, f.rows rows, .int t] M Q E
  lstepped : ∀ {rows t M Q E}, f.ok rows → rows.length ≤ 300 → 0 ≤ t ∧ t < f.many → (∀ G, Q (.tup [f.rd (f.step rows t).1, vI (f.step rows t).2]) (M ++ G)) → sp__law_stepped [f.d, f.rows rows, .int t] M Q E
  rowsOf : ∀ {ts M Q E}, TokOk f.many ts → ts ≠ [] → ts.length ≤ 300 → (∀ G, Q (f.rows (f.run ts [])) (M ++ G)) → sp_rows_of [f.d, vI ts] M Q E
  lrows : ∀ {ts M Q E}, TokOk f.many ts → ts.length ≤ 300 → (∀ G, Q (f.rows (f.run ts [])) (M ++ G)) → sp__law_rows [f.d, vI ts] M Q E
  mw : ∀ {ts t M Q E}, TokOk f.many (ts ++ [t]) → ts.length ≤ 299 → (∀ G, Q (vI (f.step (f.run ts []) t).2) (M ++ G)) → sp_model_weights [f.d, vI (ts ++ [t])] M Q E
  judge : ∀ {ts M Q E}, TokOk f.many ts → ts ≠ [] → ts.length ≤ 300 → (∀ G, Q (.tup [.str "right"]) (M ++ G)) → sp_judge_rows [f.d, vI ts, f.rows (f.run ts [])] M Q E
  kind : atI f.ds 0 = some (.str "window") ∨ (atI f.ds 0 = some (.str "net") ∧ ∃ ls ps, atI f.ds 5 = some (.tup ls) ∧ Pus ls ps ∧ Pn 4 (.tuple ps) ∧ (ls = [] ∨
    ∀ {ts i j g M Q E}, TokOk f.many ts → ts ≠ [] → ts.length ≤ 300 → Dk i j (g + 10) M → (∀ rows' M', f.ok rows' → rows'.length = ts.length → Dk i j g M' → Q (f.rows rows') M') → sp__law_changed_rows [.obj i, f.rows (f.run ts [])] M Q E))
theorem run_app (f : Face) : ∀ (ts us : List Int) (acc : List f.ρ), f.run (ts ++ us) acc = f.run us (f.run ts acc)
  | [], us, acc => rfl
  | t :: ts, us, acc => run_app f ts us _
theorem run_len (f : Face) : ∀ (ts : List Int) (acc : List f.ρ), (f.run ts acc).length = acc.length + ts.length
  | [], acc => rfl
  | t :: ts, acc => by
    show (f.run ts _).length = _
    rw [run_len f ts]
    simp
    omega
theorem run_ok {f : Face} (F : FaceOk f) : ∀ (ts : List Int) (acc : List f.ρ), TokOk f.many ts → f.ok acc → acc.length + ts.length ≤ 300 → f.ok (f.run ts acc)
  | [], acc, _, h, _ => h
  | t :: ts, acc, ht, h, hl => by
    have hl' : acc.length + ts.length + 1 ≤ 300 := by simpa [Nat.add_assoc] using hl
    exact run_ok F ts _ (fun x hx => ht x (List.mem_cons_of_mem _ hx)) (F.snoc h (by omega) (ht t (by simp))) (by simp; omega)
theorem run_pre (f : Face) : ∀ (ts : List Int) (acc : List f.ρ), (f.run ts acc).take acc.length = acc
  | [], acc => List.take_length
  | t :: ts, acc => by
    have h := run_pre f ts (acc ++ [(f.step acc t).1])
    have e : ((f.run ts (acc ++ [(f.step acc t).1])).take (acc ++ [(f.step acc t).1]).length).take acc.length = acc := by
      rw [h]
      exact List.take_left
    rw [List.take_take] at e
    have e2 : min acc.length (acc ++ [(f.step acc t).1]).length = acc.length := by simp
    rw [e2] at e
    exact e
theorem run_take (f : Face) (ts us : List Int) : (f.run (ts ++ us) []).take ts.length = f.run ts [] := by
  rw [run_app]
  have := run_pre f us (f.run ts [])
  rw [run_len] at this
  simpa using this
theorem run_snoc (f : Face) (ts : List Int) (t : Int) : f.run (ts ++ [t]) [] = f.run ts [] ++ [(f.step (f.run ts []) t).1] := run_app f ts [t] []
theorem pu_rowsF {f : Face} (F : FaceOk f) (rs : List f.ρ) : Pu (f.rows rs) (.tuple (rs.map f.pr)) := Pu.tup (Pus.map fun r _ => F.pu r)
theorem sz_rowsF {f : Face} (F : FaceOk f) {rs : List f.ρ} (h : f.ok rs) (hl : rs.length ≤ 20) : Sz 4043 4 (.tuple (rs.map f.pr)) :=
  (Sz.tup (k := 200) (d := 3) (m := 20) (fun q hq => by
    obtain ⟨r, hr, rfl⟩ := List.mem_map.mp hq
    exact F.sz h r hr) (by rw [List.length_map]; exact hl)).mono (by decide) (by decide)
/-! ### networks -/
noncomputable def netF (N : Net) (w : Nat) : Face where
  ds := [.str "net", .int N.many, .int N.w, mI N.embeds, mI N.places, .tup (N.layers.map lyD), mI N.outs]
  many := N.many
  ρ := List Pr
  rd := rowD
  pr := pRow
  ok := RowsB N w
  step := fun rows t => ((stepNet N w rows t).1, shares (timesI N.outs (stepNet N w rows t).2))
theorem netF_run (N : Net) (w : Nat) : ∀ (ts : List Int) (acc : List (List Pr)), (netF N w).run ts acc = rowsNet N w ts acc
  | [], acc => rfl
  | t :: ts, acc => netF_run N w ts _
theorem szw_net {N : Net} (B : NetB N) (st : List Int) : Sz 99 1 (pI (shares (timesI N.outs st))) := by
  have hl : (timesI N.outs st).length = N.outs.length := List.length_map ..
  have h1 := B.O.ol
  have h2 := B.O.m2
  have h3 := B.m5
  have hne : timesI N.outs st ≠ [] := fun e => by
    rw [e] at hl
    have : N.outs.length = 0 := hl.symm
    omega
  exact (sz_shares (shares_bd hne) (by rw [shares_len, hl]; omega)).mono (by decide) (by decide)
theorem p_model_size {N : Net} {M : Mem} {Q : KD} {E : KE'} (O : N.Ok) (h : ∀ G, Q (.int N.many) (M ++ G)) : sp_model_size [N.d] M Q E := by
  simp [sp_model_size, r_model_size]
  refine p_need_model O fun G => ?_
  exact ixA_tup.mpr ⟨_, rfl, h G⟩
theorem p_judge_rows {N : Net} {w : Nat} {ts : List Int} {M : Mem} {Q : KD} {E : KE'} (hmix : MixOk w) (B : NetB N) (hw : N.w = w) (ht : TokOk N.many ts) (hne : ts ≠ []) (hl : ts.length ≤ 300) (h : ∀ G, Q (.tup [.str "right"]) (M ++ G)) : sp_judge_rows [N.d, vI ts, rowsT (rowsNet N w ts [])] M Q E := by
  simp [sp_judge_rows, r_judge_rows, rowsT]
  refine p_need_model B.O fun G1 => ?_
  refine p_need_tokens ht hne fun G2 => ?_
  refine p_rows_after hmix B hw ht hl fun G3 => ?_
  refine p_certificate (fun d hd => ?_) ?_
  · obtain ⟨r, _, rfl⟩ := List.mem_map.mp hd
    exact same_row r
  · have := h (G1 ++ G2 ++ G3)
    simpa using this
end Z8
set_option Elab.async false
set_option linter.all false
set_option maxRecDepth 100000
set_option maxHeartbeats 4000000
namespace Z8
open PySem PySem.Spec PyProof.Rows L2 GxR Gn Dl
/-! ### rows with one number otherwise -/
theorem cutL_to {α : Type} (xs : List α) (k : Nat) : cutL xs none (some (k : Int)) = xs.take k := by
  unfold cutL
  rw [HT.sIx_none, HT.sIx_nat]
  simp
theorem cutL_from {α : Type} (xs : List α) (k : Nat) : cutL xs (some ((k : Int) + 1)) none = xs.drop (k + 1) := by
  unfold cutL
  have e : ((k : Int) + 1) = ((k + 1 : Nat) : Int) := by simp
  rw [HT.sIx_none, e, HT.sIx_nat]
  by_cases h : k + 1 ≤ xs.length
  · rw [Nat.min_eq_left h]
    exact List.take_of_length_le (by rw [List.length_drop]; exact Nat.le_refl _)
  · rw [Nat.min_eq_right (by omega)]
    rw [List.drop_eq_nil_of_le (by omega : xs.length ≤ k + 1)]
    simp
theorem p__law_instead {ds : List D} {j : Nat} {d : D} {M : Mem} {Q : KD} {E : KE'} (hj : j < ds.length) (hl : ds.length ≤ 900) (h : Q (.tup (ds.set j d)) M) : sp__law_instead [.tup ds, .int j, d] M Q E := by
  simp [sp__law_instead, r__law_instead]
  rw [cutL_to, cutL_from]
  have e : ds.take j ++ d :: ds.drop (j + 1) = ds.set j d := by
    rw [List.set_eq_take_append_cons_drop, if_pos hj]
  refine ⟨small_le (n := 1) (by decide), small_le (by simp; omega), small_le (by simp; omega), ?_⟩
  rw [e]
  exact h
theorem rows300 {N : Net} {w : Nat} (B : NetB N) (hw : N.w = w) : ∀ (ts : List Int) (acc : List (List Pr)), TokOk N.many ts → (∀ r ∈ acc, ∀ p ∈ r, Bd 300 p.1 ∧ Bd 300 p.2) → ∀ r ∈ rowsNet N w ts acc, ∀ p ∈ r, Bd 300 p.1 ∧ Bd 300 p.2
  | [], acc, _, h => h
  | t :: ts, acc, ht, h => rows300 B hw ts _ (fun x hx => ht x (List.mem_cons_of_mem _ hx)) fun r hr => by
    rcases List.mem_append.mp hr with hr | hr
    · exact h r hr
    · rw [List.mem_singleton.mp hr]
      have := step_ok (rows := acc) B hw (ht t (by simp))
      exact fun p hp => ⟨(this.2.1 p hp).1.2, (this.2.1 p hp).2.2⟩
/-- one number of a vector otherwise -/
def bentV (v : List Int) (x : Nat) (c : Int) : List Int := v.set x (v.getD x 0 + c)
theorem bent_bd {v : List Int} {x : Nat} {c : Int} (h : Bd 300 v) (hx : x < v.length) (hc : -10 ≤ c ∧ c ≤ 10) : Bd 310 (bentV v x c) := fun n hn => by
  rcases List.mem_or_eq_of_mem_set hn with hn | rfl
  · have := h n hn
    omega
  · have : v.getD x 0 ∈ v := by
      rw [List.getD_eq_getElem?_getD, List.getElem?_eq_getElem hx]
      exact List.getElem_mem hx
    have := h _ this
    omega
theorem at_map {α : Type} (f : α → D) (as : List α) (k : Nat) (hk : k < as.length) : atI (as.map f) (k : Int) = some (f (as[k]'hk)) := atI_nat (by rw [List.getElem?_map, List.getElem?_eq_getElem hk]; rfl)
theorem ix_map {α : Type} (f : α → D) (as : List α) (k : Nat) (hk : k < as.length) {M : Mem} {Q : KD} (h : Q (f (as[k]'hk)) M) : ixA (.tup (as.map f)) (.int (k : Int)) M Q := ixA_tup.mpr ⟨_, at_map f as k hk, h⟩
theorem p__law_changed_rows {N : Net} {w i j g : Nat} {ts : List Int} {M : Mem} {Q : KD} {E : KE'} (B : NetB N) (hw : N.w = w) (hlay : N.layers ≠ []) (ht : TokOk N.many ts) (hne : ts ≠ []) (hl : ts.length ≤ 300) (hd : Dk i j (g + 10) M)
    (h : ∀ rows' M', RowsB N w rows' → rows'.length = ts.length → Dk i j g M' → Q (rowsT rows') M') : sp__law_changed_rows [.obj i, rowsT (rowsNet N w ts [])] M Q E := by
  have hR : RowsB N w (rowsNet N w ts []) := rows_ok B hw ts [] ht (rowsB0 N w) (by simpa using hl)
  have h3 := rows300 B hw ts [] ht (by intro r hr; cases hr)
  have hlen : (rowsNet N w ts []).length = ts.length := by rw [rowsNet_len]; simp
  have hpos : 0 < ts.length := List.length_pos_iff.mpr hne
  have w1 := B.O.w1
  have w3 := B.w3
  have hll := B.ll
  have hlp : 0 < N.layers.length := List.length_pos_iff.mpr hlay
  generalize rowsNet N w ts [] = R at hR h3 hlen ⊢
  simp [sp__law_changed_rows, r__law_changed_rows, rowsT]
  refine p__law_draw (f := g + 9) hd (by omega) (by omega) fun r1 M1 a0 a1 D1 F1 => ?_
  obtain ⟨n, rfl⟩ : ∃ n : Nat, r1 = n := ⟨r1.toNat, by omega⟩
  have hn : n < R.length := by omega
  have hr := hR.2 _ (List.getElem_mem hn)
  have hr3 := h3 _ (List.getElem_mem hn)
  refine ix_map rowD R n hn ?_
  generalize hre : R[n] = r at hr hr3 ⊢
  have hrl : r.length = N.layers.length := hr.1
  refine lenD_tup.mpr ?_
  rw [List.length_map]
  refine p__law_draw (f := g + 8) D1 (by omega) (by omega) fun r2 M2 b0 b1 D2 F2 => ?_
  obtain ⟨k, rfl⟩ : ∃ k : Nat, r2 = k := ⟨r2.toNat, by omega⟩
  have hk : k < r.length := by omega
  refine p__law_draw (f := g + 7) D2 (by decide) (by decide) fun r3 M3 c0 c1 D3 F3 => ?_
  refine ⟨_, _, ⟨rfl, rfl⟩, ?_⟩
  refine ix_map rowD R n hn ?_
  rw [hre]
  refine ix_map prD r k hk ?_
  have hp := hr.2 _ (List.getElem_mem hk)
  have hp3 := hr3 _ (List.getElem_mem hk)
  generalize hpe : r[k] = p at hp hp3 ⊢
  have main : ∀ (b : Nat) (v : List Int) (mk : List Int → Pr), b < 2 → atI [vI p.1, vI p.2] (b : Int) = some (vI v) → v.length = w → Bd 300 v → (∀ v', [vI p.1, vI p.2].set b (vI v') = [vI (mk v').1, vI (mk v').2]) → (∀ v', v'.length = w → Bd 310 v' → ((mk v').1.length = w ∧ Bd 310 (mk v').1) ∧ ((mk v').2.length = w ∧ Bd 310 (mk v').2)) →
      ixA (prD p) (.int b) M3 fun d_3 M1 => lenD [d_3] M1 fun d_4 M1 => sp__law_draw [D.obj i, d_4] M1 (fun d_5 M1 => ixA (prD p) (.int b) M1 fun d_6 M1 => ixA (prD p) (.int b) M1 fun x M1 => ixA x d_5 M1 fun x M1 =>
        3 ≤ sizeLine ∧ sp__law_pick [D.obj i, D.obj (List.length M1)] (M1 ++ [Cell.lst [D.int 1, D.int (-1), D.int 7]]) (fun y M2 => addD x y M2 fun d_7 M1 => sp__law_instead [d_6, d_5, d_7] M1 (fun d_8 M1 => sp__law_instead [prD p, .int b, d_8] M1
          (fun d M1 => ixA (D.tup (List.map rowD R)) (D.int n) M1 fun d_9 M1 => sp__law_instead [d_9, .int k, d] M1 (fun d M1 => sp__law_instead [D.tup (List.map rowD R), D.int n, d] M1 Q E) E) E) E) E) E := fun b v mk hb2 hav hvl hv3 hmk hmk2 => by
    refine ixA_tup.mpr ⟨_, hav, ?_⟩
    refine lenD_tup.mpr ?_
    rw [List.length_map]
    refine p__law_draw (f := g + 6) D3 (by omega) (by omega) fun r4 M4 e0 e1 D4 F4 => ?_
    obtain ⟨x, rfl⟩ : ∃ x : Nat, r4 = x := ⟨r4.toNat, by omega⟩
    have hx : x < v.length := by omega
    refine ixA_tup.mpr ⟨_, hav, ?_⟩
    refine ixA_tup.mpr ⟨_, hav, ?_⟩
    refine ix_map D.int v x hx ⟨small_le (n := 3) (by decide), ?_⟩
    have D5 : Dk i j (g + 6) (M4 ++ [Cell.lst [D.int 1, D.int (-1), D.int 7]]) := D4.app _
    have hl5 : (M4 ++ [Cell.lst [D.int 1, D.int (-1), D.int 7]])[M4.length]? = some (.lst [D.int 1, D.int (-1), D.int 7]) := by simp
    have o4 := D4.out
    refine p__law_pick_l (f := g + 5) (n := M4.length) D5 hl5 (by simp) (by simp) o4.1 o4.2 fun dc M6 hdc D6 F6 => ?_
    obtain ⟨c, rfl, hc⟩ : ∃ c : Int, dc = .int c ∧ (-10 ≤ c ∧ c ≤ 10) := by
      simp only [List.mem_cons, List.not_mem_nil, or_false] at hdc
      rcases hdc with rfl | rfl | rfl
      · exact ⟨1, rfl, by decide⟩
      · exact ⟨-1, rfl, by decide⟩
      · exact ⟨7, rfl, by decide⟩
    refine addD_int.mpr ?_
    have eb : (v.map D.int).set x (.int (v[x] + c)) = (bentV v x c).map D.int := by
      unfold bentV
      rw [List.map_set, List.getD_eq_getElem?_getD, List.getElem?_eq_getElem hx]
      rfl
    refine p__law_instead (ds := v.map D.int) (by rw [List.length_map]; exact hx) (by rw [List.length_map]; omega) ?_
    rw [eb]
    have hbl : (bentV v x c).length = w := by unfold bentV; rw [List.length_set]; exact hvl
    refine p__law_instead (ds := [vI p.1, vI p.2]) (by simp; omega) (by simp) ?_
    have e6 := hmk (bentV v x c)
    have e7 : [vI p.1, vI p.2].set b (.tup ((bentV v x c).map D.int)) = [vI (mk (bentV v x c)).1, vI (mk (bentV v x c)).2] := e6
    rw [e7]
    refine ix_map rowD R n hn ?_
    rw [hre]
    refine p__law_instead (ds := r.map prD) (by rw [List.length_map]; exact hk) (by rw [List.length_map]; omega) ?_
    have e8 : (r.map prD).set k (.tup [vI (mk (bentV v x c)).1, vI (mk (bentV v x c)).2]) = (r.set k (mk (bentV v x c))).map prD := by rw [List.map_set]; rfl
    rw [e8]
    refine p__law_instead (ds := R.map rowD) (by rw [List.length_map]; exact hn) (by rw [List.length_map]; omega) ?_
    have e9 : (R.map rowD).set n (.tup ((r.set k (mk (bentV v x c))).map prD)) = (R.set n (r.set k (mk (bentV v x c)))).map rowD := (List.map_set (f := rowD)).symm
    rw [e9]
    refine h (R.set n (r.set k (mk (bentV v x c)))) M6 ⟨by rw [List.length_set]; exact hR.1, fun q hq => ?_⟩ (by rw [List.length_set]; exact hlen) (D6.le (by omega))
    rcases List.mem_or_eq_of_mem_set hq with hq | rfl
    · exact hR.2 q hq
    · refine ⟨by rw [List.length_set]; exact hr.1, fun z hz => ?_⟩
      rcases List.mem_or_eq_of_mem_set hz with hz | rfl
      · exact hr.2 z hz
      · exact hmk2 _ hbl (bent_bd hv3 hx hc)
  have hb : r3 = 0 ∨ r3 = 1 := by omega
  rcases hb with rfl | rfl
  · exact main 0 p.1 (fun v' => (v', p.2)) (by decide) rfl hp.1.1 hp3.1 (fun v' => rfl) fun v' h1 h2 => ⟨⟨h1, h2⟩, hp.2⟩
  · exact main 1 p.2 (fun v' => (p.1, v')) (by decide) rfl hp.2.1 hp3.2 (fun v' => rfl) fun v' h1 h2 => ⟨hp.1, ⟨h1, h2⟩⟩
end Z8
set_option Elab.async false
set_option linter.all false
set_option maxRecDepth 100000
set_option maxHeartbeats 4000000
namespace Z8.Wn
open PySem PySem.Spec PyProof.Rows L2 GxR Gn Dl
/-! ### windows as the law reckons them -/
theorem p_model_size {W : Win} {M : Mem} {Q : KD} {E : KE'} (B : WinB W) (h : ∀ G, Q (.int W.many) (M ++ G)) : sp_model_size [W.d] M Q E := by
  simp [sp_model_size, r_model_size]
  refine p_need_model B fun G => ?_
  exact ixA_tup.mpr ⟨_, rfl, h G⟩
theorem p_judge_rows {W : Win} {ts : List Int} {M : Mem} {Q : KD} {E : KE'} (B : WinB W) (ht : TokOk W.many ts) (hne : ts ≠ []) (hl : ts.length ≤ 300) (h : ∀ G, Q (.tup [.str "right"]) (M ++ G)) : sp_judge_rows [W.d, vI ts, rowsW ts] M Q E := by
  simp [sp_judge_rows, r_judge_rows, rowsW]
  refine p_need_model B fun G1 => ?_
  refine p_need_tokens ht hne fun G2 => ?_
  refine p_rows_after B hl fun G3 => ?_
  refine p_certificate (fun d hd => ?_) ?_
  · obtain ⟨t, _, rfl⟩ := List.mem_map.mp hd
    exact same_rowW t
  · have := h (G1 ++ G2 ++ G3)
    simpa using this
theorem p__law_stepped {W : Win} {ts : List Int} {t : Int} {M : Mem} {Q : KD} {E : KE'} (B : WinB W) (hl : ts.length ≤ 300)
    (h : ∀ G, Q (.tup [rowW t, vI (lookW W (ts ++ [t]))]) (M ++ G)) : sp__law_stepped [W.d, rowsW ts, .int t] M Q E := by
  simp [sp__law_stepped, r__law_stepped, Win.d, win_at0, rowsW]
  refine ⟨small_le (n := 1) (by omega), ?_⟩
  refine lcD_ex rowW (fun t => .int t) ts M (fun M' x => trivial) (fun a ha M2 Q' x k => ?_) (by omega) fun M2 x e2 => ?_
  · have hk := k []
    rw [List.append_nil] at hk
    simp [rowW]
    exact ⟨_, rfl, hk⟩
  · obtain ⟨G, rfl⟩ := x
    simp [e2]
    have e : ts.map D.int ++ [D.int t] = (ts ++ [t]).map D.int := by simp
    rw [e]
    refine ⟨small_le (n := 1) (by omega), small_le (n := ts.length + 1) (by omega), ?_⟩
    refine p__law_window_weights (W := W) (ts := ts ++ [t]) B.k0 ?_
    exact ⟨small_le (n := 2) (by omega), h G⟩
theorem p__law_rows {W : Win} {ts : List Int} {M : Mem} {Q : KD} {E : KE'} (hl : ts.length ≤ 300) (h : ∀ G, Q (rowsW ts) (M ++ G)) : sp__law_rows [W.d, vI ts] M Q E := by
  simp [sp__law_rows, r__law_rows, vI]
  refine forD_app (x := 3) (q := 2) D.int rowW _ M (by decide) rfl (fun _ => trivial) ts [] _ (fun d => rfl) (fun t ht G Q' k => ?_) (by simp; omega) (fun S' G h1 h2 => ?_) []
  · simp [Win.d, win_at0]
    refine ⟨small_le (n := 1) (by omega), ?_⟩
    have hk := k []
    rw [List.append_nil] at hk
    exact hk
  · have hS : ∀ d, (S'.set 3 (some d))[2]? = some (some (.obj M.length)) := fun d => by rw [h1 d]; rfl
    have h4 : S'[2]? = some (some (.obj M.length)) := by
      have := hS (.int 0)
      rw [List.getElem?_set_ne (by decide)] at this
      exact this
    simp [h4]
    exact h _
end Z8.Wn
set_option Elab.async false
set_option linter.all false
set_option maxRecDepth 100000
set_option maxHeartbeats 4000000
namespace Z8
open PySem PySem.Spec PyProof.Rows L2 GxR Gn Dl
theorem netF_run0 (N : Net) (w : Nat) (ts : List Int) : (netF N w).run ts [] = rowsNet N w ts [] := netF_run N w ts []
theorem pu_layers (N : Net) : ∃ ps, Pus (N.layers.map lyD) ps ∧ Pn 4 (.tuple ps) := by
  refine ⟨N.layers.map fun L => .tuple (L.map pM), Pus.map fun L _ => Pu.tup (Pus.map fun m _ => Pu.mI m), Pn.tup fun p hp => ?_⟩
  obtain ⟨L, _, rfl⟩ := List.mem_map.mp hp
  refine Pn.tup fun q hq => ?_
  obtain ⟨m, _, rfl⟩ := List.mem_map.mp hq
  exact Pn.pM m
theorem netF_ok {N : Net} {w : Nat} (B : NetB N) (hw : N.w = w) : FaceOk (netF N w) where
  m2 := B.O.m2
  m8 := by have := B.m5; show N.many ≤ 8; omega
  at1 := rfl
  size := fun h => p_model_size B.O h
  pu := pu_row
  ok0 := rowsB0 N w
  snoc := fun h hl ht => RowsB.snoc h (Nat.lt_of_lt_of_le hl (by decide)) B hw ht
  sz := fun {rows} h r hr => (sz_row (w := w) (by have := B.w3; omega) (by rw [(h.2 r hr).1]; exact B.ll) (h.2 r hr).2).mono (by decide) (by decide)
  szw := fun h ht => szw_net B _
  stepped := fun h hl ht q => p_stepped (mix_ok (by have := B.w3; omega)) B hw h ht q
  lstepped := fun h hl ht q => p__law_stepped B hw h ht q
  rowsOf := fun {ts M Q E} ht hne hl q => p_rows_of (mix_ok (by have := B.w3; omega)) B hw ht hne hl fun G => by
    have := q G
    rw [netF_run0] at this
    exact this
  lrows := fun {ts M Q E} ht hl q => p__law_rows B hw ht hl fun G => by
    have := q G
    rw [netF_run0] at this
    exact this
  mw := fun {ts t M Q E} ht hl q => p_model_weights (mix_ok (by have := B.w3; omega)) B hw ht hl fun G => by
    have := q G
    rw [netF_run0] at this
    exact this
  judge := fun {ts M Q E} ht hne hl q => by
    rw [netF_run0]
    exact p_judge_rows (mix_ok (by have := B.w3; omega)) B hw ht hne hl q
  kind := by
    obtain ⟨ps, h1, h2⟩ := pu_layers N
    refine .inr ⟨rfl, N.layers.map lyD, ps, rfl, h1, h2, ?_⟩
    by_cases hl : N.layers = []
    · exact .inl (by rw [hl]; rfl)
    · refine .inr fun {ts i j g M Q E} ht hne hlen hd q => ?_
      rw [netF_run0]
      exact p__law_changed_rows B hw hl ht hne hlen hd q
open Wn in
def winF (W : Win) : Face where
  ds := [.str "window", .int W.many, .int W.k, .tup (W.ents.map entD), vI W.dflt]
  many := W.many
  ρ := Int
  rd := rowW
  pr := pRowW
  ok := TokOk W.many
  step := fun rows t => (t, lookW W (rows ++ [t]))
theorem winF_run (W : Wn.Win) : ∀ (ts acc : List Int), (winF W).run ts acc = acc ++ ts
  | [], acc => (List.append_nil acc).symm
  | t :: ts, acc => by
    refine (winF_run W ts (acc ++ [t])).trans ?_
    exact List.append_assoc acc [t] ts
theorem winF_run0 (W : Wn.Win) (ts : List Int) : (winF W).run ts [] = ts := (winF_run W ts []).trans (List.nil_append ts)
theorem winF_ok {W : Wn.Win} (B : Wn.WinB W) : FaceOk (winF W) where
  m2 := by obtain ⟨m, k, em, ek, m2, _⟩ := B.ex; show 2 ≤ W.many; omega
  m8 := by obtain ⟨m, k, em, ek, m2, m8, _⟩ := B.ex; show W.many ≤ 8; omega
  at1 := rfl
  size := fun h => Wn.p_model_size B h
  pu := Wn.pu_rowW
  ok0 := fun x hx => by cases hx
  snoc := fun {rows t} h hl ht x hx => by
    rcases List.mem_append.mp hx with hx | hx
    · exact h x hx
    · rw [List.mem_singleton.mp hx]; exact ht
  sz := fun {rows} h r hr => (Wn.sz_rowW B (h r hr)).mono (by decide) (by decide)
  szw := fun h ht => B.sz _
  stepped := fun h hl ht q => Wn.p_stepped B h (Nat.le_trans hl (by decide)) ht q
  lstepped := fun h hl ht q => Wn.p__law_stepped B hl q
  rowsOf := fun {ts M Q E} ht hne hl q => Wn.p_rows_of B ht hne hl fun G => by
    have := q G
    rw [winF_run0] at this
    exact this
  lrows := fun {ts M Q E} ht hl q => Wn.p__law_rows hl fun G => by
    have := q G
    rw [winF_run0] at this
    exact this
  mw := fun {ts t M Q E} ht hl q => Wn.p_model_weights B ht (by simp) fun G => by
    have := q G
    rw [winF_run0] at this
    exact this
  judge := fun {ts M Q E} ht hne hl q => by
    rw [winF_run0]
    exact Wn.p_judge_rows B ht hne hl q
  kind := .inl rfl
end Z8
set_option Elab.async false
set_option linter.all false
set_option maxRecDepth 100000
set_option maxHeartbeats 4000000
namespace Z8
open PySem PySem.Spec PyProof.Rows L2 GxR Gn Dl
/-! ### the law's body, in pieces -/
def TB2 : TSd := (dSeq (dIfS (dTest (dOp (eqA true) (dCB reprD (dCons (dTup (dCons (dVar 9) (dCons (dVar 10) (dNil)))) (dNil))) (dCB reprD (dCons (dCall 3 sp__law_stepped (dCons (dVar 3) (dCons (dSl (dVar 5) (dNo) (dPart (dVar 7))) (dCons (dVar 8) (dNil))))) (dNil))))) (dRet (dC (.bl false))) (dNext)) (dSeq (dSet 6 (dOp addD (dVar 6) (dTup (dCons (dVar 9) (dNil))))) (dIfS (dAndT (dTest (dOp (eqA false) (dOp modD (dCB intOfD (dCons (dVar 7) (dNil))) (dC (.int 3))) (dC (.int 0)))) (dTest (dOp (eqA true) (dCB reprD (dCons (dCall 2 sp_model_weights (dCons (dVar 3) (dCons (dSl (dVar 4) (dNo) (dPart (dOp addD (dVar 7) (dC (.int 1))))) (dNil)))) (dNil))) (dCB reprD (dCons (dVar 10) (dNil)))))) (dRet (dC (.bl false))) (dNext))))
def TB : TSd := (dSeq (dAsg (dIf (dTest (dOp (eqA false) (dVar 2) (dC (.int 0)))) (dCall 3 sp_stepped (dCons (dVar 3) (dCons (dVar 6) (dCons (dVar 8) (dNil))))) (dCallW 3 [2, 1, 0] sp_stepped (dCons (dVar 8) (dCons (dVar 6) (dCons (dVar 3) (dNil)))))) (dGTup 2 (dGCons (dGN 9) (dGCons (dGN 10) (dGNil))))) TB2)
def NB : TSd := (dSet 12 (dOp addD (dVar 12) (dTup (dCons (dOp ixA (dCall 3 sp_stepped (dCons (dVar 3) (dCons (dVar 12) (dCons (dVar 8) (dNil))))) (dC (.int 0))) (dNil)))))
def C6 : TSd := (dSeq (dPar 12 13 (dCons (dCall 2 sp_rows_of (dCons (dVar 3) (dCons (dSl (dVar 4) (dNo) (dPart (dVar 7))) (dNil)))) (dCons (dCall 3 sp__law_drawn_tokens (dCons (dVar 1) (dCons (dOp ixA (dVar 3) (dC (.int 1))) (dCons (dC (.int 5)) (dNil))))) (dNil)))) (dSeq (dFor (dWalk (dVar 13)) (dGN 8) NB) (dIfS (dTest (dOp (eqA true) (dCB reprD (dCons (dVar 12) (dNil))) (dCB reprD (dCons (dCall 2 sp__law_rows (dCons (dVar 3) (dCons (dOp addD (dSl (dVar 4) (dNo) (dPart (dVar 7))) (dVar 13)) (dNil)))) (dNil))))) (dRet (dC (.bl false))) (dNext))))
def C5 : TSd := (dSeq (dIfS (dAndT (dTest (dOp (eqA false) (dOp ixA (dVar 3) (dC (.int 0))) (dC (.str "net")))) (dTest (dOp (eqA true) (dOp ixA (dVar 3) (dC (.int 5))) (dTup (dNil))))) (dSeq (dSet 11 (dCall 2 sp__law_changed_rows (dCons (dVar 1) (dCons (dSl (dVar 5) (dNo) (dPart (dVar 7))) (dNil))))) (dIfS (dTest (dOp (eqA true) (dCB reprD (dCons (dCall 3 sp_stepped (dCons (dVar 3) (dCons (dVar 11) (dCons (dOp ixA (dVar 4) (dVar 7)) (dNil))))) (dNil))) (dCB reprD (dCons (dCall 3 sp__law_stepped (dCons (dVar 3) (dCons (dVar 11) (dCons (dOp ixA (dVar 4) (dVar 7)) (dNil))))) (dNil))))) (dRet (dC (.bl false))) (dNext))) (dNext)) C6)
def C4 : TSd := (dSeq (dSet 7 (dOp addD (dC (.int 1)) (dCall 2 sp__law_draw (dCons (dVar 1) (dCons (dOp subD (dCB lenD (dCons (dVar 4) (dNil))) (dC (.int 1))) (dNil)))))) (dSeq (dIfS (dTest (dOp (eqA true) (dCB reprD (dCons (dCallW 2 [1, 0] sp_rows_of (dCons (dSl (dVar 4) (dNo) (dPart (dVar 7))) (dCons (dVar 3) (dNil)))) (dNil))) (dCB reprD (dCons (dSl (dVar 6) (dNo) (dPart (dVar 7))) (dNil))))) (dRet (dC (.bl false))) (dNext)) C5))
def C3 : TSd := (dSeq (dIfS (dOrT (dTest (dOp (eqA true) (dCB reprD (dCons (dTup (dCons (dVar 6) (dCons (dCall 2 sp_rows_of (dCons (dVar 3) (dCons (dVar 4) (dNil)))) (dNil)))) (dNil))) (dCB reprD (dCons (dTup (dCons (dVar 5) (dCons (dVar 5) (dNil)))) (dNil))))) (dTest (dOp (eqA true) (dCB reprD (dCons (dCall 3 sp_judge_rows (dCons (dVar 3) (dCons (dVar 4) (dCons (dVar 6) (dNil))))) (dNil))) (dCB reprD (dCons (dTup (dCons (dC (.str "right")) (dNil))) (dNil)))))) (dRet (dC (.bl false))) (dNext)) C4)
def C2 : TSd := (dSeq (dFor (dEnumA (dCons (dVar 4) (dNil))) (dGTup 2 (dGCons (dGN 7) (dGCons (dGN 8) (dGNil)))) TB) C3)
def C1 : TSd := (dSeq (dSet 4 (dOp addD (dCall 3 sp__law_drawn_tokens (dCons (dVar 1) (dCons (dOp ixA (dVar 3) (dC (.int 1))) (dCons (dC (.int 11)) (dNil))))) (dTup (dCons (dCall 2 sp__law_draw (dCons (dVar 1) (dCons (dOp ixA (dVar 3) (dC (.int 1))) (dNil)))) (dNil))))) (dSeq (dPar 5 6 (dCons (dCall 2 sp__law_rows (dCons (dVar 3) (dCons (dVar 4) (dNil)))) (dCons (dTup (dNil)) (dNil)))) C2))
def C0 : TSd := (dSeq (dSet 3 (dIf (dTest (dOp (eqA false) (dCall 2 sp__law_draw (dCons (dVar 1) (dCons (dC (.int 3)) (dNil)))) (dC (.int 0)))) (dCall 1 sp__law_drawn_window (dCons (dVar 1) (dNil))) (dCall 1 sp__law_drawn_net (dCons (dVar 1) (dNil))))) (dSeq (dIfS (dTest (dOp (eqA true) (dCB reprID (dCons (dCall 1 sp_model_size (dCons (dVar 3) (dNil))) (dNil))) (dCB reprID (dCons (dOp ixA (dVar 3) (dC (.int 1))) (dNil))))) (dRet (dC (.bl false))) (dNext)) C1))
theorem law_eq : r_law = dSeq (dSet 1 (dCall 2 sp__law_deck (dCons (dVar 0) (dCons (dC (.int 14408008)) (dNil))))) (dSeq (dFor (dRange1 (dCons (dC (.int 2)) (dNil))) (dGN 2) C0) (dRet (dC (.bl true)))) := rfl
def SL (a0 a2 : Option D) (i : Nat) (f : Face) (ts : List Int) (rs : List f.ρ) (y7 y8 y9 y10 y11 y12 y13 : Option D) : Sl :=
  [a0, some (.obj i), a2, some f.d, some (vI ts), some (f.rows (f.run ts [])), some (f.rows rs), y7, y8, y9, y10, y11, y12, y13]
theorem win_net : (Str.ofString "window" = Str.ofString "net") = False := by decide +kernel
theorem sz_str {x : Str} {n : Nat} (h : (PyData.str x).shown.length ≤ n) : Sz n 0 (.str x) := ⟨by rw [PyData.showable], by rw [PyData.hasDict], by rw [PyData.depth]; exact Nat.le_refl _, h⟩
theorem sz_right : Sz 103 1 (.tuple [.str "right"]) := Sz.tup (k := 98) (m := 1) (fun p hp => by
  rw [List.mem_singleton.mp hp]
  exact sz_str (by decide +kernel)) (by simp)
theorem z1k {n : Nat} (h : n ≤ 1000 := by decide) : n ≤ sizeLine := small_le h
theorem reprs {ds : List D} {p : PyData} {n d : Nat} {M : Mem} {K : KD} (hp : Pu (.tup ds) p) (hs : Sz n d p) (hn : n ≤ sizeLine) (hd : d ≤ 60) (h : K (.bl false) M) : reprD [.tup ds] M fun x M1 => reprD [.tup ds] M1 fun y M2 => eqA true x y M2 K := by
  refine repr_tupL hp hs hn hd (repr_tupL hp hs hn hd ?_)
  simp
  exact h
theorem eq_same {x : Str} {M : Mem} {K : KD} (h : K (.bl false) M) : eqA true (.str x) (.str x) M K := by
  simp
  exact h
section
variable {a0 a2 y7 y8 y9 y10 y11 y12 y13 : Option D} {i j g : Nat} {f : Face} {ts : List Int} {D0 : EndsD} {E : KE'} {M : Mem}
theorem near_go {s0 s1 s2 s4 s5 s6 s7 s9 s10 s11 s13 : Option D} (F : FaceOk f) : ∀ (us : List Int) (acc : List f.ρ) (y8 : Option D) (M : Mem), TokOk f.many us → f.ok acc → acc.length + us.length ≤ 300 →
    (∀ y8 M', Ext M M' → D0.nx [s0, s1, s2, some f.d, s4, s5, s6, s7, y8, s9, s10, s11, some (f.rows (f.run us acc)), s13] M') →
    forD (dGN 8) NB (fun _ => True) D0 E (us.map D.int) [s0, s1, s2, some f.d, s4, s5, s6, s7, y8, s9, s10, s11, some (f.rows acc), s13] M
  | [], acc, y8, M, _, _, _, h => ⟨trivial, h y8 M (Ext.refl M)⟩
  | t :: us, acc, y8, M, ht, ha, hl, h => by
    have hl' : acc.length + us.length + 1 ≤ 300 := by simpa [Nat.add_assoc] using hl
    have htk := ht t (by simp)
    refine ⟨trivial, ?_⟩
    simp [NB]
    refine F.stepped ha (by omega) htk fun G => ?_
    refine ixA_tup.mpr ⟨_, rfl, ?_⟩
    simp [Face.rows]
    refine ⟨z1k, small_le (n := acc.length + 1) (by omega), ?_⟩
    have es : acc.map f.rd ++ [f.rd (f.step acc t).1] = (acc ++ [(f.step acc t).1]).map f.rd := by simp
    rw [es]
    refine near_go F us (acc ++ [(f.step acc t).1]) _ (M ++ G) (fun x hx => ht x (List.mem_cons_of_mem _ hx)) (F.snoc ha (by omega) htk) (by simp; omega) fun y8 M' x => h y8 M' ((Ext.app M G).tr x)
theorem sl_to (ts : List Int) (k : Nat) {Q : KD} : slD (vI ts) none (some (k : Int)) M Q ↔ Q (vI (ts.take k)) M := by
  unfold vI
  rw [slD_tup, cutL_to, List.map_take]
theorem sl_rowsF (rs : List f.ρ) (k : Nat) {Q : KD} : slD (f.rows rs) none (some (k : Int)) M Q ↔ Q (f.rows (rs.take k)) M := by
  unfold Face.rows
  rw [slD_tup, cutL_to, List.map_take]
theorem run_cut {k : Nat} (hk : k ≤ ts.length) : (f.run ts []).take k = f.run (ts.take k) [] := by
  have := run_take f (ts.take k) (ts.drop k)
  rw [List.take_append_drop] at this
  rw [← this]
  congr 1
  rw [List.length_take]
  omega
theorem tok_take {m : Int} {k : Nat} (h : TokOk m ts) : TokOk m (ts.take k) := fun x hx => h x (List.mem_of_mem_take hx)
theorem take_ne {k : Nat} (h1 : 1 ≤ k) (h2 : k < ts.length) : ts.take k ≠ [] := fun e => by
  have := congrArg List.length e
  rw [List.length_take, List.length_nil] at this
  omega
theorem take_len {k : Nat} (h2 : k < ts.length) : (ts.take k).length = k := by
  rw [List.length_take]
  omega
theorem seg6 (F : FaceOk f) {k : Nat} (ht : TokOk f.many ts) (h1 : 1 ≤ k) (h2 : k < ts.length) (hl : ts.length ≤ 12) {rs : List f.ρ} (hd : Dk i j (g + 20) M)
    (h : ∀ y7 y8 y12 y13 M', Dk i j g M' → D0.nx (SL a0 a2 i f ts rs y7 y8 y9 y10 y11 y12 y13) M') : C6 D0 E (SL a0 a2 i f ts rs (some (.int k)) y8 y9 y10 y11 y12 y13) M := by
  have htk := tok_take (k := k) ht
  have hlk := take_len h2
  simp [C6, SL]
  refine (sl_to ts k).mpr ?_
  refine F.rowsOf htk (take_ne h1 h2) (by omega) fun G1 => ?_
  refine ixA_tup.mpr ⟨_, F.at1, ?_⟩
  obtain ⟨m, hm⟩ : ∃ m : Nat, f.many = m := ⟨f.many.toNat, by have := F.m2; omega⟩
  have h8 := F.m8
  have h22 := F.m2
  rw [hm]
  refine p__law_drawn_tokens (f := g) (wide := m) (many := 5) ((hd.app G1).le (by omega)) (by omega) (by omega) (by decide) (by decide) fun us M2 hne hlu hu D2 F2 => ?_
  have hu2 : TokOk f.many us := by rw [hm]; exact hu
  refine ⟨_, _, ⟨rfl, rfl⟩, ?_⟩
  refine seqD_tup.mpr ?_
  refine near_go F us (f.run (ts.take k) []) _ M2 hu2 (run_ok F _ [] htk F.ok0 (by simp; omega)) (by rw [run_len]; simp; omega) fun y8 M3 x3 => ?_
  obtain ⟨G3, rfl⟩ := x3
  have e : f.run us (f.run (ts.take k) []) = f.run (ts.take k ++ us) [] := (run_app f (ts.take k) us []).symm
  have htu : TokOk f.many (ts.take k ++ us) := fun x hx => (List.mem_append.mp hx).elim (htk x) (hu2 x)
  have hok : f.ok (f.run (ts.take k ++ us) []) := run_ok F _ [] htu F.ok0 (by simp; omega)
  have hs := sz_rowsF F hok (by rw [run_len]; simp; omega)
  rw [e]
  simp
  refine repr_tupL (pu_rowsF F _) hs (by decide) (by decide) ?_
  refine (sl_to ts k).mpr ?_
  refine addD_tup.mpr ⟨by rw [List.length_map, List.length_map]; exact small_le (n := (ts.take k).length + us.length) (by omega), ?_⟩
  have e2 : (ts.take k).map D.int ++ us.map D.int = (ts.take k ++ us).map D.int := by simp
  rw [e2]
  refine F.lrows htu (by simp; omega) fun G4 => ?_
  refine repr_tupL (pu_rowsF F _) hs (by decide) (by decide) ?_
  refine eq_same (.inl ⟨rfl, ?_⟩)
  exact h _ _ _ _ _ ((D2.app G3).app G4)
theorem seg5 (F : FaceOk f) {k : Nat} (ht : TokOk f.many ts) (h1 : 1 ≤ k) (h2 : k < ts.length) (hl : ts.length ≤ 12) {rs : List f.ρ} (hd : Dk i j (g + 40) M)
    (h : ∀ y7 y8 y11 y12 y13 M', Dk i j g M' → D0.nx (SL a0 a2 i f ts rs y7 y8 y9 y10 y11 y12 y13) M') : C5 D0 E (SL a0 a2 i f ts rs (some (.int k)) y8 y9 y10 y11 y12 y13) M := by
  have htk := tok_take (k := k) ht
  have hlk := take_len h2
  have go : ∀ y11 M', Dk i j (g + 20) M' → C6 D0 E (SL a0 a2 i f ts rs (some (.int k)) y8 y9 y10 y11 y12 y13) M' := fun y11 M' D' => seg6 F ht h1 h2 hl D' fun y7 y8 y12 y13 M'' D'' => h _ _ _ _ _ _ D''
  simp only [SL] at go
  simp [C5, SL]
  rcases F.kind with hk | ⟨hk, ls, ps, h5, hpu, hpn, hls⟩
  · refine ixA_tup.mpr ⟨_, hk, ?_⟩
    refine eqA_str.mpr ?_
    refine .inl ⟨by simp [win_net], go _ _ (hd.le (by omega))⟩
  · refine ixA_tup.mpr ⟨_, hk, ?_⟩
    refine eqA_str.mpr ?_
    refine .inr ⟨by simp, ?_⟩
    refine ixA_tup.mpr ⟨_, h5, ?_⟩
    refine eqA_tup.mpr (eqD_empty hpu hpn (by decide) ?_)
    rcases hls with rfl | hfar
    · exact .inl ⟨rfl, go _ _ (hd.le (by omega))⟩
    · cases hle : ls.isEmpty with
      | true => exact .inl ⟨rfl, go _ _ (hd.le (by omega))⟩
      | false =>
        refine .inr ⟨rfl, ?_⟩
        refine (sl_rowsF _ k).mpr ?_
        rw [run_cut (by omega)]
        refine hfar (g := g + 20) htk (take_ne h1 h2) (by omega) (hd.le (by omega)) fun rows' M' hok hlen D' => ?_
        obtain ⟨t, htk2⟩ : ∃ t, ts[k]? = some t := ⟨_, List.getElem?_eq_getElem h2⟩
        have hmem : t ∈ ts := List.mem_of_getElem? htk2
        have hat : atI (ts.map D.int) (k : Int) = some (.int t) := atI_nat (by rw [List.getElem?_map, htk2]; rfl)
        refine ixA_tup.mpr ⟨_, hat, ?_⟩
        refine F.stepped hok (by omega) (ht t hmem) fun G1 => ?_
        have hpu2 : Pu (.tup [f.rd (f.step rows' t).1, vI (f.step rows' t).2]) (.tuple [f.pr (f.step rows' t).1, pI (f.step rows' t).2]) := Pu.tup (Pus.cons (F.pu _) (Pus.cons (Pu.vI _) Pus.nil))
        have hsz2 : Sz 407 4 (.tuple [f.pr (f.step rows' t).1, pI (f.step rows' t).2]) := sz_two (F.sz (F.snoc hok (by omega) (ht t hmem)) _ (by simp)) ((F.szw hok (ht t hmem)).mono (by decide) (by decide))
        refine repr_tupL hpu2 hsz2 (by decide) (by decide) ?_
        refine ixA_tup.mpr ⟨_, hat, ?_⟩
        refine F.lstepped hok (by omega) (ht t hmem) fun G2 => ?_
        refine repr_tupL hpu2 hsz2 (by decide) (by decide) ?_
        refine eq_same (.inl ⟨rfl, go _ _ ((D'.app G1).app G2)⟩)
theorem seg4 (F : FaceOk f) (ht : TokOk f.many ts) (h2 : 2 ≤ ts.length) (hl : ts.length ≤ 12) (hd : Dk i j (g + 50) M)
    (h : ∀ y7 y8 y11 y12 y13 M', Dk i j g M' → D0.nx (SL a0 a2 i f ts (f.run ts []) y7 y8 y9 y10 y11 y12 y13) M') : C4 D0 E (SL a0 a2 i f ts (f.run ts []) y7 y8 y9 y10 y11 y12 y13) M := by
  simp [C4, SL]
  refine lenD_tup.mpr ?_
  rw [List.length_map]
  refine intD_int.mpr ⟨trivial, ?_⟩
  refine p__law_draw (f := g + 49) hd (by omega) (by omega) fun r M1 r0 r1 D1 F1 => ?_
  obtain ⟨n, rfl⟩ : ∃ n : Nat, r = n := ⟨r.toNat, by omega⟩
  refine addD_int.mpr ?_
  have ek : (1 : Int) + (n : Int) = ((n + 1 : Nat) : Int) := by omega
  rw [ek]
  have hk2 : n + 1 < ts.length := by omega
  have hk1 : 1 ≤ n + 1 := Nat.succ_le_succ (Nat.zero_le n)
  generalize n + 1 = k at hk1 hk2 ⊢
  have htk := tok_take (k := k) ht
  have hlk := take_len hk2
  refine ⟨_, rfl, (sl_to ts k).mpr ?_⟩
  refine ⟨rfl, ?_⟩
  show sp_rows_of [f.d, vI (ts.take k)] _ _ _
  refine F.rowsOf htk (take_ne hk1 hk2) (by omega) fun G1 => ?_
  have hok : f.ok (f.run (ts.take k) []) := run_ok F _ [] htk F.ok0 (by simp; omega)
  have hs := sz_rowsF F hok (by rw [run_len]; simp; omega)
  refine repr_tupL (pu_rowsF F _) hs (by decide) (by decide) ?_
  refine ⟨_, rfl, (sl_rowsF _ k).mpr ?_⟩
  rw [run_cut (by omega)]
  refine repr_tupL (pu_rowsF F _) hs (by decide) (by decide) ?_
  refine eq_same (.inl ⟨rfl, ?_⟩)
  exact seg5 F ht hk1 hk2 hl ((D1.app G1).le (by omega)) h
theorem seg3 (F : FaceOk f) (ht : TokOk f.many ts) (h2 : 2 ≤ ts.length) (hl : ts.length ≤ 12) (hd : Dk i j (g + 50) M)
    (h : ∀ y7 y8 y11 y12 y13 M', Dk i j g M' → D0.nx (SL a0 a2 i f ts (f.run ts []) y7 y8 y9 y10 y11 y12 y13) M') : C3 D0 E (SL a0 a2 i f ts (f.run ts []) y7 y8 y9 y10 y11 y12 y13) M := by
  have hne : ts ≠ [] := fun e => by rw [e] at h2; simp at h2
  have hok : f.ok (f.run ts []) := run_ok F _ [] ht F.ok0 (by simp; omega)
  have hs := sz_rowsF F hok (by rw [run_len]; simp; omega)
  have pp : Pu (.tup [f.rows (f.run ts []), f.rows (f.run ts [])]) _ := Pu.tup (Pus.cons (pu_rowsF F _) (Pus.cons (pu_rowsF F _) Pus.nil))
  simp [C3, SL]
  refine F.rowsOf ht hne (by omega) fun G1 => ⟨z1k, ?_⟩
  refine repr_tupL pp (sz_two hs hs) (by decide) (by decide) ⟨z1k, ?_⟩
  refine repr_tupL pp (sz_two hs hs) (by decide) (by decide) (eq_same (.inl ⟨rfl, ?_⟩))
  refine F.judge ht hne (by omega) fun G2 => ?_
  have pr : Pu (.tup [.str "right"]) (.tuple [.str "right"]) := Pu.tup (Pus.cons (Pu.str _) Pus.nil)
  refine repr_tupL pr sz_right z1k (by decide) ⟨z1k, ?_⟩
  refine repr_tupL pr sz_right z1k (by decide) (eq_same (.inl ⟨rfl, ?_⟩))
  exact seg4 F ht h2 hl ((hd.app G1).app G2) h
def pairsE (pre : Nat) (ts : List Int) : List D := (ts.zipIdx pre).map fun q => D.tup [.int (q.2 : Nat), .int q.1]
theorem pairsE_cons (k : Nat) (t : Int) (ts : List Int) : pairsE k (t :: ts) = .tup [.int (k : Nat), .int t] :: pairsE (k + 1) ts := rfl
theorem tok_turn2 (F : FaceOk f) {a2 : Option D} {pre rest : List Int} {t : Int} (ht : TokOk f.many ts) (hl : ts.length ≤ 12) (e : ts = pre ++ t :: rest)
    (h : ∀ M', Ext M M' → D0.nx (SL a0 a2 i f ts (f.run (pre ++ [t]) []) (some (.int pre.length)) (some (.int t)) (some (f.rd (f.step (f.run pre []) t).1)) (some (vI (f.step (f.run pre []) t).2)) y11 y12 y13) M') :
    TB2 D0 E (SL a0 a2 i f ts (f.run pre []) (some (.int pre.length)) (some (.int t)) (some (f.rd (f.step (f.run pre []) t).1)) (some (vI (f.step (f.run pre []) t).2)) y11 y12 y13) M := by
  have hpre : TokOk f.many pre := fun x hx => ht x (by rw [e]; exact List.mem_append_left _ hx)
  have htk : 0 ≤ t ∧ t < f.many := ht t (by rw [e]; simp)
  have hlp : pre.length + rest.length + 1 ≤ 12 := by
    have := congrArg List.length e
    simp at this
    omega
  have hlt : pre.length < ts.length := by rw [e]; simp
  have hok : f.ok (f.run pre []) := run_ok F _ [] hpre F.ok0 (by simp; omega)
  have hrl : (f.run pre []).length = pre.length := by rw [run_len]; simp
  have hpu2 : Pu (.tup [f.rd (f.step (f.run pre []) t).1, vI (f.step (f.run pre []) t).2]) (.tuple [f.pr (f.step (f.run pre []) t).1, pI (f.step (f.run pre []) t).2]) := Pu.tup (Pus.cons (F.pu _) (Pus.cons (Pu.vI _) Pus.nil))
  have hsz2 : Sz 407 4 (.tuple [f.pr (f.step (f.run pre []) t).1, pI (f.step (f.run pre []) t).2]) := sz_two (F.sz (F.snoc hok (by omega) htk) _ (by simp)) ((F.szw hok htk).mono (by decide) (by decide))
  have hcut : ts.take pre.length = pre := by rw [e]; exact List.take_left
  have hcut2 : ts.take (pre.length + 1) = pre ++ [t] := by
    have e2 : ts = (pre ++ [t]) ++ rest := by rw [e]; simp
    rw [e2, show pre.length + 1 = (pre ++ [t]).length by simp]
    exact List.take_left
  simp [TB2, SL]
  refine ⟨z1k, ?_⟩
  refine repr_tupL hpu2 hsz2 (by decide) (by decide) ?_
  refine (sl_rowsF _ pre.length).mpr ?_
  rw [run_cut (by omega), hcut]
  refine F.lstepped hok (by omega) htk fun G1 => ?_
  refine repr_tupL hpu2 hsz2 (by decide) (by decide) (eq_same (.inl ⟨rfl, ?_⟩))
  have ea : (f.run pre []).map f.rd ++ [f.rd (f.step (f.run pre []) t).1] = (f.run (pre ++ [t]) []).map f.rd := by rw [run_snoc]; simp
  refine ⟨z1k, addD_tup.mpr ⟨by rw [List.length_map, hrl]; exact small_le (n := pre.length + 1) (by omega), ?_⟩⟩
  rw [ea]
  have hM1 : Ext M (M ++ G1) := Ext.app M G1
  by_cases h3 : ((pre.length : Nat) : Int).fmod 3 = 0
  · refine .inr ⟨h3, ?_⟩
    have e1 : ((pre.length : Nat) : Int) + 1 = ((pre.length + 1 : Nat) : Int) := by omega
    rw [e1]
    refine (sl_to ts (pre.length + 1)).mpr ?_
    rw [hcut2]
    have htt : TokOk f.many (pre ++ [t]) := fun x hx => ht x (by rw [e]; rcases List.mem_append.mp hx with hx | hx <;> simp_all)
    refine F.mw htt (by omega) fun G2 => ?_
    have hsw := F.szw hok htk
    refine repr_tupL (Pu.vI _) hsw z1k (by decide) ?_
    refine repr_tupL (Pu.vI _) hsw z1k (by decide) (eq_same (.inl ⟨rfl, ?_⟩))
    exact h _ (hM1.tr (Ext.app _ G2))
  · exact .inl ⟨h3, h _ hM1⟩
theorem tok_turn (F : FaceOk f) {tn : Int} {pre rest : List Int} {t : Int} (ht : TokOk f.many ts) (hl : ts.length ≤ 12) (e : ts = pre ++ t :: rest)
    (h : ∀ y9 y10 M', Ext M M' → D0.nx (SL a0 (some (.int tn)) i f ts (f.run (pre ++ [t]) []) (some (.int pre.length)) (some (.int t)) y9 y10 y11 y12 y13) M') :
    TB D0 E (SL a0 (some (.int tn)) i f ts (f.run pre []) (some (.int pre.length)) (some (.int t)) y9 y10 y11 y12 y13) M := by
  have hpre : TokOk f.many pre := fun x hx => ht x (by rw [e]; exact List.mem_append_left _ hx)
  have htk : 0 ≤ t ∧ t < f.many := ht t (by rw [e]; simp)
  have hlp : pre.length + rest.length + 1 ≤ 12 := by
    have := congrArg List.length e
    simp at this
    omega
  have hok : f.ok (f.run pre []) := run_ok F _ [] hpre F.ok0 (by simp; omega)
  have hrl : (f.run pre []).length = pre.length := by rw [run_len]; simp
  have tail : ∀ G, TB2 D0 E (SL a0 (some (.int tn)) i f ts (f.run pre []) (some (.int pre.length)) (some (.int t)) (some (f.rd (f.step (f.run pre []) t).1)) (some (vI (f.step (f.run pre []) t).2)) y11 y12 y13) (M ++ G) := fun G => tok_turn2 F ht hl e fun M' x => h _ _ M' ((Ext.app M G).tr x)
  simp only [SL] at tail
  simp [TB, SL]
  by_cases h0 : tn = 0
  · refine .inr ⟨h0, ?_⟩
    refine F.stepped hok (by omega) htk fun G => ?_
    simp
    exact tail G
  · refine .inl ⟨h0, rfl, ?_⟩
    show sp_stepped [f.d, f.rows (f.run pre []), .int t] _ _ _
    refine F.stepped hok (by omega) htk fun G => ?_
    simp
    exact tail G
theorem tok_go (F : FaceOk f) (tn : Int) (ht : TokOk f.many ts) (hl : ts.length ≤ 12) : ∀ (rest pre : List Int) (y7 y8 y9 y10 : Option D) (M : Mem), ts = pre ++ rest →
    (∀ y7 y8 y9 y10 M', Ext M M' → D0.nx (SL a0 (some (.int tn)) i f ts (f.run ts []) y7 y8 y9 y10 y11 y12 y13) M') →
    forD (dGTup 2 (dGCons (dGN 7) (dGCons (dGN 8) (dGNil)))) TB (fun _ => True) D0 E (pairsE pre.length rest) (SL a0 (some (.int tn)) i f ts (f.run pre []) y7 y8 y9 y10 y11 y12 y13) M
  | [], pre, y7, y8, y9, y10, M, e, h => by
    rw [List.append_nil] at e
    subst e
    exact ⟨trivial, h y7 y8 y9 y10 M (Ext.refl M)⟩
  | t :: rest, pre, y7, y8, y9, y10, M, e, h => by
    rw [pairsE_cons]
    refine ⟨trivial, ?_⟩
    simp [SL]
    refine tok_turn F ht hl e fun y9 y10 M' x => ?_
    have := tok_go F tn ht hl rest (pre ++ [t]) (some (.int pre.length)) (some (.int t)) y9 y10 M' (by rw [e]; simp) fun y7 y8 y9 y10 M'' x' => h y7 y8 y9 y10 M'' (x.tr x')
    rw [List.length_append] at this
    exact this
theorem seg2 (F : FaceOk f) {tn : Int} (ht : TokOk f.many ts) (h2 : 2 ≤ ts.length) (hl : ts.length ≤ 12) (hd : Dk i j (g + 50) M)
    (h : ∀ y7 y8 y9 y10 y11 y12 y13 M', Dk i j g M' → D0.nx (SL a0 (some (.int tn)) i f ts (f.run ts []) y7 y8 y9 y10 y11 y12 y13) M') : C2 D0 E (SL a0 (some (.int tn)) i f ts [] y7 y8 y9 y10 y11 y12 y13) M := by
  simp [C2, SL]
  have ee : enumD (ts.map D.int) = pairsE 0 ts := by
    unfold enumD pairsE
    rw [enumD_map]
  refine .inl ⟨_, rfl, ?_⟩
  rw [ee]
  refine tok_go F tn ht hl ts [] y7 y8 y9 y10 M rfl fun y7 y8 y9 y10 M' x => ?_
  obtain ⟨G, rfl⟩ := x
  exact seg3 F ht h2 hl (hd.app G) fun y7 y8 y11 y12 y13 M' D' => h _ _ _ _ _ _ _ M' D'
theorem seg1 {y4 y5 y6 : Option D} (F : FaceOk f) {tn : Int} (hd : Dk i j (g + 80) M)
    (h : ∀ ts rs y7 y8 y9 y10 y11 y12 y13 M', Dk i j g M' → D0.nx (SL a0 (some (.int tn)) i f ts rs y7 y8 y9 y10 y11 y12 y13) M') : C1 D0 E [a0, some (.obj i), some (.int tn), some f.d, y4, y5, y6, y7, y8, y9, y10, y11, y12, y13] M := by
  simp [C1]
  refine ixA_tup.mpr ⟨_, F.at1, ?_⟩
  obtain ⟨m, hm⟩ : ∃ m : Nat, f.many = m := ⟨f.many.toNat, by have := F.m2; omega⟩
  have h8 := F.m8
  have h22 := F.m2
  rw [hm]
  refine p__law_drawn_tokens (f := g + 60) (wide := m) (many := 11) (hd.le (by omega)) (by omega) (by omega) (by decide) (by decide) fun us M2 hne hlu hu D2 F2 => ?_
  refine ixA_tup.mpr ⟨_, F.at1, ?_⟩
  rw [hm]
  refine p__law_draw (f := g + 59) D2 (by omega) (by omega) fun r M3 r0 r1 D3 F3 => ?_
  refine ⟨z1k, addD_tup.mpr ⟨by rw [List.length_map]; exact small_le (n := us.length + 1) (by omega), ?_⟩⟩
  have e : us.map D.int ++ [D.int r] = (us ++ [r]).map D.int := by simp
  rw [e]
  have ht : TokOk f.many (us ++ [r]) := fun x hx => by
    rw [hm]
    rcases List.mem_append.mp hx with hx | hx
    · exact hu x hx
    · rw [List.mem_singleton.mp hx]; exact ⟨r0, r1⟩
  have hpos : 0 < us.length := List.length_pos_iff.mpr hne
  refine F.lrows ht (by simp; omega) fun G => ?_
  refine ⟨_, _, ⟨rfl, rfl⟩, ?_⟩
  exact seg2 (g := g) F ht (by simp; omega) (by simp; omega) ((D3.app G).le (by omega)) fun y7 y8 y9 y10 y11 y12 y13 M' D' => h _ _ _ _ _ _ _ _ _ M' D'
theorem reprsI {n : Int} {M : Mem} {K : KD} (hn : n.natAbs < 100000000) (h : K (.bl false) M) : reprID [.int n] M fun x M1 => reprID [.int n] M1 fun y M2 => eqA true x y M2 K := by
  have hz : n.natAbs.log2 < 1920 := by
    by_cases h0 : n.natAbs = 0
    · rw [h0]; decide
    · exact (Nat.log2_lt h0).mpr (Nat.lt_trans hn (by decide))
  exact ⟨hz, hz, eq_same h⟩
theorem turn_ok {y3 y4 y5 y6 : Option D} {tn : Int} (hd : Dk i j (g + 1500) M)
    (h : ∀ y3 y4 y5 y6 y7 y8 y9 y10 y11 y12 y13 M', Dk i j g M' → D0.nx [a0, some (.obj i), some (.int tn), y3, y4, y5, y6, y7, y8, y9, y10, y11, y12, y13] M') : C0 D0 E [a0, some (.obj i), some (.int tn), y3, y4, y5, y6, y7, y8, y9, y10, y11, y12, y13] M := by
  have tail : ∀ f M', FaceOk f → Dk i j (g + 80) M' → C1 D0 E [a0, some (.obj i), some (.int tn), some f.d, y4, y5, y6, y7, y8, y9, y10, y11, y12, y13] M' := fun f M' F D' => seg1 F D' fun ts rs y7 y8 y9 y10 y11 y12 y13 M'' D'' => h _ _ _ _ _ _ _ _ _ _ _ M'' D''
  have mid : ∀ f M', FaceOk f → Dk i j (g + 80) M' → sp_model_size [f.d] M' (fun d M1 => reprID [d] M1 fun x M1 => ixA f.d (.int 1) M1 fun d M1 => reprID [d] M1 fun y M2 => eqA true x y M2 fun d M' => d = .bl false ∧ C1 D0 E [a0, some (.obj i), some (.int tn), some f.d, y4, y5, y6, y7, y8, y9, y10, y11, y12, y13] M' ∨ d = .bl true ∧ D0.rt (.bl false) M') E := fun f M' F D' => by
    refine F.size fun G => ?_
    have h8 := F.m8
    have h2 := F.m2
    have hz : f.many.natAbs.log2 < 1920 := by
      by_cases h0 : f.many.natAbs = 0
      · rw [h0]; decide
      · exact (Nat.log2_lt h0).mpr (Nat.lt_of_lt_of_le (by omega : f.many.natAbs < 2 ^ 4) (Nat.pow_le_pow_right (by decide) (by decide)))
    refine ⟨hz, ixA_tup.mpr ⟨_, F.at1, hz, eq_same (.inl ⟨rfl, tail f _ F (D'.app G)⟩)⟩⟩
  simp [C0]
  refine p__law_draw (f := g + 1499) hd (by decide) (by decide) fun r M1 r0 r1 D1 F1 => ?_
  refine eqA_int.mpr ?_
  by_cases hr : r = 0
  · refine .inr ⟨by simp [hr], ?_⟩
    refine Wn.p__law_drawn_window (f := g + 80) (D1.le (by omega)) fun W M2 B hf D2 F2 => ?_
    exact mid (winF W) M2 (winF_ok B) D2
  · refine .inl ⟨by simp [hr], ?_⟩
    refine p__law_drawn_net (f := g + 80) (D1.le (by omega)) fun N M2 B D2 F2 => ?_
    obtain ⟨w, hw⟩ : ∃ w : Nat, N.w = w := ⟨N.w.toNat, by have := B.O.w1; omega⟩
    exact mid (netF N w) M2 (netF_ok B hw) D2
end
theorem law_true : ∀ ns : List Int, ns.length ≤ 63 → sp_law [.scr ns] [] (fun d _ => d = .bl true) E00 := fun ns hl => by
  show r_law _ _ _ _
  rw [law_eq]
  simp
  refine p__law_deck hl (by decide) (by decide) fun i j M hd => ?_
  refine ⟨trivial, ?_⟩
  refine turn_ok (g := 990000) (hd.le (by omega)) fun y3 y4 y5 y6 y7 y8 y9 y10 y11 y12 y13 M1 D1 => ?_
  refine ⟨trivial, ?_⟩
  refine turn_ok (g := 980000) (D1.le (by omega)) fun y3 y4 y5 y6 y7 y8 y9 y10 y11 y12 y13 M2 D2 => ?_
  refine ⟨trivial, ?_⟩
  rfl
end Z8
set_option Elab.async false
set_option linter.all false
set_option maxRecDepth 100000
set_option maxHeartbeats 4000000
namespace Z8
open PySem PySem.Spec PyProof.Rows L2 GxR Gn Dl
def tabNames : List Str := ["are_tokens", "are_weights", "are_rows", "is_row", "_is_window_model", "_is_network", "_is_layer", "_are_vectors", "_is_vector"]
theorem all_mk (hl : ∀ ns : List Int, ns.length ≤ 63 → sp_law [.scr ns] [] (fun d _ => d = .bl true) E00) {l : PySem.W.OpenLaw} {w : World} {K : PySem.W.Frag} {h : Heap} {mg : Str → Option Value} {fa f7 f8 f9 f10 f11 f12 f13 f14 f15 f16 f17 f22 f23 f24 f25 f26 f27 f28 f29 f30 f31 f32 f33 f34 f35 f36 f37 f38 f39 f40 f41 f42 f43 f44 f45 f46 f47 f48 f49 f51 f52 f53 f54 f55 f56 f57 f58 f59 f60 f61 f62 f63 f64 f65 f66 f67 f68 f69 f70 f71 : Addr} (X : K.In h) (G : h.Ns mainGlobals mg) (hfa : mg "law" = some (.ref fa)) (own : ∀ x ∈ tabNames, ∀ f, mg x = some (.ref f) → LamX.OwnTab K f h)
    {od7 an7 od8 an8 od9 an9 od10 an10 od11 an11 od12 an12 od13 an13 od14 an14 od15 an15 od16 an16 od17 an17 od22 an22 od23 an23 od24 an24 od25 an25 od26 an26 od27 an27 od28 an28 od29 an29 od30 an30 od31 an31 od32 an32 od33 an33 od34 an34 od35 an35 od36 an36 od37 an37 od38 an38 od39 an39 od40 an40 od41 an41 od42 an42 od43 an43 od44 an44 od45 an45 od46 an46 od47 an47 od48 an48 od49 an49 od51 an51 od52 an52 od53 an53 od54 an54 od55 an55 od56 an56 od57 an57 od58 an58 od59 an59 od60 an60 od61 an61 od62 an62 od63 an63 od64 an64 od65 an65 od66 an66 od67 an67 od68 an68 od69 an69 od70 an70 od71 an71 : Option Addr} {sl7 sl8 sl9 sl10 sl11 sl12 sl13 sl14 sl15 sl16 sl17 sl22 sl23 sl24 sl25 sl26 sl27 sl28 sl29 sl30 sl31 sl32 sl33 sl34 sl35 sl36 sl37 sl38 sl39 sl40 sl41 sl42 sl43 sl44 sl45 sl46 sl47 sl48 sl49 sl51 sl52 sl53 sl54 sl55 sl56 sl57 sl58 sl59 sl60 sl61 sl62 sl63 sl64 sl65 sl66 sl67 sl68 sl69 sl70 sl71 : Array (Option Value)} {oc7 kV7 dc7 pm7 cd7 ct7 oc8 kV8 dc8 pm8 cd8 ct8 oc9 kV9 dc9 pm9 cd9 ct9 oc10 kV10 dc10 pm10 cd10 ct10 oc11 kV11 dc11 pm11 ct11 oc12 kV12 dc12 pm12 ct12 oc13 kV13 dc13 pm13 cd13 ct13 oc14 kV14 dc14 pm14 cd14 ct14 oc15 kV15 dc15 pm15 cd15 ct15 oc16 kV16 dc16 pm16 cd16 ct16 oc17 kV17 dc17 pm17 cd17 ct17 oc22 kV22 dc22 pm22 cd22 ct22 oc23 kV23 dc23 pm23 cd23 ct23 oc24 kV24 dc24 pm24 cd24 ct24 oc25 kV25 dc25 pm25 cd25 ct25 oc26 kV26 dc26 pm26 cd26 ct26 oc27 kV27 dc27 pm27 cd27 ct27 oc28 kV28 dc28 pm28 ct28 oc29 kV29 dc29 pm29 ct29 oc30 kV30 dc30 pm30 cd30 ct30 oc31 kV31 dc31 pm31 cd31 ct31 oc32 kV32 dc32 pm32 cd32 ct32 oc33 kV33 dc33 pm33 cd33 ct33 oc34 kV34 dc34 pm34 cd34 ct34 oc35 kV35 dc35 pm35 ct35 oc36 kV36 dc36 pm36 cd36 ct36 oc37 kV37 dc37 pm37 cd37 ct37 oc38 kV38 dc38 pm38 cd38 ct38 oc39 kV39 dc39 pm39 ct39 oc40 kV40 dc40 pm40 ct40 oc41 kV41 dc41 pm41 ct41 oc42 kV42 dc42 pm42 ct42 oc43 kV43 dc43 pm43 cd43 ct43 oc44 kV44 dc44 pm44 cd44 ct44 oc45 kV45 dc45 pm45 cd45 ct45 oc46 kV46 dc46 pm46 cd46 ct46 oc47 kV47 dc47 pm47 cd47 ct47 oc48 kV48 dc48 pm48 cd48 ct48 oc49 kV49 dc49 pm49 cd49 ct49 oc51 kV51 dc51 pm51 cd51 ct51 oc52 kV52 dc52 pm52 cd52 ct52 oc53 kV53 dc53 pm53 cd53 ct53 oc54 kV54 dc54 pm54 cd54 ct54 oc55 kV55 dc55 pm55 cd55 ct55 oc56 kV56 dc56 pm56 cd56 ct56 oc57 kV57 dc57 pm57 cd57 ct57 oc58 kV58 dc58 pm58 cd58 ct58 oc59 kV59 dc59 pm59 cd59 ct59 oc60 kV60 dc60 pm60 cd60 ct60 oc61 kV61 dc61 pm61 cd61 ct61 oc62 kV62 dc62 pm62 cd62 ct62 oc63 kV63 dc63 pm63 cd63 ct63 oc64 kV64 dc64 pm64 cd64 ct64 oc65 kV65 dc65 pm65 cd65 ct65 oc66 kV66 dc66 pm66 cd66 ct66 oc67 kV67 dc67 pm67 cd67 ct67 oc68 kV68 dc68 pm68 cd68 ct68 oc69 kV69 dc69 pm69 cd69 ct69 oc70 kV70 dc70 pm70 cd70 ct70 oc71 kV71 dc71 pm71 cd71 ct71 : Value}
    {c11 P11 c12 P12 c28 P28 c29 P29 c35 P35 c39 P39 c40 P40 c41 P41 c42 P42 : Addr} {e11 e12 e28 e29 e35 e39 e40 e41 e42 : Value} {dd11 dd12 dd28 dd29 dd35 dd39 dd40 dd41 dd42 : Option Addr} {us11 us12 us28 us29 us35 us39 us40 us41 us42 : Array Value} {sc11 sc12 sc28 sc29 sc35 sc39 sc40 sc41 sc42 : Array (Option Value)}
    {tg0 tg1 tg2 : Tok}
    (g7 : PySem.W.nsIn K mainGlobals "is_integer" = some (some (.ref f7))) (l7 : K.lookup f7 = some ⟨oc7, od7, .func (PySem.W.fnOf "is_integer" "is_integer" (defArgs (top 7)) (defBody (top 7)) (defScope (top 7)) .none kV7 dc7 pm7 an7 cd7 ct7), sl7⟩) (q7 : PySem.W.codeIn K cd7 "is_integer" = true) (k7 : PySem.W.keepIn K (.ref f7) = true)
    (g8 : PySem.W.nsIn K mainGlobals "is_integer_from" = some (some (.ref f8))) (l8 : K.lookup f8 = some ⟨oc8, od8, .func (PySem.W.fnOf "is_integer_from" "is_integer_from" (defArgs (top 8)) (defBody (top 8)) (defScope (top 8)) .none kV8 dc8 pm8 an8 cd8 ct8), sl8⟩) (q8 : PySem.W.codeIn K cd8 "is_integer_from" = true) (k8 : PySem.W.keepIn K (.ref f8) = true)
    (g9 : PySem.W.nsIn K mainGlobals "is_number_below" = some (some (.ref f9))) (l9 : K.lookup f9 = some ⟨oc9, od9, .func (PySem.W.fnOf "is_number_below" "is_number_below" (defArgs (top 9)) (defBody (top 9)) (defScope (top 9)) .none kV9 dc9 pm9 an9 cd9 ct9), sl9⟩) (q9 : PySem.W.codeIn K cd9 "is_number_below" = true) (k9 : PySem.W.keepIn K (.ref f9) = true)
    (g10 : PySem.W.nsIn K mainGlobals "is_token" = some (some (.ref f10))) (l10 : K.lookup f10 = some ⟨oc10, od10, .func (PySem.W.fnOf "is_token" "is_token" (defArgs (top 10)) (defBody (top 10)) (defScope (top 10)) .none kV10 dc10 pm10 an10 cd10 ct10), sl10⟩) (q10 : PySem.W.codeIn K cd10 "is_token" = true) (k10 : PySem.W.keepIn K (.ref f10) = true)
    (g11 : PySem.W.nsIn K mainGlobals "are_tokens" = some (some (.ref f11))) (l11 : K.lookup f11 = some ⟨oc11, od11, .func (PySem.W.fnOf "are_tokens" "are_tokens" (defArgs (top 11)) (defBody (top 11)) (defScope (top 11)) .none kV11 dc11 pm11 an11 (.ref c11) ct11), sl11⟩) (q11 : PySem.W.codeIn K (.ref c11) "are_tokens" = true) (k11 : PySem.W.keepIn K (.ref f11) = true)
    (g12 : PySem.W.nsIn K mainGlobals "are_weights" = some (some (.ref f12))) (l12 : K.lookup f12 = some ⟨oc12, od12, .func (PySem.W.fnOf "are_weights" "are_weights" (defArgs (top 12)) (defBody (top 12)) (defScope (top 12)) .none kV12 dc12 pm12 an12 (.ref c12) ct12), sl12⟩) (q12 : PySem.W.codeIn K (.ref c12) "are_weights" = true) (k12 : PySem.W.keepIn K (.ref f12) = true)
    (g13 : PySem.W.nsIn K mainGlobals "is_tuple_of" = some (some (.ref f13))) (l13 : K.lookup f13 = some ⟨oc13, od13, .func (PySem.W.fnOf "is_tuple_of" "is_tuple_of" (defArgs (top 13)) (defBody (top 13)) (defScope (top 13)) .none kV13 dc13 pm13 an13 cd13 ct13), sl13⟩) (q13 : PySem.W.codeIn K cd13 "is_tuple_of" = true) (k13 : PySem.W.keepIn K (.ref f13) = true)
    (g14 : PySem.W.nsIn K mainGlobals "is_ascending" = some (some (.ref f14))) (l14 : K.lookup f14 = some ⟨oc14, od14, .func (PySem.W.fnOf "is_ascending" "is_ascending" (defArgs (top 14)) (defBody (top 14)) (defScope (top 14)) .none kV14 dc14 pm14 an14 cd14 ct14), sl14⟩) (q14 : PySem.W.codeIn K cd14 "is_ascending" = true) (k14 : PySem.W.keepIn K (.ref f14) = true)
    (g15 : PySem.W.nsIn K mainGlobals "same" = some (some (.ref f15))) (l15 : K.lookup f15 = some ⟨oc15, od15, .func (PySem.W.fnOf "same" "same" (defArgs (top 15)) (defBody (top 15)) (defScope (top 15)) .none kV15 dc15 pm15 an15 cd15 ct15), sl15⟩) (q15 : PySem.W.codeIn K cd15 "same" = true) (k15 : PySem.W.keepIn K (.ref f15) = true)
    (g16 : PySem.W.nsIn K mainGlobals "first_difference" = some (some (.ref f16))) (l16 : K.lookup f16 = some ⟨oc16, od16, .func (PySem.W.fnOf "first_difference" "first_difference" (defArgs (top 16)) (defBody (top 16)) (defScope (top 16)) .none kV16 dc16 pm16 an16 cd16 ct16), sl16⟩) (q16 : PySem.W.codeIn K cd16 "first_difference" = true) (k16 : PySem.W.keepIn K (.ref f16) = true)
    (g17 : PySem.W.nsIn K mainGlobals "certificate" = some (some (.ref f17))) (l17 : K.lookup f17 = some ⟨oc17, od17, .func (PySem.W.fnOf "certificate" "certificate" (defArgs (top 17)) (defBody (top 17)) (defScope (top 17)) .none kV17 dc17 pm17 an17 cd17 ct17), sl17⟩) (q17 : PySem.W.codeIn K cd17 "certificate" = true) (k17 : PySem.W.keepIn K (.ref f17) = true)
    (g22 : PySem.W.nsIn K mainGlobals "is_model" = some (some (.ref f22))) (l22 : K.lookup f22 = some ⟨oc22, od22, .func (PySem.W.fnOf "is_model" "is_model" (defArgs (top 22)) (defBody (top 22)) (defScope (top 22)) .none kV22 dc22 pm22 an22 cd22 ct22), sl22⟩) (q22 : PySem.W.codeIn K cd22 "is_model" = true) (k22 : PySem.W.keepIn K (.ref f22) = true)
    (g23 : PySem.W.nsIn K mainGlobals "model_size" = some (some (.ref f23))) (l23 : K.lookup f23 = some ⟨oc23, od23, .func (PySem.W.fnOf "model_size" "model_size" (defArgs (top 23)) (defBody (top 23)) (defScope (top 23)) .none kV23 dc23 pm23 an23 cd23 ct23), sl23⟩) (q23 : PySem.W.codeIn K cd23 "model_size" = true) (k23 : PySem.W.keepIn K (.ref f23) = true)
    (g24 : PySem.W.nsIn K mainGlobals "model_weights" = some (some (.ref f24))) (l24 : K.lookup f24 = some ⟨oc24, od24, .func (PySem.W.fnOf "model_weights" "model_weights" (defArgs (top 24)) (defBody (top 24)) (defScope (top 24)) .none kV24 dc24 pm24 an24 cd24 ct24), sl24⟩) (q24 : PySem.W.codeIn K cd24 "model_weights" = true) (k24 : PySem.W.keepIn K (.ref f24) = true)
    (g25 : PySem.W.nsIn K mainGlobals "rows_of" = some (some (.ref f25))) (l25 : K.lookup f25 = some ⟨oc25, od25, .func (PySem.W.fnOf "rows_of" "rows_of" (defArgs (top 25)) (defBody (top 25)) (defScope (top 25)) .none kV25 dc25 pm25 an25 cd25 ct25), sl25⟩) (q25 : PySem.W.codeIn K cd25 "rows_of" = true) (k25 : PySem.W.keepIn K (.ref f25) = true)
    (g26 : PySem.W.nsIn K mainGlobals "stepped" = some (some (.ref f26))) (l26 : K.lookup f26 = some ⟨oc26, od26, .func (PySem.W.fnOf "stepped" "stepped" (defArgs (top 26)) (defBody (top 26)) (defScope (top 26)) .none kV26 dc26 pm26 an26 cd26 ct26), sl26⟩) (q26 : PySem.W.codeIn K cd26 "stepped" = true) (k26 : PySem.W.keepIn K (.ref f26) = true)
    (g27 : PySem.W.nsIn K mainGlobals "judge_rows" = some (some (.ref f27))) (l27 : K.lookup f27 = some ⟨oc27, od27, .func (PySem.W.fnOf "judge_rows" "judge_rows" (defArgs (top 27)) (defBody (top 27)) (defScope (top 27)) .none kV27 dc27 pm27 an27 cd27 ct27), sl27⟩) (q27 : PySem.W.codeIn K cd27 "judge_rows" = true) (k27 : PySem.W.keepIn K (.ref f27) = true)
    (g28 : PySem.W.nsIn K mainGlobals "are_rows" = some (some (.ref f28))) (l28 : K.lookup f28 = some ⟨oc28, od28, .func (PySem.W.fnOf "are_rows" "are_rows" (defArgs (top 28)) (defBody (top 28)) (defScope (top 28)) .none kV28 dc28 pm28 an28 (.ref c28) ct28), sl28⟩) (q28 : PySem.W.codeIn K (.ref c28) "are_rows" = true) (k28 : PySem.W.keepIn K (.ref f28) = true)
    (g29 : PySem.W.nsIn K mainGlobals "is_row" = some (some (.ref f29))) (l29 : K.lookup f29 = some ⟨oc29, od29, .func (PySem.W.fnOf "is_row" "is_row" (defArgs (top 29)) (defBody (top 29)) (defScope (top 29)) .none kV29 dc29 pm29 an29 (.ref c29) ct29), sl29⟩) (q29 : PySem.W.codeIn K (.ref c29) "is_row" = true) (k29 : PySem.W.keepIn K (.ref f29) = true)
    (g30 : PySem.W.nsIn K mainGlobals "weights_after" = some (some (.ref f30))) (l30 : K.lookup f30 = some ⟨oc30, od30, .func (PySem.W.fnOf "weights_after" "weights_after" (defArgs (top 30)) (defBody (top 30)) (defScope (top 30)) .none kV30 dc30 pm30 an30 cd30 ct30), sl30⟩) (q30 : PySem.W.codeIn K cd30 "weights_after" = true) (k30 : PySem.W.keepIn K (.ref f30) = true)
    (g31 : PySem.W.nsIn K mainGlobals "rows_after" = some (some (.ref f31))) (l31 : K.lookup f31 = some ⟨oc31, od31, .func (PySem.W.fnOf "rows_after" "rows_after" (defArgs (top 31)) (defBody (top 31)) (defScope (top 31)) .none kV31 dc31 pm31 an31 cd31 ct31), sl31⟩) (q31 : PySem.W.codeIn K cd31 "rows_after" = true) (k31 : PySem.W.keepIn K (.ref f31) = true)
    (g32 : PySem.W.nsIn K mainGlobals "next_row" = some (some (.ref f32))) (l32 : K.lookup f32 = some ⟨oc32, od32, .func (PySem.W.fnOf "next_row" "next_row" (defArgs (top 32)) (defBody (top 32)) (defScope (top 32)) .none kV32 dc32 pm32 an32 cd32 ct32), sl32⟩) (q32 : PySem.W.codeIn K cd32 "next_row" = true) (k32 : PySem.W.keepIn K (.ref f32) = true)
    (g33 : PySem.W.nsIn K mainGlobals "_need_model" = some (some (.ref f33))) (l33 : K.lookup f33 = some ⟨oc33, od33, .func (PySem.W.fnOf "_need_model" "_need_model" (defArgs (top 33)) (defBody (top 33)) (defScope (top 33)) .none kV33 dc33 pm33 an33 cd33 ct33), sl33⟩) (q33 : PySem.W.codeIn K cd33 "_need_model" = true) (k33 : PySem.W.keepIn K (.ref f33) = true)
    (g34 : PySem.W.nsIn K mainGlobals "_need_tokens" = some (some (.ref f34))) (l34 : K.lookup f34 = some ⟨oc34, od34, .func (PySem.W.fnOf "_need_tokens" "_need_tokens" (defArgs (top 34)) (defBody (top 34)) (defScope (top 34)) .none kV34 dc34 pm34 an34 cd34 ct34), sl34⟩) (q34 : PySem.W.codeIn K cd34 "_need_tokens" = true) (k34 : PySem.W.keepIn K (.ref f34) = true)
    (g35 : PySem.W.nsIn K mainGlobals "_is_window_model" = some (some (.ref f35))) (l35 : K.lookup f35 = some ⟨oc35, od35, .func (PySem.W.fnOf "_is_window_model" "_is_window_model" (defArgs (top 35)) (defBody (top 35)) (defScope (top 35)) .none kV35 dc35 pm35 an35 (.ref c35) ct35), sl35⟩) (q35 : PySem.W.codeIn K (.ref c35) "_is_window_model" = true) (k35 : PySem.W.keepIn K (.ref f35) = true)
    (g36 : PySem.W.nsIn K mainGlobals "_is_entry" = some (some (.ref f36))) (l36 : K.lookup f36 = some ⟨oc36, od36, .func (PySem.W.fnOf "_is_entry" "_is_entry" (defArgs (top 36)) (defBody (top 36)) (defScope (top 36)) .none kV36 dc36 pm36 an36 cd36 ct36), sl36⟩) (q36 : PySem.W.codeIn K cd36 "_is_entry" = true) (k36 : PySem.W.keepIn K (.ref f36) = true)
    (g37 : PySem.W.nsIn K mainGlobals "_are_model_weights" = some (some (.ref f37))) (l37 : K.lookup f37 = some ⟨oc37, od37, .func (PySem.W.fnOf "_are_model_weights" "_are_model_weights" (defArgs (top 37)) (defBody (top 37)) (defScope (top 37)) .none kV37 dc37 pm37 an37 cd37 ct37), sl37⟩) (q37 : PySem.W.codeIn K cd37 "_are_model_weights" = true) (k37 : PySem.W.keepIn K (.ref f37) = true)
    (g38 : PySem.W.nsIn K mainGlobals "_window_weights" = some (some (.ref f38))) (l38 : K.lookup f38 = some ⟨oc38, od38, .func (PySem.W.fnOf "_window_weights" "_window_weights" (defArgs (top 38)) (defBody (top 38)) (defScope (top 38)) .none kV38 dc38 pm38 an38 cd38 ct38), sl38⟩) (q38 : PySem.W.codeIn K cd38 "_window_weights" = true) (k38 : PySem.W.keepIn K (.ref f38) = true)
    (g39 : PySem.W.nsIn K mainGlobals "_is_network" = some (some (.ref f39))) (l39 : K.lookup f39 = some ⟨oc39, od39, .func (PySem.W.fnOf "_is_network" "_is_network" (defArgs (top 39)) (defBody (top 39)) (defScope (top 39)) .none kV39 dc39 pm39 an39 (.ref c39) ct39), sl39⟩) (q39 : PySem.W.codeIn K (.ref c39) "_is_network" = true) (k39 : PySem.W.keepIn K (.ref f39) = true)
    (g40 : PySem.W.nsIn K mainGlobals "_is_layer" = some (some (.ref f40))) (l40 : K.lookup f40 = some ⟨oc40, od40, .func (PySem.W.fnOf "_is_layer" "_is_layer" (defArgs (top 40)) (defBody (top 40)) (defScope (top 40)) .none kV40 dc40 pm40 an40 (.ref c40) ct40), sl40⟩) (q40 : PySem.W.codeIn K (.ref c40) "_is_layer" = true) (k40 : PySem.W.keepIn K (.ref f40) = true)
    (g41 : PySem.W.nsIn K mainGlobals "_are_vectors" = some (some (.ref f41))) (l41 : K.lookup f41 = some ⟨oc41, od41, .func (PySem.W.fnOf "_are_vectors" "_are_vectors" (defArgs (top 41)) (defBody (top 41)) (defScope (top 41)) .none kV41 dc41 pm41 an41 (.ref c41) ct41), sl41⟩) (q41 : PySem.W.codeIn K (.ref c41) "_are_vectors" = true) (k41 : PySem.W.keepIn K (.ref f41) = true)
    (g42 : PySem.W.nsIn K mainGlobals "_is_vector" = some (some (.ref f42))) (l42 : K.lookup f42 = some ⟨oc42, od42, .func (PySem.W.fnOf "_is_vector" "_is_vector" (defArgs (top 42)) (defBody (top 42)) (defScope (top 42)) .none kV42 dc42 pm42 an42 (.ref c42) ct42), sl42⟩) (q42 : PySem.W.codeIn K (.ref c42) "_is_vector" = true) (k42 : PySem.W.keepIn K (.ref f42) = true)
    (g43 : PySem.W.nsIn K mainGlobals "_network_step" = some (some (.ref f43))) (l43 : K.lookup f43 = some ⟨oc43, od43, .func (PySem.W.fnOf "_network_step" "_network_step" (defArgs (top 43)) (defBody (top 43)) (defScope (top 43)) .none kV43 dc43 pm43 an43 cd43 ct43), sl43⟩) (q43 : PySem.W.codeIn K cd43 "_network_step" = true) (k43 : PySem.W.keepIn K (.ref f43) = true)
    (g44 : PySem.W.nsIn K mainGlobals "_mixed" = some (some (.ref f44))) (l44 : K.lookup f44 = some ⟨oc44, od44, .func (PySem.W.fnOf "_mixed" "_mixed" (defArgs (top 44)) (defBody (top 44)) (defScope (top 44)) .none kV44 dc44 pm44 an44 cd44 ct44), sl44⟩) (q44 : PySem.W.codeIn K cd44 "_mixed" = true) (k44 : PySem.W.keepIn K (.ref f44) = true)
    (g45 : PySem.W.nsIn K mainGlobals "_shares" = some (some (.ref f45))) (l45 : K.lookup f45 = some ⟨oc45, od45, .func (PySem.W.fnOf "_shares" "_shares" (defArgs (top 45)) (defBody (top 45)) (defScope (top 45)) .none kV45 dc45 pm45 an45 cd45 ct45), sl45⟩) (q45 : PySem.W.codeIn K cd45 "_shares" = true) (k45 : PySem.W.keepIn K (.ref f45) = true)
    (g46 : PySem.W.nsIn K mainGlobals "_times" = some (some (.ref f46))) (l46 : K.lookup f46 = some ⟨oc46, od46, .func (PySem.W.fnOf "_times" "_times" (defArgs (top 46)) (defBody (top 46)) (defScope (top 46)) .none kV46 dc46 pm46 an46 cd46 ct46), sl46⟩) (q46 : PySem.W.codeIn K cd46 "_times" = true) (k46 : PySem.W.keepIn K (.ref f46) = true)
    (g47 : PySem.W.nsIn K mainGlobals "_scalar_product" = some (some (.ref f47))) (l47 : K.lookup f47 = some ⟨oc47, od47, .func (PySem.W.fnOf "_scalar_product" "_scalar_product" (defArgs (top 47)) (defBody (top 47)) (defScope (top 47)) .none kV47 dc47 pm47 an47 cd47 ct47), sl47⟩) (q47 : PySem.W.codeIn K cd47 "_scalar_product" = true) (k47 : PySem.W.keepIn K (.ref f47) = true)
    (g48 : PySem.W.nsIn K mainGlobals "_clipped_sum" = some (some (.ref f48))) (l48 : K.lookup f48 = some ⟨oc48, od48, .func (PySem.W.fnOf "_clipped_sum" "_clipped_sum" (defArgs (top 48)) (defBody (top 48)) (defScope (top 48)) .none kV48 dc48 pm48 an48 cd48 ct48), sl48⟩) (q48 : PySem.W.codeIn K cd48 "_clipped_sum" = true) (k48 : PySem.W.keepIn K (.ref f48) = true)
    (g49 : PySem.W.nsIn K mainGlobals "_clipped" = some (some (.ref f49))) (l49 : K.lookup f49 = some ⟨oc49, od49, .func (PySem.W.fnOf "_clipped" "_clipped" (defArgs (top 49)) (defBody (top 49)) (defScope (top 49)) .none kV49 dc49 pm49 an49 cd49 ct49), sl49⟩) (q49 : PySem.W.codeIn K cd49 "_clipped" = true) (k49 : PySem.W.keepIn K (.ref f49) = true)
    (g51 : PySem.W.nsIn K mainGlobals "_law_deck" = some (some (.ref f51))) (l51 : K.lookup f51 = some ⟨oc51, od51, .func (PySem.W.fnOf "_law_deck" "_law_deck" (defArgs (top 51)) (defBody (top 51)) (defScope (top 51)) .none kV51 dc51 pm51 an51 cd51 ct51), sl51⟩) (q51 : PySem.W.codeIn K cd51 "_law_deck" = true) (k51 : PySem.W.keepIn K (.ref f51) = true)
    (g52 : PySem.W.nsIn K mainGlobals "_law_draw" = some (some (.ref f52))) (l52 : K.lookup f52 = some ⟨oc52, od52, .func (PySem.W.fnOf "_law_draw" "_law_draw" (defArgs (top 52)) (defBody (top 52)) (defScope (top 52)) .none kV52 dc52 pm52 an52 cd52 ct52), sl52⟩) (q52 : PySem.W.codeIn K cd52 "_law_draw" = true) (k52 : PySem.W.keepIn K (.ref f52) = true)
    (g53 : PySem.W.nsIn K mainGlobals "_law_pick" = some (some (.ref f53))) (l53 : K.lookup f53 = some ⟨oc53, od53, .func (PySem.W.fnOf "_law_pick" "_law_pick" (defArgs (top 53)) (defBody (top 53)) (defScope (top 53)) .none kV53 dc53 pm53 an53 cd53 ct53), sl53⟩) (q53 : PySem.W.codeIn K cd53 "_law_pick" = true) (k53 : PySem.W.keepIn K (.ref f53) = true)
    (g54 : PySem.W.nsIn K mainGlobals "_law_instead" = some (some (.ref f54))) (l54 : K.lookup f54 = some ⟨oc54, od54, .func (PySem.W.fnOf "_law_instead" "_law_instead" (defArgs (top 54)) (defBody (top 54)) (defScope (top 54)) .none kV54 dc54 pm54 an54 cd54 ct54), sl54⟩) (q54 : PySem.W.codeIn K cd54 "_law_instead" = true) (k54 : PySem.W.keepIn K (.ref f54) = true)
    (g55 : PySem.W.nsIn K mainGlobals "_law_drawn_weights" = some (some (.ref f55))) (l55 : K.lookup f55 = some ⟨oc55, od55, .func (PySem.W.fnOf "_law_drawn_weights" "_law_drawn_weights" (defArgs (top 55)) (defBody (top 55)) (defScope (top 55)) .none kV55 dc55 pm55 an55 cd55 ct55), sl55⟩) (q55 : PySem.W.codeIn K cd55 "_law_drawn_weights" = true) (k55 : PySem.W.keepIn K (.ref f55) = true)
    (g56 : PySem.W.nsIn K mainGlobals "_law_drawn_window" = some (some (.ref f56))) (l56 : K.lookup f56 = some ⟨oc56, od56, .func (PySem.W.fnOf "_law_drawn_window" "_law_drawn_window" (defArgs (top 56)) (defBody (top 56)) (defScope (top 56)) .none kV56 dc56 pm56 an56 cd56 ct56), sl56⟩) (q56 : PySem.W.codeIn K cd56 "_law_drawn_window" = true) (k56 : PySem.W.keepIn K (.ref f56) = true)
    (g57 : PySem.W.nsIn K mainGlobals "_law_drawn_vectors" = some (some (.ref f57))) (l57 : K.lookup f57 = some ⟨oc57, od57, .func (PySem.W.fnOf "_law_drawn_vectors" "_law_drawn_vectors" (defArgs (top 57)) (defBody (top 57)) (defScope (top 57)) .none kV57 dc57 pm57 an57 cd57 ct57), sl57⟩) (q57 : PySem.W.codeIn K cd57 "_law_drawn_vectors" = true) (k57 : PySem.W.keepIn K (.ref f57) = true)
    (g58 : PySem.W.nsIn K mainGlobals "_law_drawn_net" = some (some (.ref f58))) (l58 : K.lookup f58 = some ⟨oc58, od58, .func (PySem.W.fnOf "_law_drawn_net" "_law_drawn_net" (defArgs (top 58)) (defBody (top 58)) (defScope (top 58)) .none kV58 dc58 pm58 an58 cd58 ct58), sl58⟩) (q58 : PySem.W.codeIn K cd58 "_law_drawn_net" = true) (k58 : PySem.W.keepIn K (.ref f58) = true)
    (g59 : PySem.W.nsIn K mainGlobals "_law_drawn_tokens" = some (some (.ref f59))) (l59 : K.lookup f59 = some ⟨oc59, od59, .func (PySem.W.fnOf "_law_drawn_tokens" "_law_drawn_tokens" (defArgs (top 59)) (defBody (top 59)) (defScope (top 59)) .none kV59 dc59 pm59 an59 cd59 ct59), sl59⟩) (q59 : PySem.W.codeIn K cd59 "_law_drawn_tokens" = true) (k59 : PySem.W.keepIn K (.ref f59) = true)
    (g60 : PySem.W.nsIn K mainGlobals "_law_product" = some (some (.ref f60))) (l60 : K.lookup f60 = some ⟨oc60, od60, .func (PySem.W.fnOf "_law_product" "_law_product" (defArgs (top 60)) (defBody (top 60)) (defScope (top 60)) .none kV60 dc60 pm60 an60 cd60 ct60), sl60⟩) (q60 : PySem.W.codeIn K cd60 "_law_product" = true) (k60 : PySem.W.keepIn K (.ref f60) = true)
    (g61 : PySem.W.nsIn K mainGlobals "_law_times" = some (some (.ref f61))) (l61 : K.lookup f61 = some ⟨oc61, od61, .func (PySem.W.fnOf "_law_times" "_law_times" (defArgs (top 61)) (defBody (top 61)) (defScope (top 61)) .none kV61 dc61 pm61 an61 cd61 ct61), sl61⟩) (q61 : PySem.W.codeIn K cd61 "_law_times" = true) (k61 : PySem.W.keepIn K (.ref f61) = true)
    (g62 : PySem.W.nsIn K mainGlobals "_law_clipped" = some (some (.ref f62))) (l62 : K.lookup f62 = some ⟨oc62, od62, .func (PySem.W.fnOf "_law_clipped" "_law_clipped" (defArgs (top 62)) (defBody (top 62)) (defScope (top 62)) .none kV62 dc62 pm62 an62 cd62 ct62), sl62⟩) (q62 : PySem.W.codeIn K cd62 "_law_clipped" = true) (k62 : PySem.W.keepIn K (.ref f62) = true)
    (g63 : PySem.W.nsIn K mainGlobals "_law_doubled" = some (some (.ref f63))) (l63 : K.lookup f63 = some ⟨oc63, od63, .func (PySem.W.fnOf "_law_doubled" "_law_doubled" (defArgs (top 63)) (defBody (top 63)) (defScope (top 63)) .none kV63 dc63 pm63 an63 cd63 ct63), sl63⟩) (q63 : PySem.W.codeIn K cd63 "_law_doubled" = true) (k63 : PySem.W.keepIn K (.ref f63) = true)
    (g64 : PySem.W.nsIn K mainGlobals "_law_mixed" = some (some (.ref f64))) (l64 : K.lookup f64 = some ⟨oc64, od64, .func (PySem.W.fnOf "_law_mixed" "_law_mixed" (defArgs (top 64)) (defBody (top 64)) (defScope (top 64)) .none kV64 dc64 pm64 an64 cd64 ct64), sl64⟩) (q64 : PySem.W.codeIn K cd64 "_law_mixed" = true) (k64 : PySem.W.keepIn K (.ref f64) = true)
    (g65 : PySem.W.nsIn K mainGlobals "_law_net_step" = some (some (.ref f65))) (l65 : K.lookup f65 = some ⟨oc65, od65, .func (PySem.W.fnOf "_law_net_step" "_law_net_step" (defArgs (top 65)) (defBody (top 65)) (defScope (top 65)) .none kV65 dc65 pm65 an65 cd65 ct65), sl65⟩) (q65 : PySem.W.codeIn K cd65 "_law_net_step" = true) (k65 : PySem.W.keepIn K (.ref f65) = true)
    (g66 : PySem.W.nsIn K mainGlobals "_law_net_weights" = some (some (.ref f66))) (l66 : K.lookup f66 = some ⟨oc66, od66, .func (PySem.W.fnOf "_law_net_weights" "_law_net_weights" (defArgs (top 66)) (defBody (top 66)) (defScope (top 66)) .none kV66 dc66 pm66 an66 cd66 ct66), sl66⟩) (q66 : PySem.W.codeIn K cd66 "_law_net_weights" = true) (k66 : PySem.W.keepIn K (.ref f66) = true)
    (g67 : PySem.W.nsIn K mainGlobals "_law_window_weights" = some (some (.ref f67))) (l67 : K.lookup f67 = some ⟨oc67, od67, .func (PySem.W.fnOf "_law_window_weights" "_law_window_weights" (defArgs (top 67)) (defBody (top 67)) (defScope (top 67)) .none kV67 dc67 pm67 an67 cd67 ct67), sl67⟩) (q67 : PySem.W.codeIn K cd67 "_law_window_weights" = true) (k67 : PySem.W.keepIn K (.ref f67) = true)
    (g68 : PySem.W.nsIn K mainGlobals "_law_stepped" = some (some (.ref f68))) (l68 : K.lookup f68 = some ⟨oc68, od68, .func (PySem.W.fnOf "_law_stepped" "_law_stepped" (defArgs (top 68)) (defBody (top 68)) (defScope (top 68)) .none kV68 dc68 pm68 an68 cd68 ct68), sl68⟩) (q68 : PySem.W.codeIn K cd68 "_law_stepped" = true) (k68 : PySem.W.keepIn K (.ref f68) = true)
    (g69 : PySem.W.nsIn K mainGlobals "_law_rows" = some (some (.ref f69))) (l69 : K.lookup f69 = some ⟨oc69, od69, .func (PySem.W.fnOf "_law_rows" "_law_rows" (defArgs (top 69)) (defBody (top 69)) (defScope (top 69)) .none kV69 dc69 pm69 an69 cd69 ct69), sl69⟩) (q69 : PySem.W.codeIn K cd69 "_law_rows" = true) (k69 : PySem.W.keepIn K (.ref f69) = true)
    (g70 : PySem.W.nsIn K mainGlobals "_law_changed_rows" = some (some (.ref f70))) (l70 : K.lookup f70 = some ⟨oc70, od70, .func (PySem.W.fnOf "_law_changed_rows" "_law_changed_rows" (defArgs (top 70)) (defBody (top 70)) (defScope (top 70)) .none kV70 dc70 pm70 an70 cd70 ct70), sl70⟩) (q70 : PySem.W.codeIn K cd70 "_law_changed_rows" = true) (k70 : PySem.W.keepIn K (.ref f70) = true)
    (g71 : PySem.W.nsIn K mainGlobals "law" = some (some (.ref f71))) (l71 : K.lookup f71 = some ⟨oc71, od71, .func (PySem.W.fnOf "law" "law" (defArgs (top 71)) (defBody (top 71)) (defScope (top 71)) .none kV71 dc71 pm71 an71 cd71 ct71), sl71⟩) (q71 : PySem.W.codeIn K cd71 "law" = true) (k71 : PySem.W.keepIn K (.ref f71) = true)
    (lc11 : K.lookup c11 = some ⟨e11, dd11, .fields us11, sc11⟩) (v11 : us11[11]? = some (.ref P11)) (n11 : K.lookup P11 = none) (h11 : PySem.W.codeHdIn K c11 P11 = true)
    (lc12 : K.lookup c12 = some ⟨e12, dd12, .fields us12, sc12⟩) (v12 : us12[11]? = some (.ref P12)) (n12 : K.lookup P12 = none) (h12 : PySem.W.codeHdIn K c12 P12 = true)
    (lc28 : K.lookup c28 = some ⟨e28, dd28, .fields us28, sc28⟩) (v28 : us28[11]? = some (.ref P28)) (n28 : K.lookup P28 = none) (h28 : PySem.W.codeHdIn K c28 P28 = true)
    (lc29 : K.lookup c29 = some ⟨e29, dd29, .fields us29, sc29⟩) (v29 : us29[11]? = some (.ref P29)) (n29 : K.lookup P29 = none) (h29 : PySem.W.codeHdIn K c29 P29 = true)
    (lc35 : K.lookup c35 = some ⟨e35, dd35, .fields us35, sc35⟩) (v35 : us35[11]? = some (.ref P35)) (n35 : K.lookup P35 = none) (h35 : PySem.W.codeHdIn K c35 P35 = true)
    (lc39 : K.lookup c39 = some ⟨e39, dd39, .fields us39, sc39⟩) (v39 : us39[11]? = some (.ref P39)) (n39 : K.lookup P39 = none) (h39 : PySem.W.codeHdIn K c39 P39 = true)
    (lc40 : K.lookup c40 = some ⟨e40, dd40, .fields us40, sc40⟩) (v40 : us40[11]? = some (.ref P40)) (n40 : K.lookup P40 = none) (h40 : PySem.W.codeHdIn K c40 P40 = true)
    (lc41 : K.lookup c41 = some ⟨e41, dd41, .fields us41, sc41⟩) (v41 : us41[11]? = some (.ref P41)) (n41 : K.lookup P41 = none) (h41 : PySem.W.codeHdIn K c41 P41 = true)
    (lc42 : K.lookup c42 = some ⟨e42, dd42, .fields us42, sc42⟩) (v42 : us42[11]? = some (.ref P42)) (n42 : K.lookup P42 = none) (h42 : PySem.W.codeHdIn K c42 P42 = true)
    (z_all : PySem.W.nsIn K mainGlobals "all" = some none)
    (z_bool : PySem.W.nsIn K mainGlobals "bool" = some none)
    (z_enumerate : PySem.W.nsIn K mainGlobals "enumerate" = some none)
    (z_int : PySem.W.nsIn K mainGlobals "int" = some none)
    (z_isinstance : PySem.W.nsIn K mainGlobals "isinstance" = some none)
    (z_len : PySem.W.nsIn K mainGlobals "len" = some none)
    (z_list : PySem.W.nsIn K mainGlobals "list" = some none)
    (z_max : PySem.W.nsIn K mainGlobals "max" = some none)
    (z_min : PySem.W.nsIn K mainGlobals "min" = some none)
    (z_range : PySem.W.nsIn K mainGlobals "range" = some none)
    (z_repr : PySem.W.nsIn K mainGlobals "repr" = some none)
    (z_sorted : PySem.W.nsIn K mainGlobals "sorted" = some none)
    (z_sum : PySem.W.nsIn K mainGlobals "sum" = some none)
    (z_tuple : PySem.W.nsIn K mainGlobals "tuple" = some none)
    (z_zip : PySem.W.nsIn K mainGlobals "zip" = some none)
    (zg0 : PySem.W.nsIn K mainGlobals "GREATEST_ITEM" = some (some (.int 20 tg0)))
    (zg1 : PySem.W.nsIn K mainGlobals "GREATEST_SHARE" = some (some (.int 64 tg1)))
    (zg2 : PySem.W.nsIn K mainGlobals "MOST_HALVINGS" = some (some (.int 6 tg2))) :
    ∃ Ts : List Addr, (∀ p ∈ Ts, h.get? p = some { cls := .none, data := .fields #[] } ∧ isCodeTable h p ∧ K.lookup p = none) ∧ RunD l.prog w K mg Ts fa := by
  have e := hfa.symm.trans (PySem.W.mg_of X G g71)
  cases e
  have F7 := fun_mk (K := K) (st := top 7) l7 q7 k7
  have F8 := fun_mk (K := K) (st := top 8) l8 q8 k8
  have F9 := fun_mk (K := K) (st := top 9) l9 q9 k9
  have F10 := fun_mk (K := K) (st := top 10) l10 q10 k10
  have F11 := fun_mk (K := K) (st := top 11) l11 q11 k11
  have F12 := fun_mk (K := K) (st := top 12) l12 q12 k12
  have F13 := fun_mk (K := K) (st := top 13) l13 q13 k13
  have F14 := fun_mk (K := K) (st := top 14) l14 q14 k14
  have F15 := fun_mk (K := K) (st := top 15) l15 q15 k15
  have F16 := fun_mk (K := K) (st := top 16) l16 q16 k16
  have F17 := fun_mk (K := K) (st := top 17) l17 q17 k17
  have F22 := fun_mk (K := K) (st := top 22) l22 q22 k22
  have F23 := fun_mk (K := K) (st := top 23) l23 q23 k23
  have F24 := fun_mk (K := K) (st := top 24) l24 q24 k24
  have F25 := fun_mk (K := K) (st := top 25) l25 q25 k25
  have F26 := fun_mk (K := K) (st := top 26) l26 q26 k26
  have F27 := fun_mk (K := K) (st := top 27) l27 q27 k27
  have F28 := fun_mk (K := K) (st := top 28) l28 q28 k28
  have F29 := fun_mk (K := K) (st := top 29) l29 q29 k29
  have F30 := fun_mk (K := K) (st := top 30) l30 q30 k30
  have F31 := fun_mk (K := K) (st := top 31) l31 q31 k31
  have F32 := fun_mk (K := K) (st := top 32) l32 q32 k32
  have F33 := fun_mk (K := K) (st := top 33) l33 q33 k33
  have F34 := fun_mk (K := K) (st := top 34) l34 q34 k34
  have F35 := fun_mk (K := K) (st := top 35) l35 q35 k35
  have F36 := fun_mk (K := K) (st := top 36) l36 q36 k36
  have F37 := fun_mk (K := K) (st := top 37) l37 q37 k37
  have F38 := fun_mk (K := K) (st := top 38) l38 q38 k38
  have F39 := fun_mk (K := K) (st := top 39) l39 q39 k39
  have F40 := fun_mk (K := K) (st := top 40) l40 q40 k40
  have F41 := fun_mk (K := K) (st := top 41) l41 q41 k41
  have F42 := fun_mk (K := K) (st := top 42) l42 q42 k42
  have F43 := fun_mk (K := K) (st := top 43) l43 q43 k43
  have F44 := fun_mk (K := K) (st := top 44) l44 q44 k44
  have F45 := fun_mk (K := K) (st := top 45) l45 q45 k45
  have F46 := fun_mk (K := K) (st := top 46) l46 q46 k46
  have F47 := fun_mk (K := K) (st := top 47) l47 q47 k47
  have F48 := fun_mk (K := K) (st := top 48) l48 q48 k48
  have F49 := fun_mk (K := K) (st := top 49) l49 q49 k49
  have F51 := fun_mk (K := K) (st := top 51) l51 q51 k51
  have F52 := fun_mk (K := K) (st := top 52) l52 q52 k52
  have F53 := fun_mk (K := K) (st := top 53) l53 q53 k53
  have F54 := fun_mk (K := K) (st := top 54) l54 q54 k54
  have F55 := fun_mk (K := K) (st := top 55) l55 q55 k55
  have F56 := fun_mk (K := K) (st := top 56) l56 q56 k56
  have F57 := fun_mk (K := K) (st := top 57) l57 q57 k57
  have F58 := fun_mk (K := K) (st := top 58) l58 q58 k58
  have F59 := fun_mk (K := K) (st := top 59) l59 q59 k59
  have F60 := fun_mk (K := K) (st := top 60) l60 q60 k60
  have F61 := fun_mk (K := K) (st := top 61) l61 q61 k61
  have F62 := fun_mk (K := K) (st := top 62) l62 q62 k62
  have F63 := fun_mk (K := K) (st := top 63) l63 q63 k63
  have F64 := fun_mk (K := K) (st := top 64) l64 q64 k64
  have F65 := fun_mk (K := K) (st := top 65) l65 q65 k65
  have F66 := fun_mk (K := K) (st := top 66) l66 q66 k66
  have F67 := fun_mk (K := K) (st := top 67) l67 q67 k67
  have F68 := fun_mk (K := K) (st := top 68) l68 q68 k68
  have F69 := fun_mk (K := K) (st := top 69) l69 q69 k69
  have F70 := fun_mk (K := K) (st := top 70) l70 q70 k70
  have F71 := fun_mk (K := K) (st := top 71) l71 q71 k71
  have T11 : h.get? P11 = some { cls := .none, data := .fields #[] } := own "are_tokens" (by unfold tabNames; simp) f11 (PySem.W.mg_of X G g11) c11 P11 _ _ _ _ _ _ l11 rfl rfl lc11 v11
  have T12 : h.get? P12 = some { cls := .none, data := .fields #[] } := own "are_weights" (by unfold tabNames; simp) f12 (PySem.W.mg_of X G g12) c12 P12 _ _ _ _ _ _ l12 rfl rfl lc12 v12
  have T28 : h.get? P28 = some { cls := .none, data := .fields #[] } := own "are_rows" (by unfold tabNames; simp) f28 (PySem.W.mg_of X G g28) c28 P28 _ _ _ _ _ _ l28 rfl rfl lc28 v28
  have T29 : h.get? P29 = some { cls := .none, data := .fields #[] } := own "is_row" (by unfold tabNames; simp) f29 (PySem.W.mg_of X G g29) c29 P29 _ _ _ _ _ _ l29 rfl rfl lc29 v29
  have T35 : h.get? P35 = some { cls := .none, data := .fields #[] } := own "_is_window_model" (by unfold tabNames; simp) f35 (PySem.W.mg_of X G g35) c35 P35 _ _ _ _ _ _ l35 rfl rfl lc35 v35
  have T39 : h.get? P39 = some { cls := .none, data := .fields #[] } := own "_is_network" (by unfold tabNames; simp) f39 (PySem.W.mg_of X G g39) c39 P39 _ _ _ _ _ _ l39 rfl rfl lc39 v39
  have T40 : h.get? P40 = some { cls := .none, data := .fields #[] } := own "_is_layer" (by unfold tabNames; simp) f40 (PySem.W.mg_of X G g40) c40 P40 _ _ _ _ _ _ l40 rfl rfl lc40 v40
  have T41 : h.get? P41 = some { cls := .none, data := .fields #[] } := own "_are_vectors" (by unfold tabNames; simp) f41 (PySem.W.mg_of X G g41) c41 P41 _ _ _ _ _ _ l41 rfl rfl lc41 v41
  have T42 : h.get? P42 = some { cls := .none, data := .fields #[] } := own "_is_vector" (by unfold tabNames; simp) f42 (PySem.W.mg_of X G g42) c42 P42 _ _ _ _ _ _ l42 rfl rfl lc42 v42
  refine ⟨[P11, P12, P28, P29, P35, P39, P40, P41, P42], fun p hp => ?_, ?_⟩
  · simp only [List.mem_cons, List.not_mem_nil, or_false] at hp
    rcases hp with rfl | rfl | rfl | rfl | rfl | rfl | rfl | rfl | rfl
    · exact ⟨T11, ((PySem.W.codeHd_of_K X h11).tab T11).isCodeTable, n11⟩
    · exact ⟨T12, ((PySem.W.codeHd_of_K X h12).tab T12).isCodeTable, n12⟩
    · exact ⟨T28, ((PySem.W.codeHd_of_K X h28).tab T28).isCodeTable, n28⟩
    · exact ⟨T29, ((PySem.W.codeHd_of_K X h29).tab T29).isCodeTable, n29⟩
    · exact ⟨T35, ((PySem.W.codeHd_of_K X h35).tab T35).isCodeTable, n35⟩
    · exact ⟨T39, ((PySem.W.codeHd_of_K X h39).tab T39).isCodeTable, n39⟩
    · exact ⟨T40, ((PySem.W.codeHd_of_K X h40).tab T40).isCodeTable, n40⟩
    · exact ⟨T41, ((PySem.W.codeHd_of_K X h41).tab T41).isCodeTable, n41⟩
    · exact ⟨T42, ((PySem.W.codeHd_of_K X h42).tab T42).isCodeTable, n42⟩
  · intro base s H a ns kb nb bA e0 tk sq sh
    obtain ⟨W, eT, eA⟩ : ∃ W : Wd K mg base, W.Ts = [P11, P12, P28, P29, P35, P39, P40, P41, P42] ∧ W.a71 = fa := ⟨{
      a7 := f7, d7 := _, D7 := ⟨F7, PySem.W.mg_of X G g7, F7.binds fun _ _ _ _ _ _ us hl => match us, hl with | [_], _ => rfl⟩,
      a8 := f8, d8 := _, D8 := ⟨F8, PySem.W.mg_of X G g8, F8.binds fun _ _ _ _ _ _ us hl => match us, hl with | [_, _], _ => rfl⟩,
      a9 := f9, d9 := _, D9 := ⟨F9, PySem.W.mg_of X G g9, F9.binds fun _ _ _ _ _ _ us hl => match us, hl with | [_, _], _ => rfl⟩,
      a10 := f10, d10 := _, D10 := ⟨F10, PySem.W.mg_of X G g10, F10.binds fun _ _ _ _ _ _ us hl => match us, hl with | [_, _], _ => rfl⟩,
      a11 := f11, d11 := _, D11 := ⟨F11, PySem.W.mg_of X G g11, F11.binds fun _ _ _ _ _ _ us hl => match us, hl with | [_, _], _ => rfl⟩,
      a12 := f12, d12 := _, D12 := ⟨F12, PySem.W.mg_of X G g12, F12.binds fun _ _ _ _ _ _ us hl => match us, hl with | [_], _ => rfl⟩,
      a13 := f13, d13 := _, D13 := ⟨F13, PySem.W.mg_of X G g13, F13.binds fun _ _ _ _ _ _ us hl => match us, hl with | [_, _], _ => rfl⟩,
      a14 := f14, d14 := _, D14 := ⟨F14, PySem.W.mg_of X G g14, F14.binds fun _ _ _ _ _ _ us hl => match us, hl with | [_], _ => rfl⟩,
      a15 := f15, d15 := _, D15 := ⟨F15, PySem.W.mg_of X G g15, F15.binds fun _ _ _ _ _ _ us hl => match us, hl with | [_, _], _ => rfl⟩,
      a16 := f16, d16 := _, D16 := ⟨F16, PySem.W.mg_of X G g16, F16.binds fun _ _ _ _ _ _ us hl => match us, hl with | [_, _], _ => rfl⟩,
      a17 := f17, d17 := _, D17 := ⟨F17, PySem.W.mg_of X G g17, F17.binds fun _ _ _ _ _ _ us hl => match us, hl with | [_, _], _ => rfl⟩,
      a22 := f22, d22 := _, D22 := ⟨F22, PySem.W.mg_of X G g22, F22.binds fun _ _ _ _ _ _ us hl => match us, hl with | [_], _ => rfl⟩,
      a23 := f23, d23 := _, D23 := ⟨F23, PySem.W.mg_of X G g23, F23.binds fun _ _ _ _ _ _ us hl => match us, hl with | [_], _ => rfl⟩,
      a24 := f24, d24 := _, D24 := ⟨F24, PySem.W.mg_of X G g24, F24.binds fun _ _ _ _ _ _ us hl => match us, hl with | [_, _], _ => rfl⟩,
      a25 := f25, d25 := _, D25 := ⟨F25, PySem.W.mg_of X G g25, F25.binds fun _ _ _ _ _ _ us hl => match us, hl with | [_, _], _ => rfl⟩,
      a26 := f26, d26 := _, D26 := ⟨F26, PySem.W.mg_of X G g26, F26.binds fun _ _ _ _ _ _ us hl => match us, hl with | [_, _, _], _ => rfl⟩,
      a27 := f27, d27 := _, D27 := ⟨F27, PySem.W.mg_of X G g27, F27.binds fun _ _ _ _ _ _ us hl => match us, hl with | [_, _, _], _ => rfl⟩,
      a28 := f28, d28 := _, D28 := ⟨F28, PySem.W.mg_of X G g28, F28.binds fun _ _ _ _ _ _ us hl => match us, hl with | [_, _], _ => rfl⟩,
      a29 := f29, d29 := _, D29 := ⟨F29, PySem.W.mg_of X G g29, F29.binds fun _ _ _ _ _ _ us hl => match us, hl with | [_, _], _ => rfl⟩,
      a30 := f30, d30 := _, D30 := ⟨F30, PySem.W.mg_of X G g30, F30.binds fun _ _ _ _ _ _ us hl => match us, hl with | [_, _], _ => rfl⟩,
      a31 := f31, d31 := _, D31 := ⟨F31, PySem.W.mg_of X G g31, F31.binds fun _ _ _ _ _ _ us hl => match us, hl with | [_, _], _ => rfl⟩,
      a32 := f32, d32 := _, D32 := ⟨F32, PySem.W.mg_of X G g32, F32.binds fun _ _ _ _ _ _ us hl => match us, hl with | [_, _, _], _ => rfl⟩,
      a33 := f33, d33 := _, D33 := ⟨F33, PySem.W.mg_of X G g33, F33.binds fun _ _ _ _ _ _ us hl => match us, hl with | [_], _ => rfl⟩,
      a34 := f34, d34 := _, D34 := ⟨F34, PySem.W.mg_of X G g34, F34.binds fun _ _ _ _ _ _ us hl => match us, hl with | [_, _], _ => rfl⟩,
      a35 := f35, d35 := _, D35 := ⟨F35, PySem.W.mg_of X G g35, F35.binds fun _ _ _ _ _ _ us hl => match us, hl with | [_], _ => rfl⟩,
      a36 := f36, d36 := _, D36 := ⟨F36, PySem.W.mg_of X G g36, F36.binds fun _ _ _ _ _ _ us hl => match us, hl with | [_, _, _], _ => rfl⟩,
      a37 := f37, d37 := _, D37 := ⟨F37, PySem.W.mg_of X G g37, F37.binds fun _ _ _ _ _ _ us hl => match us, hl with | [_, _], _ => rfl⟩,
      a38 := f38, d38 := _, D38 := ⟨F38, PySem.W.mg_of X G g38, F38.binds fun _ _ _ _ _ _ us hl => match us, hl with | [_, _], _ => rfl⟩,
      a39 := f39, d39 := _, D39 := ⟨F39, PySem.W.mg_of X G g39, F39.binds fun _ _ _ _ _ _ us hl => match us, hl with | [_], _ => rfl⟩,
      a40 := f40, d40 := _, D40 := ⟨F40, PySem.W.mg_of X G g40, F40.binds fun _ _ _ _ _ _ us hl => match us, hl with | [_, _], _ => rfl⟩,
      a41 := f41, d41 := _, D41 := ⟨F41, PySem.W.mg_of X G g41, F41.binds fun _ _ _ _ _ _ us hl => match us, hl with | [_, _, _], _ => rfl⟩,
      a42 := f42, d42 := _, D42 := ⟨F42, PySem.W.mg_of X G g42, F42.binds fun _ _ _ _ _ _ us hl => match us, hl with | [_, _], _ => rfl⟩,
      a43 := f43, d43 := _, D43 := ⟨F43, PySem.W.mg_of X G g43, F43.binds fun _ _ _ _ _ _ us hl => match us, hl with | [_, _, _], _ => rfl⟩,
      a44 := f44, d44 := _, D44 := ⟨F44, PySem.W.mg_of X G g44, F44.binds fun _ _ _ _ _ _ us hl => match us, hl with | [_, _], _ => rfl⟩,
      a45 := f45, d45 := _, D45 := ⟨F45, PySem.W.mg_of X G g45, F45.binds fun _ _ _ _ _ _ us hl => match us, hl with | [_], _ => rfl⟩,
      a46 := f46, d46 := _, D46 := ⟨F46, PySem.W.mg_of X G g46, F46.binds fun _ _ _ _ _ _ us hl => match us, hl with | [_, _], _ => rfl⟩,
      a47 := f47, d47 := _, D47 := ⟨F47, PySem.W.mg_of X G g47, F47.binds fun _ _ _ _ _ _ us hl => match us, hl with | [_, _], _ => rfl⟩,
      a48 := f48, d48 := _, D48 := ⟨F48, PySem.W.mg_of X G g48, F48.binds fun _ _ _ _ _ _ us hl => match us, hl with | [_, _], _ => rfl⟩,
      a49 := f49, d49 := _, D49 := ⟨F49, PySem.W.mg_of X G g49, F49.binds fun _ _ _ _ _ _ us hl => match us, hl with | [_], _ => rfl⟩,
      a51 := f51, d51 := _, D51 := ⟨F51, PySem.W.mg_of X G g51, F51.binds fun _ _ _ _ _ _ us hl => match us, hl with | [_, _], _ => rfl⟩,
      a52 := f52, d52 := _, D52 := ⟨F52, PySem.W.mg_of X G g52, F52.binds fun _ _ _ _ _ _ us hl => match us, hl with | [_, _], _ => rfl⟩,
      a53 := f53, d53 := _, D53 := ⟨F53, PySem.W.mg_of X G g53, F53.binds fun _ _ _ _ _ _ us hl => match us, hl with | [_, _], _ => rfl⟩,
      a54 := f54, d54 := _, D54 := ⟨F54, PySem.W.mg_of X G g54, F54.binds fun _ _ _ _ _ _ us hl => match us, hl with | [_, _, _], _ => rfl⟩,
      a55 := f55, d55 := _, D55 := ⟨F55, PySem.W.mg_of X G g55, F55.binds fun _ _ _ _ _ _ us hl => match us, hl with | [_, _], _ => rfl⟩,
      a56 := f56, d56 := _, D56 := ⟨F56, PySem.W.mg_of X G g56, F56.binds fun _ _ _ _ _ _ us hl => match us, hl with | [_], _ => rfl⟩,
      a57 := f57, d57 := _, D57 := ⟨F57, PySem.W.mg_of X G g57, F57.binds fun _ _ _ _ _ _ us hl => match us, hl with | [_, _, _], _ => rfl⟩,
      a58 := f58, d58 := _, D58 := ⟨F58, PySem.W.mg_of X G g58, F58.binds fun _ _ _ _ _ _ us hl => match us, hl with | [_], _ => rfl⟩,
      a59 := f59, d59 := _, D59 := ⟨F59, PySem.W.mg_of X G g59, F59.binds fun _ _ _ _ _ _ us hl => match us, hl with | [_, _, _], _ => rfl⟩,
      a60 := f60, d60 := _, D60 := ⟨F60, PySem.W.mg_of X G g60, F60.binds fun _ _ _ _ _ _ us hl => match us, hl with | [_, _], _ => rfl⟩,
      a61 := f61, d61 := _, D61 := ⟨F61, PySem.W.mg_of X G g61, F61.binds fun _ _ _ _ _ _ us hl => match us, hl with | [_, _], _ => rfl⟩,
      a62 := f62, d62 := _, D62 := ⟨F62, PySem.W.mg_of X G g62, F62.binds fun _ _ _ _ _ _ us hl => match us, hl with | [_], _ => rfl⟩,
      a63 := f63, d63 := _, D63 := ⟨F63, PySem.W.mg_of X G g63, F63.binds fun _ _ _ _ _ _ us hl => match us, hl with | [_], _ => rfl⟩,
      a64 := f64, d64 := _, D64 := ⟨F64, PySem.W.mg_of X G g64, F64.binds fun _ _ _ _ _ _ us hl => match us, hl with | [_, _, _], _ => rfl⟩,
      a65 := f65, d65 := _, D65 := ⟨F65, PySem.W.mg_of X G g65, F65.binds fun _ _ _ _ _ _ us hl => match us, hl with | [_, _, _], _ => rfl⟩,
      a66 := f66, d66 := _, D66 := ⟨F66, PySem.W.mg_of X G g66, F66.binds fun _ _ _ _ _ _ us hl => match us, hl with | [_, _], _ => rfl⟩,
      a67 := f67, d67 := _, D67 := ⟨F67, PySem.W.mg_of X G g67, F67.binds fun _ _ _ _ _ _ us hl => match us, hl with | [_, _], _ => rfl⟩,
      a68 := f68, d68 := _, D68 := ⟨F68, PySem.W.mg_of X G g68, F68.binds fun _ _ _ _ _ _ us hl => match us, hl with | [_, _, _], _ => rfl⟩,
      a69 := f69, d69 := _, D69 := ⟨F69, PySem.W.mg_of X G g69, F69.binds fun _ _ _ _ _ _ us hl => match us, hl with | [_, _], _ => rfl⟩,
      a70 := f70, d70 := _, D70 := ⟨F70, PySem.W.mg_of X G g70, F70.binds fun _ _ _ _ _ _ us hl => match us, hl with | [_, _], _ => rfl⟩,
      a71 := fa, d71 := _, D71 := ⟨F71, PySem.W.mg_of X G g71, F71.binds fun _ _ _ _ _ _ us hl => match us, hl with | [_], _ => rfl⟩,
      c11 := c11, P11 := P11, T11 := ⟨rfl, ⟨PySem.W.codeHd_of_K kb h11, (bA P11 (by simp)).1, (bA P11 (by simp)).2⟩⟩,
      c12 := c12, P12 := P12, T12 := ⟨rfl, ⟨PySem.W.codeHd_of_K kb h12, (bA P12 (by simp)).1, (bA P12 (by simp)).2⟩⟩,
      c28 := c28, P28 := P28, T28 := ⟨rfl, ⟨PySem.W.codeHd_of_K kb h28, (bA P28 (by simp)).1, (bA P28 (by simp)).2⟩⟩,
      c29 := c29, P29 := P29, T29 := ⟨rfl, ⟨PySem.W.codeHd_of_K kb h29, (bA P29 (by simp)).1, (bA P29 (by simp)).2⟩⟩,
      c35 := c35, P35 := P35, T35 := ⟨rfl, ⟨PySem.W.codeHd_of_K kb h35, (bA P35 (by simp)).1, (bA P35 (by simp)).2⟩⟩,
      c39 := c39, P39 := P39, T39 := ⟨rfl, ⟨PySem.W.codeHd_of_K kb h39, (bA P39 (by simp)).1, (bA P39 (by simp)).2⟩⟩,
      c40 := c40, P40 := P40, T40 := ⟨rfl, ⟨PySem.W.codeHd_of_K kb h40, (bA P40 (by simp)).1, (bA P40 (by simp)).2⟩⟩,
      c41 := c41, P41 := P41, T41 := ⟨rfl, ⟨PySem.W.codeHd_of_K kb h41, (bA P41 (by simp)).1, (bA P41 (by simp)).2⟩⟩,
      c42 := c42, P42 := P42, T42 := ⟨rfl, ⟨PySem.W.codeHd_of_K kb h42, (bA P42 (by simp)).1, (bA P42 (by simp)).2⟩⟩,
      m_all := PySem.W.mg_none_of X G z_all,
      m_bool := PySem.W.mg_none_of X G z_bool,
      m_enumerate := PySem.W.mg_none_of X G z_enumerate,
      m_int := PySem.W.mg_none_of X G z_int,
      m_isinstance := PySem.W.mg_none_of X G z_isinstance,
      m_len := PySem.W.mg_none_of X G z_len,
      m_list := PySem.W.mg_none_of X G z_list,
      m_max := PySem.W.mg_none_of X G z_max,
      m_min := PySem.W.mg_none_of X G z_min,
      m_range := PySem.W.mg_none_of X G z_range,
      m_repr := PySem.W.mg_none_of X G z_repr,
      m_sorted := PySem.W.mg_none_of X G z_sorted,
      m_sum := PySem.W.mg_none_of X G z_sum,
      m_tuple := PySem.W.mg_none_of X G z_tuple,
      m_zip := PySem.W.mg_none_of X G z_zip,
      g_GREATEST_ITEM := ⟨tg0, PySem.W.mg_of X G zg0⟩,
      g_GREATEST_SHARE := ⟨tg1, PySem.W.mg_of X G zg1⟩,
      g_MOST_HALVINGS := ⟨tg2, PySem.W.mg_of X G zg2⟩ }, rfl, rfl⟩
    subst eA
    exact run_top (ok_law W) ⟨rfl, by decide, by decide⟩ W.D71.b e0 kb (by rw [eT]; exact tk) sq (hl ns sh)
end Z8
set_option Elab.async false
set_option maxRecDepth 100000
open PySem PySem.W PyProof.Rows
set_option maxRecDepth 100000 in
set_option maxHeartbeats 0 in
theorem PySem.Challenge.cw_draftward_k08_whole_rows_that_are_kept_holds : PySem.Challenge.rw_draftward_k08_whole_rows_that_are_kept.Holds := by
  w_on; o_law; k_head; (case hw => w_witness2)
  k_fill
  refine Dl.walk_at (l := PySem.Challenge.rw_draftward_k08_whole_rows_that_are_kept) Z8.tabNames rfl rfl (by decide +kernel) (fun w h Y => PySem.W.kIn_of Y) ?F
  case F =>
    intro w mg fa h KX G hmg own
    refine' Z8.all_mk Z8.law_true KX G hmg own ?g7 ?l7 ?q7 ?k7 ?g8 ?l8 ?q8 ?k8 ?g9 ?l9 ?q9 ?k9 ?g10 ?l10 ?q10 ?k10 ?g11 ?l11 ?q11 ?k11 ?g12 ?l12 ?q12 ?k12 ?g13 ?l13 ?q13 ?k13 ?g14 ?l14 ?q14 ?k14 ?g15 ?l15 ?q15 ?k15 ?g16 ?l16 ?q16 ?k16 ?g17 ?l17 ?q17 ?k17 ?g22 ?l22 ?q22 ?k22 ?g23 ?l23 ?q23 ?k23 ?g24 ?l24 ?q24 ?k24 ?g25 ?l25 ?q25 ?k25 ?g26 ?l26 ?q26 ?k26 ?g27 ?l27 ?q27 ?k27 ?g28 ?l28 ?q28 ?k28 ?g29 ?l29 ?q29 ?k29 ?g30 ?l30 ?q30 ?k30 ?g31 ?l31 ?q31 ?k31 ?g32 ?l32 ?q32 ?k32 ?g33 ?l33 ?q33 ?k33 ?g34 ?l34 ?q34 ?k34 ?g35 ?l35 ?q35 ?k35 ?g36 ?l36 ?q36 ?k36 ?g37 ?l37 ?q37 ?k37 ?g38 ?l38 ?q38 ?k38 ?g39 ?l39 ?q39 ?k39 ?g40 ?l40 ?q40 ?k40 ?g41 ?l41 ?q41 ?k41 ?g42 ?l42 ?q42 ?k42 ?g43 ?l43 ?q43 ?k43 ?g44 ?l44 ?q44 ?k44 ?g45 ?l45 ?q45 ?k45 ?g46 ?l46 ?q46 ?k46 ?g47 ?l47 ?q47 ?k47 ?g48 ?l48 ?q48 ?k48 ?g49 ?l49 ?q49 ?k49 ?g51 ?l51 ?q51 ?k51 ?g52 ?l52 ?q52 ?k52 ?g53 ?l53 ?q53 ?k53 ?g54 ?l54 ?q54 ?k54 ?g55 ?l55 ?q55 ?k55 ?g56 ?l56 ?q56 ?k56 ?g57 ?l57 ?q57 ?k57 ?g58 ?l58 ?q58 ?k58 ?g59 ?l59 ?q59 ?k59 ?g60 ?l60 ?q60 ?k60 ?g61 ?l61 ?q61 ?k61 ?g62 ?l62 ?q62 ?k62 ?g63 ?l63 ?q63 ?k63 ?g64 ?l64 ?q64 ?k64 ?g65 ?l65 ?q65 ?k65 ?g66 ?l66 ?q66 ?k66 ?g67 ?l67 ?q67 ?k67 ?g68 ?l68 ?q68 ?k68 ?g69 ?l69 ?q69 ?k69 ?g70 ?l70 ?q70 ?k70 ?g71 ?l71 ?q71 ?k71 ?lc11 ?v11 ?n11 ?h11 ?lc12 ?v12 ?n12 ?h12 ?lc28 ?v28 ?n28 ?h28 ?lc29 ?v29 ?n29 ?h29 ?lc35 ?v35 ?n35 ?h35 ?lc39 ?v39 ?n39 ?h39 ?lc40 ?v40 ?n40 ?h40 ?lc41 ?v41 ?n41 ?h41 ?lc42 ?v42 ?n42 ?h42 ?z_all ?z_bool ?z_enumerate ?z_int ?z_isinstance ?z_len ?z_list ?z_max ?z_min ?z_range ?z_repr ?z_sorted ?z_sum ?z_tuple ?z_zip ?zg0 ?zg1 ?zg2
    (case g7 => k_is)
    (case l7 => k_is)
    (case q7 => k_is)
    (case k7 => k_is)
    (case g8 => k_is)
    (case l8 => k_is)
    (case q8 => k_is)
    (case k8 => k_is)
    (case g9 => k_is)
    (case l9 => k_is)
    (case q9 => k_is)
    (case k9 => k_is)
    (case g10 => k_is)
    (case l10 => k_is)
    (case q10 => k_is)
    (case k10 => k_is)
    (case g11 => k_is)
    (case l11 => k_is)
    (case q11 => k_is)
    (case k11 => k_is)
    (case g12 => k_is)
    (case l12 => k_is)
    (case q12 => k_is)
    (case k12 => k_is)
    (case g13 => k_is)
    (case l13 => k_is)
    (case q13 => k_is)
    (case k13 => k_is)
    (case g14 => k_is)
    (case l14 => k_is)
    (case q14 => k_is)
    (case k14 => k_is)
    (case g15 => k_is)
    (case l15 => k_is)
    (case q15 => k_is)
    (case k15 => k_is)
    (case g16 => k_is)
    (case l16 => k_is)
    (case q16 => k_is)
    (case k16 => k_is)
    (case g17 => k_is)
    (case l17 => k_is)
    (case q17 => k_is)
    (case k17 => k_is)
    (case g22 => k_is)
    (case l22 => k_is)
    (case q22 => k_is)
    (case k22 => k_is)
    (case g23 => k_is)
    (case l23 => k_is)
    (case q23 => k_is)
    (case k23 => k_is)
    (case g24 => k_is)
    (case l24 => k_is)
    (case q24 => k_is)
    (case k24 => k_is)
    (case g25 => k_is)
    (case l25 => k_is)
    (case q25 => k_is)
    (case k25 => k_is)
    (case g26 => k_is)
    (case l26 => k_is)
    (case q26 => k_is)
    (case k26 => k_is)
    (case g27 => k_is)
    (case l27 => k_is)
    (case q27 => k_is)
    (case k27 => k_is)
    (case g28 => k_is)
    (case l28 => k_is)
    (case q28 => k_is)
    (case k28 => k_is)
    (case g29 => k_is)
    (case l29 => k_is)
    (case q29 => k_is)
    (case k29 => k_is)
    (case g30 => k_is)
    (case l30 => k_is)
    (case q30 => k_is)
    (case k30 => k_is)
    (case g31 => k_is)
    (case l31 => k_is)
    (case q31 => k_is)
    (case k31 => k_is)
    (case g32 => k_is)
    (case l32 => k_is)
    (case q32 => k_is)
    (case k32 => k_is)
    (case g33 => k_is)
    (case l33 => k_is)
    (case q33 => k_is)
    (case k33 => k_is)
    (case g34 => k_is)
    (case l34 => k_is)
    (case q34 => k_is)
    (case k34 => k_is)
    (case g35 => k_is)
    (case l35 => k_is)
    (case q35 => k_is)
    (case k35 => k_is)
    (case g36 => k_is)
    (case l36 => k_is)
    (case q36 => k_is)
    (case k36 => k_is)
    (case g37 => k_is)
    (case l37 => k_is)
    (case q37 => k_is)
    (case k37 => k_is)
    (case g38 => k_is)
    (case l38 => k_is)
    (case q38 => k_is)
    (case k38 => k_is)
    (case g39 => k_is)
    (case l39 => k_is)
    (case q39 => k_is)
    (case k39 => k_is)
    (case g40 => k_is)
    (case l40 => k_is)
    (case q40 => k_is)
    (case k40 => k_is)
    (case g41 => k_is)
    (case l41 => k_is)
    (case q41 => k_is)
    (case k41 => k_is)
    (case g42 => k_is)
    (case l42 => k_is)
    (case q42 => k_is)
    (case k42 => k_is)
    (case g43 => k_is)
    (case l43 => k_is)
    (case q43 => k_is)
    (case k43 => k_is)
    (case g44 => k_is)
    (case l44 => k_is)
    (case q44 => k_is)
    (case k44 => k_is)
    (case g45 => k_is)
    (case l45 => k_is)
    (case q45 => k_is)
    (case k45 => k_is)
    (case g46 => k_is)
    (case l46 => k_is)
    (case q46 => k_is)
    (case k46 => k_is)
    (case g47 => k_is)
    (case l47 => k_is)
    (case q47 => k_is)
    (case k47 => k_is)
    (case g48 => k_is)
    (case l48 => k_is)
    (case q48 => k_is)
    (case k48 => k_is)
    (case g49 => k_is)
    (case l49 => k_is)
    (case q49 => k_is)
    (case k49 => k_is)
    (case g51 => k_is)
    (case l51 => k_is)
    (case q51 => k_is)
    (case k51 => k_is)
    (case g52 => k_is)
    (case l52 => k_is)
    (case q52 => k_is)
    (case k52 => k_is)
    (case g53 => k_is)
    (case l53 => k_is)
    (case q53 => k_is)
    (case k53 => k_is)
    (case g54 => k_is)
    (case l54 => k_is)
    (case q54 => k_is)
    (case k54 => k_is)
    (case g55 => k_is)
    (case l55 => k_is)
    (case q55 => k_is)
    (case k55 => k_is)
    (case g56 => k_is)
    (case l56 => k_is)
    (case q56 => k_is)
    (case k56 => k_is)
    (case g57 => k_is)
    (case l57 => k_is)
    (case q57 => k_is)
    (case k57 => k_is)
    (case g58 => k_is)
    (case l58 => k_is)
    (case q58 => k_is)
    (case k58 => k_is)
    (case g59 => k_is)
    (case l59 => k_is)
    (case q59 => k_is)
    (case k59 => k_is)
    (case g60 => k_is)
    (case l60 => k_is)
    (case q60 => k_is)
    (case k60 => k_is)
    (case g61 => k_is)
    (case l61 => k_is)
    (case q61 => k_is)
    (case k61 => k_is)
    (case g62 => k_is)
    (case l62 => k_is)
    (case q62 => k_is)
    (case k62 => k_is)
    (case g63 => k_is)
    (case l63 => k_is)
    (case q63 => k_is)
    (case k63 => k_is)
    (case g64 => k_is)
    (case l64 => k_is)
    (case q64 => k_is)
    (case k64 => k_is)
    (case g65 => k_is)
    (case l65 => k_is)
    (case q65 => k_is)
    (case k65 => k_is)
    (case g66 => k_is)
    (case l66 => k_is)
    (case q66 => k_is)
    (case k66 => k_is)
    (case g67 => k_is)
    (case l67 => k_is)
    (case q67 => k_is)
    (case k67 => k_is)
    (case g68 => k_is)
    (case l68 => k_is)
    (case q68 => k_is)
    (case k68 => k_is)
    (case g69 => k_is)
    (case l69 => k_is)
    (case q69 => k_is)
    (case k69 => k_is)
    (case g70 => k_is)
    (case l70 => k_is)
    (case q70 => k_is)
    (case k70 => k_is)
    (case g71 => k_is)
    (case l71 => k_is)
    (case q71 => k_is)
    (case k71 => k_is)
    (case lc11 => k_is)
    (case v11 => rfl)
    (case n11 => kernel_rfl)
    (case h11 => kernel_rfl)
    (case lc12 => k_is)
    (case v12 => rfl)
    (case n12 => kernel_rfl)
    (case h12 => kernel_rfl)
    (case lc28 => k_is)
    (case v28 => rfl)
    (case n28 => kernel_rfl)
    (case h28 => kernel_rfl)
    (case lc29 => k_is)
    (case v29 => rfl)
    (case n29 => kernel_rfl)
    (case h29 => kernel_rfl)
    (case lc35 => k_is)
    (case v35 => rfl)
    (case n35 => kernel_rfl)
    (case h35 => kernel_rfl)
    (case lc39 => k_is)
    (case v39 => rfl)
    (case n39 => kernel_rfl)
    (case h39 => kernel_rfl)
    (case lc40 => k_is)
    (case v40 => rfl)
    (case n40 => kernel_rfl)
    (case h40 => kernel_rfl)
    (case lc41 => k_is)
    (case v41 => rfl)
    (case n41 => kernel_rfl)
    (case h41 => kernel_rfl)
    (case lc42 => k_is)
    (case v42 => rfl)
    (case n42 => kernel_rfl)
    (case h42 => kernel_rfl)
    (case z_all => k_is)
    (case z_bool => k_is)
    (case z_enumerate => k_is)
    (case z_int => k_is)
    (case z_isinstance => k_is)
    (case z_len => k_is)
    (case z_list => k_is)
    (case z_max => k_is)
    (case z_min => k_is)
    (case z_range => k_is)
    (case z_repr => k_is)
    (case z_sorted => k_is)
    (case z_sum => k_is)
    (case z_tuple => k_is)
    (case z_zip => k_is)
    (case zg0 => k_is)
    (case zg1 => k_is)
    (case zg2 => k_is)
