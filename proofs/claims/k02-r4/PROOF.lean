import PyProof.Rows.All
import Wide.All
import OpenK.AllK
import Wide.FinOn
import HandS.GenList
import HandS.AnyAll
import HandS.EndOwn
import HandS.SortInts
import HandS.Walk
import HandS.ForMost
import HandS.Style
import HandS.Conv
import HandS.Evl
import HandS.Wide
import HandS.Star
import HandS.IsInst
import KE.BitLaws
import HandS.More
import PySem.Challenge.RW_kraftroom_k02_symbols_read_and_written
import HandS.ExcInit
import HandS.ExcIs
import HandS.FStr
import KE.KExcIs
import KE.KExcPX
import KE.KTypeName
import HandS.WordsExc
import HandS.TryMany
import HandS.ExcField
import HandS.ExcOwn
import HandS.Deep
import HandS.EndTab
set_option Elab.async false
set_option linter.all false
set_option maxRecDepth 100000
set_option maxHeartbeats 4000000
/-! Generator expressions over the layer: any target, tests, element; consumed by sorted, sum, any, all. -/
namespace GX
open PySem PySem.Spec PyProof.Rows L2 GenW

abbrev Pins := List (Addr × Obj)
structure Sleeps (Ss : List Addr) (s s' : Shared) : Prop where
  os : s'.os = s.os
  bare : AllBare s'.gens
  keep : ∀ b o, b ∉ Ss → s.heap.get? b = some o → s'.heap.get? b = some o
structure PinsAt (Ss : List Addr) (pl : Pins) (h : Heap) : Prop where
  ad : pl.map (·.1) = Ss
  at_ : ∀ p ∈ pl, h.get? p.1 = some p.2 ∧ ∀ v, p.2.data ≠ .cell v
structure Cons where
  Ss : List Addr
  Gh : List V → Pins → Prop
  Th : List V → V → Hp → Prop
  Qe : List V → Hp → Prop

abbrev gcx (X : Cx) (sB : Shared) (HB : Hp) (N' : List Str) (cenv : Env) (fp : List Addr) (A : Around) (pn : Pins) : Cx :=
  { X with A := A, N := N', s_0 := sB, H_0 := HB, env := cenv, outer := X.stack, stack := cenv :: X.stack, ex := fp, fn := fun _ => false, calm := true, pn := pn, xe := fun _ _ => False }

/-- the generator expression's own scope, its names N', which of them are captured (cm: their slots outside) -/
structure CapOk (N N' : List Str) (cm : List (Option Nat)) (scope sc : Scope) : Prop where
  kind : scope.kind = .function
  co : scope.isCoroutine = false
  cell : ∀ y ∈ scope.names, y.2 ≠ .cell
  dot : scope.names.lookup (".0" : Str) = some NameKind.local
  free : ∀ y ∈ scope.names, y.2 = .free → sc.names.lookup y.1 = some .cell ∨ sc.names.lookup y.1 = some .free
  len : cm.length = N'.length
  cap : ((cm.zip N').all fun p => match p.1 with | some j => (N[j]? == some p.2) && (scope.names.lookup p.2 == some .free) | none => true) = true
def captS (cm : List (Option Nat)) (σ : L2.St) : L2.St := cm.map fun o => match o with
  | some j => (σ[j]?).join
  | none => none
theorem captS_some {cm : List (Option Nat)} {σ : L2.St} {i : Nat} {v : V} (h : (captS cm σ)[i]? = some (some v)) : ∃ j, cm[i]? = some (some j) ∧ σ[j]? = some (some v) := by
  unfold captS at h
  rw [List.getElem?_map] at h
  cases hc : cm[i]? with
  | none => rw [hc] at h; cases h
  | some o =>
    rw [hc] at h
    cases o with
    | none => cases h
    | some j =>
      refine ⟨j, rfl, ?_⟩
      have h' : (σ[j]?).join = some v := Option.some.inj h
      cases hs : σ[j]? with
      | none => rw [hs] at h'; cases h'
      | some w => rw [hs] at h'; exact congrArg some h'
theorem CapOk.capt {N N' : List Str} {cm : List (Option Nat)} {scope sc : Scope} (ok : CapOk N N' cm scope sc) {i j : Nat} {y : Str} (h1 : cm[i]? = some (some j)) (h2 : N'[i]? = some y) : N[j]? = some y ∧ scope.names.lookup y = some .free := by
  have h := List.all_eq_true.mp ok.cap (some j, y) (List.mem_of_getElem? (i := i) (by rw [List.getElem?_zip_eq_some]; exact ⟨h1, h2⟩))
  simp only [Bool.and_eq_true, beq_iff_eq] at h
  exact h

theorem inv_gens {G : Cx} {pl : Pins} {σ : L2.St} {H : Hp} {s : Shared} (I : Inv G pl σ H s) {g : Nat} {x : GenState} (hx : x.bare = true) : Inv G pl σ H (s.setGen g x) :=
  ⟨I.ok, I.os, allBare_setGen I.bare hx, I.base, I.loc, I.cell, I.free, I.freeC, I.pin, I.hok, I.len⟩

theorem woken {G : Cx} {Ss : List Addr} {pl pl' : Pins} {σ : L2.St} {H : Hp} {s s' : Shared} (hpn : ∀ p ∈ G.pn, p.1 ∉ Ss)
    (hap : ∀ b ∈ Ss, G.s_0.heap.objs.size ≤ b ∧ b ≠ G.env.locals ∧ ∀ x c, G.env.cells.lookup x = some c → c ≠ b) (hp : PinsAt Ss pl s.heap) (I : Inv G pl σ H s) (z : Sleeps Ss s s') (hp' : PinsAt Ss pl' s'.heap) :
    Inv G pl' σ H s' := by
  have fr : ∀ b ∈ Ss, H b = none ∧ b ≠ G.env.locals ∧ b ∉ G.fs := fun b hb => by
    rw [← hp.ad] at hb
    obtain ⟨p, hm, e⟩ := List.mem_map.mp hb
    obtain ⟨_, h2, h3, h4, _⟩ := I.pin p (List.mem_append_right _ hm)
    rw [← e]
    exact ⟨h2, h3, h4⟩
  have I0 : Inv G [] σ H s := I.pins_of fun p hp => absurd hp (by simp)
  have nt : ∀ b u, H b = some u → b ∉ Ss := fun b u q hb => by rw [(fr b hb).1] at q; cases q
  obtain ⟨z1, z2, z3⟩ := z
  obtain ⟨hh, g, d, t, o⟩ := s'
  have ho : o = s.os := z1
  subst ho
  have J : Inv G [] σ H { s with heap := hh, gens := g, drawn := d, toks := t } := by
    refine I0.step (g' := g) (t' := t) (d' := d) (ch := Ss) (fun b hb => ?_)
      (fun b ob _ _ hc q _ => z3 b ob hc q) (fun b ob _ _ hc q _ => ⟨ob.slots, z3 b ob hc q⟩) (fun _ _ _ _ n => n) (fun b ob hc q => ⟨ob, z3 b ob hc q⟩)
      (fun _ _ q => q) (fun _ _ _ q => q) (fun b ps q => ⟨#[], by rw [q]; simp⟩) (fun m hm => ?_) (fun b u q => ?_) z2
    · refine ⟨.inr (hap b hb).1, (hap b hb).2.1, (hap b hb).2.2, fun p hp => ?_⟩
      rcases List.mem_append.mp hp with hp | hp
      · exact fun e => hpn p hp (by rw [e]; exact hb)
      · cases hp
    · obtain ⟨ob, es, ep, ho, r⟩ := hm
      exact ⟨ob, es, ep, z3 _ ob (fun hm => (fr _ hm).2.1 rfl) ho, r⟩
    · refine (I0.hok b u q).stay (fun c v hc y => z3 c v ?_ y) (fun _ y => y) fun _ _ y => y
      rcases hc with y | y
      · rw [y]; exact nt b u q
      · exact nt c _ y
  refine J.pins_of fun p hp => ?_
  have hS : p.1 ∈ Ss := by rw [← hp'.ad]; exact List.mem_map.mpr ⟨p, hp, rfl⟩
  exact ⟨(hp'.at_ p hp).1, (fr _ hS).1, (fr _ hS).2.1, (fr _ hS).2.2, (hp'.at_ p hp).2⟩

def GY (G : Cx) (C : Cons) (σ0 : L2.St) : Protocol := fun n s₀ v s kap =>
  ∃ ys x pl H, n + 1 + ys.length = sizeLine ∧ RelV x v ∧ PinsAt C.Ss pl s.heap ∧ C.Gh ys pl ∧ Inv G pl σ0 H s ∧ C.Th ys x H ∧
    (∀ b ∈ C.Ss, s.heap.get? b = s₀.heap.get? b) ∧ ∀ s' pl', Sleeps C.Ss s s' → PinsAt C.Ss pl' s'.heap → C.Gh (ys ++ [x]) pl' → kap (.send .none) s'
def GP (G : Cx) (C : Cons) (σ0 : L2.St) (s₀ s : Shared) : Prop := ∃ ys pl H, ys.length ≤ sizeLine ∧ PinsAt C.Ss pl s.heap ∧ C.Gh ys pl ∧ Inv G pl σ0 H s ∧ C.Qe ys H ∧ ∀ b ∈ C.Ss, s.heap.get? b = s₀.heap.get? b
def GR (G : Cx) (C : Cons) (σ0 : L2.St) : GenEnd := fun n s₀ r s => r = .ok .next ∧ GP G C σ0 s₀ s
theorem PinsAt.same {Ss : List Addr} {pl : Pins} {h h' : Heap} (a : PinsAt Ss pl h) (b : PinsAt Ss pl h') : ∀ x ∈ Ss, h'.get? x = h.get? x := fun x hx => by
  rw [← a.ad] at hx
  obtain ⟨p, hp, e⟩ := List.mem_map.mp hx
  rw [← e, (a.at_ p hp).1, (b.at_ p hp).1]

theorem over_gl {A : Around} {elt : Expr} {gens : List Comprehension} {scope : Scope} {pos : Pos} {it acc : Value} {env : Env} : A.over (.compLoop (.GeneratorExp elt gens scope pos) 0 it acc env) [] = A.deeper env := by
  first
    | rfl
    | (obtain ⟨hd, d, fr, gs, u⟩ := A; simp [Around.over, Around.deeper, marksOver, frameCount, unitsOf, envsOf, guardsOf, pushEnvs, pushGuards, Code.envs, Code.env?, Code.isFrame, Code.guards, Code.isGuard, Code.weight, Code.frames, Code.isCreation, Code.isCaller, Code.cUnits])

/-- what each turn is to bring -/
def Turns (J : It) (g : TG) (tt : TT) (te : TE) (σ0 : L2.St) (own : List Nat) (Th : List V → V → Hp → Prop) (Qe : List V → Hp → Prop) (W : Nat → Nat → List V → Hp → Prop) : Prop :=
  ∀ i m ys H, W i m ys H → (J.stop i H ∧ Qe ys H) ∨ (J.go i H ∧ ∃ Nx : List V → Hp → Prop, (∀ ys' H', Nx ys' H' → ∃ m', m' < m ∧ W (i + 1) m' ys' H') ∧
    ∀ x H', J.yld i H x H' → g x σ0 H' fun σ2 H2 => wipe σ2 own = σ0 ∧ tt σ2 H2 fun b H3 =>
      if b = true then te σ2 H3 fun y H4 => ys.length < sizeLine ∧ Th ys y H4 ∧ Nx (ys ++ [y]) H4 else Nx ys H3)

section
variable {G : Cx} {A : Around} {C : Cons} {cenv : Env} {tg elt iter : Expr} {ifs : List Expr} {scope : Scope} {pos : Pos} {J : It} {fp : List Addr} {it : Addr} {tn : Nat → Heap → Prop} {g : TG} {tt : TT} {te : TE} {σ0 : L2.St} {own : List Nat}
  {W : Nat → Nat → List V → Hp → Prop}
theorem seg_loop (hA : A.deeper cenv = G.A) (hE : G.env = cenv) (hcalm : G.calm = true) (hxe : G.xe = fun _ _ => False) (hco : cenv.scope.isCoroutine = false)
    (T : Turn G.prog G.w G.K tg J fp it tn) (hg : PG G tg g) (ht : PTs G ifs tt) (he : PE G elt te)
    (hpn : ∀ p ∈ G.pn, p.1 ∉ C.Ss) (hap : ∀ b ∈ C.Ss, G.s_0.heap.objs.size ≤ b ∧ b ≠ G.env.locals ∧ ∀ x c, G.env.cells.lookup x = some c → c ≠ b)
    (hfp : ∀ b ∈ fp, b ≠ G.env.locals ∧ b ∉ G.fs ∧ (b ∈ G.ex ∨ G.s_0.heap.objs.size ≤ b) ∧ (∀ x c, G.env.cells.lookup x = some c → c ≠ b) ∧ (∀ p ∈ G.pn, p.1 ≠ b) ∧ b ∉ C.Ss)
    (tr : Turns J g tt te σ0 own C.Th C.Qe W) :
    ∀ (m i n : Nat) (ys : List V) (s₀ s : Shared) (H : Hp) (pl : Pins), n + ys.length = sizeLine → W i m ys H → PinsAt C.Ss pl s.heap → C.Gh ys pl → Inv G pl σ0 H s → tn i s.heap → (∀ b ∈ fp, H b = none) → (∀ b ∈ C.Ss, s.heap.get? b = s₀.heap.get? b) →
      Seg (model G.prog G.w) A (GR G C σ0) (GY G C σ0) n s₀ (.compLoop (.GeneratorExp elt [⟨tg, iter, ifs, 0⟩] scope pos) 0 (.ref it) .none cenv)
        ((model G.prog G.w).den (.compLoop (.GeneratorExp elt [⟨tg, iter, ifs, 0⟩] scope pos) 0 (.ref it) .none cenv)) [] s := by
  subst hE
  intro m
  induction m using Nat.strongRecOn with
  | ind m ih =>
    intro i n ys s₀ s H pl hn w hp hgh I hst hfr hs0
    have hov : A.over (.compLoop (.GeneratorExp elt [⟨tg, iter, ifs, 0⟩] scope pos) 0 (.ref it) .none G.env) [] = G.A := over_gl.trans hA
    have stat : ∀ {pl' : Pins} {H' : Hp}, (pl'.map (·.1) = C.Ss) → (∀ b ∈ fp, H' b = none) → ∀ b ∈ fp, FpOk G pl' H' b := fun {pl' H'} had hn b hb => by
      obtain ⟨h1, h2, h3, h4, h5, h6⟩ := hfp b hb
      refine ⟨hn b hb, h1, h2, h3, h4, fun p hp => ?_⟩
      rcases List.mem_append.mp hp with hp | hp
      · exact h5 p hp
      · intro e
        exact h6 (by rw [← had, ← e]; exact List.mem_map.mpr ⟨p, hp, rfl⟩)
    show Seg _ A _ _ _ s₀ _ ((compTurn (.GeneratorExp elt [⟨tg, iter, ifs, 0⟩] scope pos) 0 (.ref it) .none G.env).onRaise (leaving G.env)) [] s
    rw [compTurn_gen, Sem.onRaise_eq_wrap]
    refine seg_bind_wrap (wpAny_standAt ?_)
    rcases tr i m ys H w with ⟨stop, qn⟩ | ⟨go, Nx, hN, step⟩
    · refine seg_bind_wrap ?_
      rw [hov]
      refine thn (T.done G rfl rfl rfl hcalm i pl s σ0 H _ I (stat hp.ad hfr) hst stop) fun r s4 ⟨hr, I4⟩ => ?_
      subst hr
      have hp4 : PinsAt C.Ss pl s4.heap := ⟨hp.ad, fun p hm => ⟨(I4.pin p (List.mem_append_right _ hm)).1, (hp.at_ p hm).2⟩⟩
      exact seg_end (.ok .next) ⟨rfl, ys, pl, H, by omega, hp4, hgh, I4, qn, fun b hb => (hp.same hp4 b hb).trans (hs0 b hb)⟩
    · refine seg_bind_wrap ?_
      rw [hov]
      refine thn (T.item G rfl rfl rfl hcalm i pl s σ0 H _ I (stat hp.ad hfr) hst go) fun r s4 ⟨u, hr, h4⟩ => ?_
      subst hr
      refine seg_bind_wrap ?_
      rw [hov]
      refine thn h4 fun _ s5 ⟨x, H5, I5, r5, y5, st5, fr5⟩ => ?_
      have I5' := I5.pinned (stat hp.ad fr5) (T.obj _ _ st5)
      refine seg_bind_wrap ?_
      rw [hov]
      refine wpAny_mono (hg.run _ s5 σ0 H5 x u _ I5' r5 (step x H5 y5)) (fun _ s6 ⟨σ6, H6, I6, hw6, q6⟩ => ?_) fun e s' hx => absurd hx (by rw [hxe]; exact fun z => z)
      refine seg_bind_wrap ?_
      rw [hov]
      refine wpAny_mono (ht.run _ s6 σ6 H6 _ I6 q6) (fun ok s7 ⟨H7, I7, q7⟩ => ?_) fun e s' hx => absurd hx (by rw [hxe]; exact fun z => z)
      have back : ∀ {s8 : Shared} {H8 : Hp}, Inv G (pl ++ pinsAt fp s5.heap) σ6 H8 s8 → Inv G pl σ0 H8 s8 ∧ PinsAt C.Ss pl s8.heap ∧ (∀ b ∈ fp, H8 b = none) ∧ ∀ b ∈ fp, ∀ o, s5.heap.get? b = some o → s8.heap.get? b = some o := fun {s8 H8} I8 => by
        refine ⟨(I8.unpinned).weak (by rw [← hw6, wipe_length]) fun j v hv => ?_, ⟨hp.ad, fun p hm => ?_⟩, fun b hb => ?_, fun b hb o e => ?_⟩
        · rw [← hw6] at hv
          exact (wipe_some hv).1
        · exact ⟨(I8.pin p (List.mem_append_right _ (List.mem_append_left _ hm))).1, (hp.at_ p hm).2⟩
        · obtain ⟨o, e, d⟩ := T.obj _ _ st5 b hb
          exact (I8.pin (b, o) (List.mem_append_right _ (List.mem_append_right _ (mem_pinsAt hb e)))).2.1
        · exact (I8.pin (b, o) (List.mem_append_right _ (List.mem_append_right _ (mem_pinsAt hb e)))).1
      cases ok with
      | false =>
        rw [if_neg Bool.false_ne_true] at q7
        simp only [Bool.false_eq_true, if_false]
        obtain ⟨I8, hp8, hf8, hk8⟩ := back I7
        obtain ⟨m', hm', w'⟩ := hN _ _ q7
        exact seg_again rfl (ih m' hm' (i + 1) n ys s₀ s7 H7 pl hn w' hp8 hgh I8 (T.keep _ _ _ st5 hk8) hf8 fun b hb => (hp.same hp8 b hb).trans (hs0 b hb))
      | true =>
        rw [if_pos rfl] at q7
        simp only [if_true]
        have hy : ∀ v, yieldOut G.env v = yieldValue v := fun v => by simp only [yieldOut, hco, Bool.false_eq_true, if_false]
        simp only [hy]
        rw [Sem.bind_eq_wrap', Sem.bind_eq_wrap', Sem.wrap_wrap, Sem.wrap_wrap]
        refine seg_wrap ?_
        rw [hov]
        refine wpAny_mono (he.run _ s7 σ6 H7 _ I7 q7) (fun v s8 ⟨y, H8, I8', r8, hlt, hth, hnx⟩ => ?_) fun e s' hx => absurd hx (by rw [hxe]; exact fun z => z)
        obtain ⟨n, rfl⟩ : ∃ k, n = k + 1 := ⟨n - 1, by omega⟩
        obtain ⟨I8, hp8, hf8, hk8⟩ := back I8'
        obtain ⟨m', hm', w'⟩ := hN _ _ hnx
        refine seg_at (seg_yield rfl rfl rfl ⟨ys, y, pl, H8, hn, r8, hp8, hgh, I8, hth, fun b hb => (hp.same hp8 b hb).trans (hs0 b hb), fun s'' pl' hsl hpl' hgh' => ?_⟩)
        refine seg_again rfl (ih m' hm' (i + 1) n (ys ++ [y]) s'' s'' H8 pl' (by rw [List.length_append, List.length_singleton]; omega) w' hpl' hgh' (woken hpn hap hp8 I8 hsl hpl')
          (T.keep _ _ _ st5 fun b hb o e => hsl.keep b o (hfp b hb).2.2.2.2.2 (hk8 b hb o e)) hf8 fun _ _ => rfl)

theorem seg_start (hA : A.deeper cenv = G.A) (hE : G.env = cenv) (hcalm : G.calm = true) (hxe : G.xe = fun _ _ => False) (hco : cenv.scope.isCoroutine = false)
    (T : Turn G.prog G.w G.K tg J fp it tn) (hg : PG G tg g) (ht : PTs G ifs tt) (he : PE G elt te)
    (hpn : ∀ p ∈ G.pn, p.1 ∉ C.Ss) (hap : ∀ b ∈ C.Ss, G.s_0.heap.objs.size ≤ b ∧ b ≠ G.env.locals ∧ ∀ x c, G.env.cells.lookup x = some c → c ≠ b)
    (hfp : ∀ b ∈ fp, b ≠ G.env.locals ∧ b ∉ G.fs ∧ (b ∈ G.ex ∨ G.s_0.heap.objs.size ≤ b) ∧ (∀ x c, G.env.cells.lookup x = some c → c ≠ b) ∧ (∀ p ∈ G.pn, p.1 ≠ b) ∧ b ∉ C.Ss)
    (tr : Turns J g tt te σ0 own C.Th C.Qe W) {m : Nat} {s₀ s : Shared} {H : Hp} {pl : Pins} (w : W 0 m [] H) (hp : PinsAt C.Ss pl s.heap) (hgh : C.Gh [] pl) (I : Inv G pl σ0 H s) (hst : tn 0 s.heap) (hfr : ∀ b ∈ fp, H b = none) (hs0 : ∀ b ∈ C.Ss, s.heap.get? b = s₀.heap.get? b) :
    Seg (model G.prog G.w) A (GR G C σ0) (GY G C σ0) sizeLine s₀ (.compStart (.GeneratorExp elt [⟨tg, iter, ifs, 0⟩] scope pos) 0 (.ref it) .none cenv)
      ((model G.prog G.w).den (.compStart (.GeneratorExp elt [⟨tg, iter, ifs, 0⟩] scope pos) 0 (.ref it) .none cenv)) [] s := by
  have loop := seg_loop (iter := iter) (scope := scope) (pos := pos) hA hE hcalm hxe hco T hg ht he hpn hap hfp tr m 0 sizeLine [] s₀ s H pl rfl w hp hgh I hst hfr hs0
  show Seg _ A _ _ _ s₀ _ ((compStart (.GeneratorExp elt [⟨tg, iter, ifs, 0⟩] scope pos) 0 (.ref it) .none cenv).onRaise (leaving cenv)) [] s
  unfold compStart
  rw [Sem.onRaise_eq_wrap]
  show Seg _ A _ _ _ s₀ _ ((ask >>= _).wrap _ _ _ _) [] s
  refine seg_bind_wrap (wpAny_askSetting ?_)
  split
  · exact seg_again rfl loop
  · first
      | exact seg_bind_wrap (wpAny_rule (seg_bind_wrap (wpAny_standAt (seg_bind_wrap (T.self _ 0 s _ _ hst (seg_again rfl loop))))))
      | (refine seg_bind_wrap (wpAny_rule ?_); show Seg _ A _ _ _ s₀ _ ((standAt iter.pos >>= _).wrap _ _ _ _) [] s; exact seg_bind_wrap (wpAny_standAt (seg_bind_wrap (T.self _ 0 s _ _ hst (seg_again rfl loop)))))
end
end GX
set_option Elab.async false
set_option linter.all false
set_option maxRecDepth 100000
set_option maxHeartbeats 4000000
namespace GX
open PySem PySem.Spec PyProof.Rows L2 GenW

section
variable {X : Cx} {pins : Pins} {σ : L2.St} {H : Hp} {sB : Shared} {N' : List Str} {cm : List (Option Nat)} {scope : Scope}
theorem gen_start (I : Inv X pins σ H sB) (ok : CapOk X.N N' cm scope X.env.scope) {code : Value} {fp : List Addr} (hfp : ∀ b ∈ fp, FpOk X pins H b ∧ b < sB.heap.objs.size)
    {A : Around} (hA : A.handled = none) (hfr : A.frames = some (genEnv scope (cloFrom X.env.cells scope.names []) sB.heap.objs.size code builtinsNs X.env :: X.stack))
    {s2 : Shared} {m0 : Str → Option Value} (hn : s2.heap.Ns sB.heap.objs.size m0) (hk : ∀ b o, sB.heap.get? b = some o → s2.heap.get? b = some o) (hos : s2.os = sB.os) (hb : AllBare s2.gens) {pn pl : Pins}
    (hp : ∀ p ∈ pn ++ pl, s2.heap.get? p.1 = some p.2 ∧ sB.heap.objs.size < p.1 ∧ ∀ v, p.2.data ≠ .cell v) :
    Inv (gcx X sB H N' (genEnv scope (cloFrom X.env.cells scope.names []) sB.heap.objs.size code builtinsNs X.env) fp A pn) pl (captS cm σ) H s2 := by
  have hfree : ∀ y ∈ scope.names, y.2 = .free → ∃ c, X.env.cells.lookup y.1 = some c := fun y hy e => by
    rcases ok.free y hy e with k | k
    · exact I.ok.has _ (.inl k)
    · exact I.ok.has _ (.inr k)
  have cm1 : ∀ {y c}, (cloFrom X.env.cells scope.names []).lookup y = some c → X.env.cells.lookup y = some c ∧ c < sB.heap.objs.size := fun {y c} hm => by
    rcases cloFrom_mem (PySem.mem_of_lookup hm) with hm | ⟨h1, rfl⟩
    · cases hm
    · obtain ⟨c, hc⟩ := hfree _ h1 rfl
      rw [hc]
      obtain ⟨w, z⟩ := I.cell _ _ hc
      exact ⟨rfl, z.lt⟩
  have look : ∀ {y}, scope.names.lookup y = some .free → ∃ c, (cloFrom X.env.cells scope.names []).lookup y = some c ∧ X.env.cells.lookup y = some c := fun {y} hl => by
    have hy : (y, NameKind.free) ∈ scope.names := PySem.mem_of_lookup hl
    obtain ⟨c', e'⟩ := mem_lookup (cloFrom_has (cells := X.env.cells) (acc := []) hy)
    exact ⟨c', e', (cm1 e').1⟩
  have nstk : ∀ b, sB.heap.objs.size ≤ b → b ∉ frs X.stack := fun b hb z => by
    rcases List.mem_cons.mp (I.stkSub b z) with z | z
    · exact absurd (Nat.lt_of_lt_of_le I.lt (by rw [← z]; exact hb)) (Nat.lt_irrefl _)
    · exact I.nofs hb z
  have okB : (gcx X sB H N' (genEnv scope (cloFrom X.env.cells scope.names []) sB.heap.objs.size code builtinsNs X.env) fp A pn).Ok := by
    refine ⟨I.ok.mod, ok.kind, I.ok.glob, rfl, Nat.le_refl _, fun y z c e1 e2 => I.ok.inj y z c (cm1 e1).1 (cm1 e2).1, fun y hy => ?_, fun y c z e => ?_, fun _ => hA, hfr, .inr ⟨rfl, rfl⟩, fun b hb => ⟨?_, fun y c e z => ?_⟩, I.bs, Nat.le_trans I.ok.bsz I.sz, fun b o e hb => ?_, fun b hb z => ?_, I.stack, I.stkFree⟩
    · rcases hy with hy | hy
      · exact absurd rfl (ok.cell _ (PySem.mem_of_lookup hy))
      · obtain ⟨c, h1, _⟩ := look hy
        exact ⟨c, h1⟩
    · exact absurd (show false = true from z) Bool.false_ne_true
    · exact Nat.ne_of_lt (hfp b hb).2
    · exact (hfp b hb).1.2.2.2.2.1 y c (cm1 e).1 z
    · rcases (hfp b hb).1.2.2.2.1 with z | z
      · exact I.ok.noex b o e z
      · exact absurd (Nat.lt_of_lt_of_le (Heap.lt_size e) (Nat.le_trans I.ok.bsz z)) (Nat.lt_irrefl _)
    · rcases List.mem_cons.mp (I.stkSub b z) with z | z
      · exact (hfp b hb).1.2.1 z
      · exact (hfp b hb).1.2.2.1 z
  refine ⟨okB, hos, hb, Un.kept hk, ⟨m0, hn, fun i y av e1 e2 e3 => ?_⟩, fun y c e => ?_, I.hok.fresh (Nat.le_refl _), fun y c e => I.freeC y c (cm1 e).1, fun p hm => ?_, I.hok.kept hk, by
    show (captS cm σ).length = N'.length
    unfold captS
    rw [List.length_map, ok.len]⟩
  · obtain ⟨j, hj, hs⟩ := captS_some e2
    obtain ⟨hy, hf⟩ := ok.capt hj e1
    obtain ⟨m, hn2, hl⟩ := I.loc
    have hvis : Vis X.env.scope y := (ok.free _ (PySem.mem_of_lookup hf) rfl).elim (fun k => .inr (.inl k)) (fun k => .inr (.inr k))
    obtain ⟨w, r, q⟩ := hl j y av hy hs hvis
    refine ⟨w, r, .inr ⟨.inr hf, ?_⟩⟩
    obtain ⟨c, h1, h2⟩ := look hf
    rcases q with ⟨k, _⟩ | ⟨_, c', e', z⟩
    · have k : X.env.scope.names.lookup y = some .local := k
      rcases ok.free _ (PySem.mem_of_lookup hf) rfl with k' | k' <;> rw [show X.env.scope.names.lookup y = _ from k'] at k <;> cases k
    · rw [h2] at e'; cases e'
      exact ⟨c, h1, z.keeps hk⟩
  · obtain ⟨w, z⟩ := I.cell y c (cm1 e).1
    exact ⟨w, z.keeps hk⟩
  · obtain ⟨h1, h2, h3⟩ := hp p hm
    exact ⟨h1, I.hok.fresh (Nat.le_of_lt h2), Nat.ne_of_gt h2, nstk _ (Nat.le_of_lt h2), h3⟩
end

/-- a code object's table, whatever it holds -/
def TabX (P : Addr) : HO := .ext fun h => ∃ ps : Array Value, h.get? P = some { cls := .none, data := .fields ps } ∧ TriplesOk ps.toList
theorem tabx_ok {prog : Program} {w : World} {H : Hp} {h : Heap} {P : Addr} {ps : Array Value} (e : h.get? P = some { cls := .none, data := .fields ps }) (t : TriplesOk ps.toList) : ObjOk prog w H h P (TabX P) :=
  ⟨⟨ps, e, t⟩, ⟨_, e⟩, fun h1 h2 ⟨qs, e1, t1⟩ k => ⟨qs, k _ e1, t1⟩⟩
theorem upd_id {H : Hp} {a : Addr} {o : HO} (h : H a = some o) : upd H a o = H := by
  funext b
  by_cases e : b = a
  · rw [e, upd_same, h]
  · rw [upd_ne e]
/-- a generator that has not begun -/
def RdG (X : Cx) (pins : Pins) (σ : L2.St) (k : Nat) (Th : List V → V → Hp → Prop) (Qe : List V → Hp → Prop) (u : Value) (s' : Shared) : Prop :=
  ∃ (a : Addr) (g : Nat) (c : Code) (go : Obj) (sB : Shared) (HB : Hp) (N' : List Str) (cenv : Env) (fp : List Addr) (σ0 : L2.St),
    u = .ref a ∧ Inv X pins σ HB sB ∧ ExOk X pins fp ∧ sB.heap.objs.size < a ∧ a < s'.heap.objs.size ∧ (∀ h : Heap, h.get? a = some go → h.IsGen a g) ∧ s'.heap.get? a = some go ∧ s'.gens[g]? = some (.fresh c) ∧ s'.os = sB.os ∧ AllBare s'.gens ∧ (∀ b o, sB.heap.get? b = some o → s'.heap.get? b = some o) ∧
    ∀ (A : Around) (s2 : Shared) (Ss : List Addr) (Gh : List V → Pins → Prop) (pl : Pins), Room (k + 1) A → A.frames = some X.stack → (∀ b ∈ Ss, s'.heap.objs.size ≤ b) → (∀ b o, s'.heap.get? b = some o → s2.heap.get? b = some o) → s2.os = sB.os → AllBare s2.gens → PinsAt Ss pl s2.heap → Gh [] pl →
      Seg (model X.prog X.w) A (GR (gcx X sB HB N' cenv fp (A.deeper cenv) [(a, go)]) ⟨Ss, Gh, Th, Qe⟩ σ0) (GY (gcx X sB HB N' cenv fp (A.deeper cenv) [(a, go)]) ⟨Ss, Gh, Th, Qe⟩ σ0) sizeLine s2 c ((model X.prog X.w).den c) [] s2
abbrev TGx := L2.St → Hp → (List V → V → Hp → Prop) → (List V → Hp → Prop) → Prop
structure PGx (X : Cx) (k : Nat) (e : Expr) (t : TGx) : Prop where
  run : ∀ (pins : Pins) (s : Shared) (σ : L2.St) (H : Hp) (Th : List V → V → Hp → Prop) (Qe : List V → Hp → Prop), Inv X pins σ H s → t σ H Th Qe → wpAny (model X.prog X.w) X.A (eval e X.env) (RdG X pins σ k Th Qe) X.xe s
/-- the reading of a generator expression -/
def tGx (P : Addr) (wi : TI) (g : TG) (tt : TT) (te : TE) (cm : List (Option Nat)) (own : List Nat) : TGx := fun σ H Th Qe => wi σ H fun J H1 => H1 P = some (TabX P) ∧
  ∃ W : Nat → Nat → List V → Hp → Prop, (∃ m, W 0 m [] H1) ∧ Turns J g tt te (captS cm σ) own Th Qe W

theorem pgx_gen {X : Cx} {c P : Addr} {elt iter tg : Expr} {ifs : List Expr} {scope : Scope} {gpos : Pos} {N' : List Str} {cm : List (Option Nat)} {own : List Nat} {wi : TI} {g : TG} {tt : TT} {te : TE} {k k0 : Nat}
    (hr : Room k0 X.A) (TB : GxR.TabB X.base X.mg c P) (hcode : X.env.code = .ref c) (ok : CapOk X.N N' cm scope X.env.scope) (hi : PI X tg iter wi)
    (hg : ∀ (sB : Shared) (HB : Hp) (cl : List (Str × Addr)) (L : Addr) (code : Value) (fp : List Addr) (A : Around) (pn : Pins), Room k A → PG (gcx X sB HB N' (genEnv scope cl L code builtinsNs X.env) fp A pn) tg g)
    (ht : ∀ (sB : Shared) (HB : Hp) (cl : List (Str × Addr)) (L : Addr) (code : Value) (fp : List Addr) (A : Around) (pn : Pins), Room k A → PTs (gcx X sB HB N' (genEnv scope cl L code builtinsNs X.env) fp A pn) ifs tt)
    (he : ∀ (sB : Shared) (HB : Hp) (cl : List (Str × Addr)) (L : Addr) (code : Value) (fp : List Addr) (A : Around) (pn : Pins), Room k A → PE (gcx X sB HB N' (genEnv scope cl L code builtinsNs X.env) fp A pn) elt te)
    (hs : ∀ v, genFold iter X.env v = pure v := by intro _; rfl) : PGx X k (.GeneratorExp elt [⟨tg, iter, ifs, 0⟩] scope gpos) (tGx P wi g tt te cm own) := by
  refine ⟨fun pins s σ H Th Qe I h => ?_⟩
  have hfree : ∀ y ∈ scope.names, y.2 = .free → ∃ c, X.env.cells.lookup y.1 = some c := fun y hy e => by
    rcases ok.free y hy e with k | k
    · exact I.ok.has _ (.inl k)
    · exact I.ok.has _ (.inr k)
  refine wpAny_GeneratorExp_make ok.co (closure_ok hfree) ok.cell ok.dot ok.kind (by have := hr.dp; omega) ?_ hs
  refine thn (hi.run pins s σ H _ I h) fun xv s1 h1 => thn h1 fun itv s2 h2 => ?_
  obtain ⟨it, fp, tn, J, H2, rfl, I2, T, st2, f2, hP, W, ⟨m0, w0⟩, tr⟩ := h2
  obtain ⟨⟨ps, hPs, ht3⟩, _, _⟩ := I2.hok P _ hP
  have cd : PySem.W.CodeHd s2.heap c P := TB.code.keeps fun b u e => I2.bk b u e
  have fpP : ∀ b ∈ fp, b ≠ P := fun b hb z => by
    have q := (f2 b hb).1
    rw [z, hP] at q; cases q
  have fplt : ∀ b ∈ fp, b < s2.heap.objs.size := fun b hb => let ⟨o, e, _⟩ := T.obj _ _ st2 b hb; Heap.lt_size e
  have cont : ∀ (code : Value) (h3 : Heap) (tk : Nat) (ps' : Array Value), Heap.ExtBut P s2.heap h3 → s2.heap.objs.size ≤ h3.objs.size → h3.get? P = some { cls := .none, data := .fields ps' } → (∃ more, ps' = ps ++ more) → TriplesOk ps'.toList →
      wpAny (model X.prog X.w) X.A (builtinsFor X.env.globals X.env.builtins) (fun bi s₄ =>
        ∀ h', h'.Ns s₄.heap.objs.size (fun y => if y = ".0" then some (.ref it) else none) → Heap.SameBut s₄.heap.objs.size (s₄.heap.push { cls := .type "frame", data := .dict #[] }) h' →
          RdG X pins σ k Th Qe (.ref h'.objs.size) { s₄ with
            gens := s₄.gens.push (.fresh (.compStart (.GeneratorExp elt [⟨tg, iter, ifs, 0⟩] scope gpos) 0 (.ref it) .none (genEnv scope (cloFrom X.env.cells scope.names []) s₄.heap.objs.size code bi X.env))),
            toks := s₄.toks + 1 + 1 + 1,
            heap := h'.push { cls := .type "generator", data := .fields #[.int s₄.gens.size 0, .str "<genexpr>" (s₄.toks + 1), .str (X.env.qual ++ "<genexpr>") (s₄.toks + 1 + 1)] } }) X.xe { s2 with heap := h3, toks := tk } := by
    intro code h3 tk ps' hx hsz hP3 hmore ht4
    obtain ⟨bm, ob, e1, e2, e3, e4, e5, e6, e7, e8⟩ := TB.bm
    refine wpAny_builtinsFor (m := X.mg) (by rw [I2.ok.glob]; exact (I2.mod.glob.keeps I2.bk).extBut hx TB.gP) e1 e2 (hx _ _ e4 (I2.bk _ _ e5)) e6 e7 e8 ?_
    intro h' hn' hs'
    obtain ⟨more, em⟩ := hmore
    subst em
    have J3 : Inv X pins σ H2 { s2 with heap := h3, toks := tk } := by
      have q := I2.write (x := P) (e := P) (o := TabX P) (h' := h3) (t' := tk) (by rw [hP]; trivial) (.inl rfl) (fun b u hb hu => hx b u hb hu) ⟨_, hP3⟩ (tabx_ok hP3 ht4)
      rw [upd_id hP] at q
      exact q
    generalize hgo : ({ cls := .type "generator", data := .fields #[.int s2.gens.size 0, .str "<genexpr>" (tk + 1), .str (X.env.qual ++ "<genexpr>") (tk + 1 + 1)] } : Obj) = go
    have hsz' : h'.objs.size = h3.objs.size + 1 := by
      have q := hs'.1
      rw [q, Heap.size_push]
    have keep' : ∀ b o, h3.get? b = some o → h'.get? b = some o := fun b o e => hs'.extBut b o (Nat.ne_of_lt (Heap.lt_size e)) (Heap.get?_push_of_some _ e)
    have goat : (h'.push go).get? h'.objs.size = some go := by
      subst hgo
      exact Heap.get?_push_size _ rfl
    have fp3 := f2
    refine ⟨h'.objs.size, s2.gens.size, _, go, { s2 with heap := h3, toks := tk }, H2, N', genEnv scope (cloFrom X.env.cells scope.names []) h3.objs.size code builtinsNs X.env, fp, captS cm σ, rfl, J3, fun b hb => ⟨(f2 b hb).2.2.2.1, (f2 b hb).2.1, (f2 b hb).2.2.2.2.1, (f2 b hb).2.2.2.2.2⟩, ?_, ?_, fun h e => ?_, goat, Array.getElem?_push_size .., rfl, ?_, fun b o e => ?_, fun A s2' Ss Gh pl hrA hfr hSs hk2 hos2 hb2 hpl hgh => ?_⟩
    · show h3.objs.size < h'.objs.size
      omega
    · show h'.objs.size < (h'.push _).objs.size
      rw [Heap.size_push]; exact Nat.lt_succ_self _
    · subst hgo
      exact ⟨_, _, _, e, rfl, rfl, rfl⟩
    · exact AllBare.push I2.bare rfl
    · exact Heap.get?_push_of_some _ (keep' b o e)
    · have keep2 : ∀ b o, h3.get? b = some o → s2'.heap.get? b = some o := fun b o e => hk2 b o (Heap.get?_push_of_some _ (keep' b o e))
      have hpins : ∀ p ∈ [(h'.objs.size, go)] ++ pl, s2'.heap.get? p.1 = some p.2 ∧ h3.objs.size < p.1 ∧ ∀ v, p.2.data ≠ .cell v := fun p hp => by
        rcases List.mem_append.mp hp with hp | hp
        · rw [List.mem_singleton.mp hp]
          refine ⟨hk2 h'.objs.size go ?_, by show h3.objs.size < h'.objs.size; omega, fun v q => by subst hgo; cases q⟩
          exact goat
        · have hS : p.1 ∈ Ss := by rw [← hpl.ad]; exact List.mem_map.mpr ⟨p, hp, rfl⟩
          have q := hSs _ hS
          have q2 : (h'.push go).objs.size ≤ p.1 := by subst hgo; exact q
          rw [Heap.size_push] at q2
          refine ⟨(hpl.at_ p hp).1, ?_, (hpl.at_ p hp).2⟩
          have q3 : h'.objs.size < p.1 := Nat.lt_of_succ_le q2
          rw [hsz'] at q3
          exact Nat.lt_of_succ_lt q3
      have IG := gen_start (code := code) (cm := cm) (N' := N') (fp := fp) J3 ok (fun b hb => ⟨fp3 b hb, Nat.lt_of_lt_of_le (fplt b hb) hsz⟩) (A := A.deeper (genEnv scope (cloFrom X.env.cells scope.names []) h3.objs.size code builtinsNs X.env)) hrA.hd
        (by show A.frames.map _ = _; rw [hfr]; rfl) (s2 := s2') (m0 := fun y => if y = ".0" then some (.ref it) else none) ((hn'.push _).keeps hk2) keep2 hos2 hb2 hpins
      have hSlt : ∀ b ∈ Ss, h'.objs.size < b := fun b hb => by
        have q := hSs b hb
        have q2 : (h'.push go).objs.size ≤ b := by subst hgo; exact q
        rw [Heap.size_push] at q2
        exact Nat.lt_of_succ_le q2
      have hrD := hrA.deeper (genEnv scope (cloFrom X.env.cells scope.names []) h3.objs.size code builtinsNs X.env)
      have cmL : ∀ {y c}, (cloFrom X.env.cells scope.names []).lookup y = some c → X.env.cells.lookup y = some c := fun {y c} hm => by
        rcases cloFrom_mem (PySem.mem_of_lookup hm) with hm | ⟨h1, rfl⟩
        · cases hm
        · obtain ⟨c, hc⟩ := hfree _ h1 rfl
          rw [hc] <;> rfl
      refine seg_start (G := gcx X { s2 with heap := h3, toks := tk } H2 N' (genEnv scope (cloFrom X.env.cells scope.names []) h3.objs.size code builtinsNs X.env) fp (A.deeper (genEnv scope (cloFrom X.env.cells scope.names []) h3.objs.size code builtinsNs X.env)) [(h'.objs.size, go)]) (C := ⟨Ss, Gh, Th, Qe⟩) (own := own) (W := W) rfl rfl rfl rfl ok.co T (hg _ _ _ _ _ _ _ _ hrD) (ht _ _ _ _ _ _ _ _ hrD) (he _ _ _ _ _ _ _ _ hrD) (fun p hp z => ?_) (fun b hb => ⟨?_, ?_, fun x c e z => ?_⟩) (fun b hb => ⟨?_, ?_, .inl hb, fun x c e => ?_, fun p hp => ?_, fun z => ?_⟩) tr w0 hpl hgh IG (T.keep _ _ _ st2 fun b hb o e => ?_) (fun b hb => (fp3 b hb).1) (fun _ _ => rfl)
      · rw [List.mem_singleton.mp hp] at z
        exact Nat.lt_irrefl _ (hSlt _ z)
      · exact Nat.le_of_lt (Nat.lt_of_le_of_lt (by omega : h3.objs.size ≤ h'.objs.size) (hSlt b hb))
      · exact Nat.ne_of_gt (Nat.lt_of_le_of_lt (by omega : h3.objs.size ≤ h'.objs.size) (hSlt b hb))
      · obtain ⟨w, q⟩ := I2.cell x c (cmL e)
        have q1 := q.lt
        rw [z] at q1
        exact Nat.lt_irrefl _ (Nat.lt_trans (Nat.lt_of_lt_of_le q1 hsz) (Nat.lt_of_le_of_lt (by omega : h3.objs.size ≤ h'.objs.size) (hSlt b hb)))
      · exact Nat.ne_of_lt (Nat.lt_of_lt_of_le (fplt b hb) hsz)
      · intro z
        rcases List.mem_cons.mp (J3.stkSub b z) with z | z
        · exact (fp3 b hb).2.1 z
        · exact (fp3 b hb).2.2.1 z
      · exact (f2 b hb).2.2.2.2.1 x c (cmL e)
      · rw [List.mem_singleton.mp hp]
        exact Nat.ne_of_gt (Nat.lt_of_lt_of_le (fplt b hb) (by omega : s2.heap.objs.size ≤ h'.objs.size))
      · exact Nat.lt_irrefl _ (Nat.lt_trans (Nat.lt_of_lt_of_le (fplt b hb) (by omega : s2.heap.objs.size ≤ h'.objs.size)) (hSlt b z))
      · exact keep2 b o (hx b o (fpP b hb) e)
  refine ⟨I2.nolimit, ?_⟩
  cases hf : codeAmong gpos ps.toList with
  | none =>
    refine wpAny_genexprCodeX hcode (cd.code hPs ht3) (cd.tab hPs) hf fun c' h' tk hx hge hlt hco' _ htab' _ => ?_
    obtain ⟨o1, vs, f1, tf, fl, tg, inF, tx, tt, op, _, _, _, _, _, _, _, _, _, htr, _⟩ := hco'
    exact cont _ h' tk _ hx (Nat.le_trans hge (Nat.le_of_lt hlt)) htab'.2 ⟨_, rfl⟩ htr
  | some cv =>
    refine wpAny_genexprCode_hit hcode (cd.code hPs ht3) hf ?_
    exact cont cv s2.heap s2.toks ps (Heap.ExtBut.refl _ _) (Nat.le_refl _) hPs ⟨#[], by simp⟩ ht3
end GX
set_option Elab.async false
set_option linter.all false
set_option maxRecDepth 100000
set_option maxHeartbeats 4000000
namespace GX
open PySem PySem.Spec PyProof.Rows L2 GenW

/-- the generator g sleeps (or has not begun), n items at most are to come -/
def Susp (G : Cx) (C : Cons) (σ0 : L2.St) (A : Around) (g n : Nat) (s : Shared) : Prop :=
  ∃ gs, s.gens[g]? = some gs ∧ gs.Goes (model G.prog G.w) A.in1 (GR G C σ0) (GY G C σ0) n (.send .none) (s.setGen g .running)

section
variable {G : Cx} {C : Cons} {σ0 : L2.St} {A : Around} {a : Addr} {g n : Nat} {go : Obj} {s : Shared} {E : Value → Shared → Prop} {Q : Option Value → Shared → Prop}
theorem gx_next (hh : A.handled = none) (hd : A.depth < recursionLimit) (hl : s.heap.NoLimit) (hg : s.heap.IsGen a g) (hS : Susp G C σ0 A g n s)
    (hY : ∀ ys x v pl H s1, n - 1 + 1 + ys.length = sizeLine → RelV x v → PinsAt C.Ss pl s1.heap → C.Gh ys pl → Inv G pl σ0 H s1 → C.Th ys x H → (∀ b ∈ C.Ss, s1.heap.get? b = s.heap.get? b) →
      (∀ s' pl', Sleeps C.Ss s1 s' → s'.gens = s1.gens → PinsAt C.Ss pl' s'.heap → C.Gh (ys ++ [x]) pl' → ∃ m, n = m + 1 ∧ Susp G C σ0 A g m s') → Q (some v) s1)
    (hP : ∀ s1, GP G C σ0 s s1 → Q none s1) : wpAny (model G.prog G.w) A (pyNext (.ref a)) Q E s := by
  obtain ⟨gs, hgs, hgo⟩ := hS
  have hgl : g < s.gens.size := (Array.getElem?_eq_some_iff.mp hgs).1
  refine wpAny_gsz (n := g + 1) hgl ?_
  refine wpAny_pyNext_genexpQ (P := fun n s₀ s₁ => GP G C σ0 s₀ s₁) hh hl hd hg hgs hgo (fun v s₁ gs' hbare hv hsz => ?_) (fun s₁ hp h' hk hsz => ?_)
  · obtain ⟨ys, x, pl, H, h1, h2, h3, h4, h5, h6, h8, h7⟩ := hv
    have hsz1 : g < s₁.gens.size := by
      have q : (s₁.setGen g gs').gens.size = s₁.gens.size := setGen_size _ _ _
      have hsz' : g + 1 ≤ (s₁.setGen g gs').gens.size := hsz
      omega
    refine hY ys x v pl H _ h1 h2 h3 h4 (inv_gens h5 hbare) h6 h8 fun s' pl' hsl hge hpl' hgh' => ?_
    have hsl2 : Sleeps C.Ss s₁ (s'.setGen g .running) := ⟨hsl.os, allBare_setGen hsl.bare rfl, hsl.keep⟩
    have q := h7 (s'.setGen g .running) pl' hsl2 hpl' hgh'
    cases n with
    | zero => exact False.elim q
    | succ m =>
      refine ⟨m, rfl, gs', ?_, q⟩
      rw [hge]
      exact setGen_at hsz1
  · obtain ⟨ys, pl, H, h1, h2, h3, h4, h5, h6⟩ := hp
    have hp2 : PinsAt C.Ss pl h' := ⟨h2.ad, fun p hp => ⟨hk _ _ (h2.at_ p hp).1, (h2.at_ p hp).2⟩⟩
    have I1 := inv_gens (g := g) (x := .finished) h4 rfl
    exact hP _ ⟨ys, pl, H, h1, hp2, h3, I1.kept (t' := s₁.toks) hk, h5, fun b hb => (h2.same hp2 b hb).trans (h6 b hb)⟩
end

/-- a generator just made, now drained: at its first resumption -/
theorem susp_of {X : Cx} {A : Around} {C : Cons} {sB : Shared} {HB : Hp} {N' : List Str} {cenv : Env} {fp : List Addr} {σ0 : L2.St} {a g : Nat} {go : Obj} {c : Code} {s2 : Shared} (hgs : s2.gens[g]? = some (.fresh c))
    (h : Seg (model X.prog X.w) A.in1 (GR (gcx X sB HB N' cenv fp (A.in1.deeper cenv) [(a, go)]) C σ0) (GY (gcx X sB HB N' cenv fp (A.in1.deeper cenv) [(a, go)]) C σ0) sizeLine (s2.setGen g .running) c ((model X.prog X.w).den c) [] (s2.setGen g .running)) :
    Susp (gcx X sB HB N' cenv fp (A.in1.deeper cenv) [(a, go)]) C σ0 A g sizeLine s2 := ⟨_, hgs, rfl, h⟩

section
variable {X : Cx} {pins : Pins} {σ : L2.St} {HB H : Hp} {sB s' : Shared} {N' : List Str} {cenv : Env} {fp : List Addr} {σ0 : L2.St} {A : Around} {pn pl : Pins}
/-- back outside -/
theorem inv_back (I : Inv X pins σ HB sB) (hex : ExOk X pins fp) (J : Inv (gcx X sB HB N' cenv fp A pn) pl σ0 H s') : Inv X pins σ H s' :=
  I.call' (ch := fp) J.os J.base J.hok J.bare hex
end

/-! ### list.extend's loop -/
def GhL (S : Addr) : List V → Pins → Prop := fun ys pl => ∃ (acc : Array Value) (c : Nat), pl = [(S, lstObj acc c)] ∧ Vals ys acc.toList
theorem ghl_at {S : Addr} {ys : List V} {pl : Pins} {h : Heap} (g : GhL S ys pl) (p : PinsAt [S] pl h) : ∃ (acc : Array Value) (c : Nat), h.get? S = some (lstObj acc c) ∧ Vals ys acc.toList := by
  obtain ⟨acc, c, rfl, r⟩ := g
  exact ⟨acc, c, (p.at_ _ (List.mem_singleton.mpr rfl)).1, r⟩
theorem drainL {G : Cx} {Th : List V → V → Hp → Prop} {Qe : List V → Hp → Prop} {σ0 : L2.St} {A : Around} {a S : Addr} {g : Nat} {go : Obj} {res : Value} {R : Result → Shared → Prop} (hh : A.handled = none) (hd : A.depth < recursionLimit) (hpa : (a, go) ∈ G.pn) (hgo : ∀ h : Heap, h.get? a = some go → h.IsGen a g)
    (hSa : S ≠ a) (hSc : S ≠ cStatics)
    (hend : ∀ s' ys acc c pl H, ys.length ≤ sizeLine → s'.heap.get? S = some (lstObj acc c) → Vals ys acc.toList → Inv G pl σ0 H s' → H S = none → Qe ys H → R (.ok (.ret res)) s') :
    ∀ (n : Nat) (s : Shared), s.heap.NoLimit → s.heap.IsGen a g → Susp G ⟨[S], GhL S, Th, Qe⟩ σ0 A.in1 g n s → codeAny (model G.prog G.w) A (.builtin "list.extend.loop" ⟨[.ref S, .ref a, res], []⟩) R s := by
  intro n
  induction n using Nat.strongRecOn with
  | ind n ih =>
    intro s hl hg hS
    refine codeAny_builtin F.entry_extend_loop ?_
    rw [Around.under_plainId F.plain_extend_loop _]
    show wpAny _ A.in1 (pyNext (.ref a) >>= _) _ _ s
    refine wpAny_bind (gx_next (A := A.in1) hh hd hl hg hS (fun ys x v pl H s1 h1 h2 h3 h4 h5 h6 _ h7 => ?_) fun s1 hp => ?_)
    · obtain ⟨acc, c, hS1, hv⟩ := ghl_at h4 h3
      have hlen : acc.toList.length = ys.length := hv.length.symm
      have hacc : acc.size < sizeLine := by
        have e : acc.toList.length = acc.size := by simp
        omega
      show wpAny _ A.in1 (updateSeq S (·.push v) >>= _) _ _ _
      refine wpAny_bind ?_
      refine wpAny_updateSeq hS1 rfl (wpAny_pure ⟨plainId_quiet F.plain_extend_loop _, ?_⟩) (Nat.le_of_lt hacc) (by show (acc.push v).size ≤ sizeLine + 1; rw [Array.size_push]; omega)
      have keep3 : ∀ b o, b ≠ S → s1.heap.get? b = some o → (s1.heap.update S (Obj.mapSeq (·.push v))).get? b = some o := fun b o hbS e => (Heap.get?_update_other _ _ (Ne.symm hbS)).trans e
      have hSn : ∃ c', (s1.heap.update S (Obj.mapSeq (·.push v))).get? S = some (lstObj (acc.push v) c') := ⟨_, Heap.get?_update_self _ hS1 rfl⟩
      obtain ⟨c', hSn⟩ := hSn
      obtain ⟨m, hm, hS2⟩ := h7 { s1 with heap := s1.heap.update S (Obj.mapSeq (·.push v)) } [(S, lstObj (acc.push v) c')] ⟨rfl, h5.bare, fun b o hb e => keep3 b o (fun z => hb (by rw [z]; exact List.mem_singleton.mpr rfl)) e⟩ rfl
        ⟨rfl, fun p hp => by rw [List.mem_singleton.mp hp]; exact ⟨hSn, fun v q => by cases q⟩⟩ ⟨_, _, rfl, by rw [Array.toList_push]; exact hv.append (.cons h2 .nil)⟩
      refine ih m (by omega) _ ?_ ?_ hS2
      · obtain ⟨mc, hns, hnn⟩ := h5.nolimit
        exact ⟨mc, hns.at' fun o e => keep3 _ o (Ne.symm hSc) e, hnn⟩
      · exact hgo _ (keep3 a go (Ne.symm hSa) (h5.pin (a, go) (List.mem_append_left _ hpa)).1)
    · obtain ⟨ys, pl, H, q1, q2, q3, q4, q5, _⟩ := hp
      obtain ⟨acc, c, hS1, hv⟩ := ghl_at q3 q2
      have hn : H S = none := by
        obtain ⟨acc', c', e, _⟩ := q3
        exact (q4.pin (S, lstObj acc' c') (List.mem_append_right _ (by rw [e]; exact List.mem_singleton.mpr rfl))).2.1
      exact wpAny_pure (hend _ ys acc c pl H q1 hS1 hv q4 hn q5)

/-- collect(g): the items in a list at S, untracked -/
theorem collect_gx {X : Cx} {pins : Pins} {σ : L2.St} {k : Nat} {Th : List V → V → Hp → Prop} {Qe : List V → Hp → Prop} {u : Value} {s : Shared} {A : Around} {Q : List Value → Shared → Prop} {E : Value → Shared → Prop} (hr : Room (k + 4) A) (hfr : A.frames = some X.stack)
    (hTh : ∀ ys x H, Th ys x H) (h : RdG X pins σ k Th Qe u s) (hQ : ∀ s' its ys H, ys.length ≤ sizeLine → Vals ys its → Inv X pins σ H s' → Qe ys H → Q its s') : wpAny (model X.prog X.w) A (collect u) Q E s := by
  obtain ⟨a, g, c, go, sB, HB, N', cenv, fp, σ0, rfl, I, hex, ha1, ha2, hgo, hat, hgs, hos, hb, hkp, run⟩ := h
  have hsB : sB.heap.NoLimit := I.nolimit
  have hcl : cStatics < sB.heap.objs.size := let ⟨_, hn, _⟩ := hsB; hn.lt
  have hlim : s.heap.NoLimit := hsB.keeps hkp
  have hSa : s.heap.objs.size ≠ a := Nat.ne_of_gt ha2
  have hSc : s.heap.objs.size ≠ cStatics := Nat.ne_of_gt (Nat.lt_trans hcl (Nat.lt_trans ha1 ha2))
  unfold collect
  refine wpAny_bind (wpAny_runValue (codeAny_builtin F.entry_proto_collect ?_))
  rw [Around.under_plainId F.plain_proto_collect _]
  show wpAny _ A.in1 (newList [] >>= fun l => again (.builtin "list.__iadd__" ⟨[l, .ref a], []⟩)) _ _ s
  refine wpAny_bind (wpAny_newObj_type ?_)
  refine wpAny_pure ⟨plainId_quiet F.plain_list_iadd _, codeAny_builtin F.entry_list_iadd ?_⟩
  rw [Around.under_plainId F.plain_list_iadd _]
  have hS₁ : (s.heap.push { cls := .type "list", data := .seq ([] : List Value).toArray }).get? s.heap.objs.size = some { cls := .type "list", data := .seq ([] : List Value).toArray } := Heap.get?_push_size _ rfl
  have k1 : ∀ b o, s.heap.get? b = some o → (s.heap.push { cls := .type "list", data := .seq ([] : List Value).toArray }).get? b = some o := fun b o e => Heap.get?_push_of_some _ e
  have gty : (s.heap.push { cls := .type "list", data := .seq ([] : List Value).toArray }).IsGen a g := hgo _ (k1 _ _ hat)
  show wpAny _ A.in1 (Builtin.List.listExtendWith (.ref s.heap.objs.size) (.ref a) (.ref s.heap.objs.size)) _ _ _
  unfold Builtin.List.listExtendWith
  refine wpAny_bind (wpAny_typeOf (Heap.IsGen.typeIs (s := { s with heap := _ }) gty) ?_)
  have h1 : Builtin.List.listSameRef (.ref s.heap.objs.size) (.ref a) = false := by simp [Builtin.List.listSameRef, hSa]
  have h2 : (Value.type "generator" == Value.type "list") = false := by decide
  have h3 : (Value.type "generator" == Value.type "tuple") = false := by decide
  simp only [h1, h2, h3, Bool.or_false, Bool.false_eq_true, if_false]
  refine wpAny_bind (wpAny_pyIter_gen (s := { s with heap := _ }) gty ?_)
  refine wpAny_bind (wpAny_holding ?_)
  unfold Builtin.List.listLengthHint
  refine wpAny_bind (wpAny_specialOf (Heap.IsGen.typeIs (s := { s with heap := _ }) gty) F.gen_no_len ?_)
  show wpAny _ A.in1 (specialOf (Value.ref a) (Str.ofString "__length_hint__") >>= _) _ _ _
  refine wpAny_bind (wpAny_specialOf (Heap.IsGen.typeIs (s := { s with heap := _ }) gty) F.gen_no_hint ?_)
  refine wpAny_pure ?_
  show wpAny _ A.in1 (rule "list.extend.makes-room" >>= fun _ => Builtin.List.listTouch (.ref s.heap.objs.size) >>= fun _ =>
    again (.builtin "list.extend.loop" ⟨[.ref s.heap.objs.size, .ref a, .ref s.heap.objs.size], []⟩)) _ _ _
  refine wpAny_bind (wpAny_rule ?_)
  refine wpAny_bind ?_
  show wpAny _ A.in1 (updateSeq s.heap.objs.size (·.push .none) >>= fun _ => updateSeq s.heap.objs.size (·.pop)) _ _ _
  refine wpAny_bind (wpAny_updateSeq hS₁ rfl ?_)
  have hS3 := Heap.get?_update_self (Obj.mapSeq (·.push Value.none)) hS₁ rfl
  refine wpAny_updateSeq (hz := by seq_fits) hS3 rfl ?_
  have hS4 := Heap.get?_update_self (Obj.mapSeq (·.pop)) hS3 rfl
  have up : ∀ (h : Heap) (f : Obj → Obj), (∀ b o, s.heap.get? b = some o → h.get? b = some o) → ∀ b o, s.heap.get? b = some o → (h.update s.heap.objs.size f).get? b = some o := fun h f q b o e =>
    (Heap.get?_update_other _ _ (Ne.symm (Nat.ne_of_lt (Heap.lt_size e)))).trans (q b o e)
  have k4 := up _ (Obj.mapSeq (·.pop)) (up _ (Obj.mapSeq (·.push Value.none)) k1)
  refine wpAny_pure ⟨plainId_quiet F.plain_extend_loop _, ?_⟩
  have hroom : Room (k + 1) A.in1.in1 := ⟨hr.hd, by have := hr.dp; show A.depth + 3 * (k + 1) + 5 < _; omega, by have := hr.un; show A.units + 1 + 1 + 16 * (k + 1) + 200 < _; omega⟩
  refine drainL (G := gcx X sB HB N' cenv fp (A.in1.in1.deeper cenv) [(a, go)]) (Th := Th) (Qe := Qe) (σ0 := σ0) (go := go) hr.hd (by have := hr.dp; show A.depth < _; omega) (List.mem_singleton.mpr rfl) hgo hSa hSc
    (fun s' ys acc c pl H q1 q2 q3 q4 q5 q6 => ?_) sizeLine _ (hlim.keeps k4) (hgo _ (k4 _ _ hat)) (susp_of hgs (run A.in1.in1 _ [s.heap.objs.size] (GhL s.heap.objs.size) _ hroom hfr (fun b hb => by rw [List.mem_singleton.mp hb]; exact Nat.le_refl _) k4 hos (allBare_setGen (s := { s with heap := _ }) hb rfl)
      ⟨rfl, fun p hp => by rw [List.mem_singleton.mp hp]; exact ⟨hS4, fun v q => by cases q⟩⟩ ⟨#[], _, rfl, .nil⟩))
  show wpAny _ A (load s.heap.objs.size >>= _) _ _ s'
  refine wpAny_bind (wpAny_load q2 ?_)
  exact wpAny_pure (hQ s' acc.toList ys H q1 q3 (inv_back I hex q4) q6)
end GX
set_option Elab.async false
set_option linter.all false
set_option maxRecDepth 100000
set_option maxHeartbeats 4000000
namespace GX
open PySem PySem.Spec PyProof.Rows L2 GenW

theorem boot_sorted' : bootBuiltins "sorted" = some (.builtin "sorted") := by decide +kernel
theorem boot_sum' : bootBuiltins "sum" = some (.builtin "sum") := by decide +kernel
theorem boot_any' : bootBuiltins "any" = some (.builtin "any") := by decide +kernel
theorem boot_all' : bootBuiltins "all" = some (.builtin "all") := by decide +kernel

section
variable {X : Cx} {pins : Pins} {σ : L2.St} {H : Hp} {s : Shared}
theorem inv_A (I : Inv X pins σ H s) {A' : Around} (h1 : A'.handled = X.A.handled) (h2 : A'.frames = X.A.frames) : Inv { X with A := A' } pins σ H s :=
  ⟨⟨I.ok.mod, I.ok.kind, I.ok.glob, I.ok.blt, I.ok.above, I.ok.inj, I.ok.has, I.ok.cab, fun c => h1.trans (I.ok.hd c), h2.trans I.ok.frames, I.ok.stk, I.ok.exf, I.ok.bs, I.ok.bsz, I.ok.noex, I.ok.exfs, I.ok.funs, I.ok.frf⟩, I.os, I.bare, I.base, I.loc, I.cell, I.free, I.freeC, I.pin, I.hok, I.len⟩
theorem inv_A' {A' : Around} (I : Inv { X with A := A' } pins σ H s) (h1 : X.A.handled = A'.handled) (h2 : X.A.frames = A'.frames) : Inv X pins σ H s := inv_A (X := { X with A := A' }) I h1 h2
end

section
variable {X : Cx} {p pos : Pos} {e : Expr} {tg : TGx} {k : Nat}
/-- sorted(g): r is list.sort's rule -/
def tSortedG (tg : TGx) (r : V → List V → Hp → VK → Prop) : TE := fun σ H Q => tg σ H (fun _ _ _ => True) fun ys H1 => ∀ l, H1 l = none → r (.ref l) [] (upd H1 l (.lst ys)) fun _ H2 => Q (.ref l) H2
theorem pe_sortedG {r : V → List V → Hp → VK → Prop} (h : PGx X k e tg) (hs : ∀ A', MtR { X with A := A' } "list.sort" r) (hr : Room (k + 5) X.A) (hg : Gl X "sorted") (hm : X.mg "sorted" = none)
    (he : starEach [e] X.env = (false, eval e X.env) :: starEach [] X.env := by rfl) : PE X (.Call (.Name "sorted" p) [e] [] pos) (tSortedG tg r) := by
  refine ⟨fun pins s σ H Q I hq => ?_⟩
  refine wpAny_Call_Name_kw (ld_blt I hg hm boot_sorted' ?_)
  refine PyProof.Rows.callWith_builtin1 ?_ he (by rfl)
  rw [he]
  show wpAny _ _ (spliced ((false, eval e X.env) :: backTo pos (starEach [] X.env))) _ _ s
  refine Calls.spliced_cons (thn (h.run pins s σ H _ _ I hq) fun u s1 hG => ?_)
  refine Calls.spliced_nil ?_
  refine Calls.call_function_entry kind_sorted plain_sorted entry_sorted (args_sorted1 _) ?_
  unfold Builtin.«sorted»
  refine wpAny_bind (m := checkCount "sorted" 1 1 _) (wpAny_pure ?_)
  have hr1 : Room (k + 4) X.A.in1 := ⟨hr.hd, by have := hr.dp; show X.A.depth + 3 * (k + 4) + 5 < _; omega, by have := hr.un; show X.A.units + 1 + 16 * (k + 4) + 200 < _; omega⟩
  refine wpAny_bind (collect_gx (pins := pins) (σ := σ) hr1 I.ok.frames (fun _ _ _ => trivial) hG fun s' its ys H1 hlen hv I1 hq1 => ?_)
  have hil : its.length ≤ sizeLine := by rw [← hv.length]; exact hlen
  refine wpAny_bind (wpAny_newList ?_ hil)
  have fresh : H1 s'.heap.objs.size = none := I1.hok.fresh (Nat.le_refl _)
  have I2 : Inv X pins σ (upd H1 s'.heap.objs.size (.lst ys)) { s' with heap := s'.heap.push (seqObj "list" its.toArray 0) } :=
    I1.laid (t' := s'.toks) (fun _ _ e => Heap.get?_push_of_some _ e) (Nat.le_refl _) ⟨hlen, its, 0, hv, Heap.get?_push_size _ rfl⟩
  refine wpAny_bind (wpAny_holding ?_)
  refine wpAny_mono (hs X.A.in1 pins _ σ _ (.ref s'.heap.objs.size) [] (.ref s'.heap.objs.size) [] _ (inv_A (A' := X.A.in1) I2 rfl rfl) rfl .nil (hq1 _ fresh)) (fun v s3 h3 => ?_) fun _ _ e => e
  obtain ⟨v', H3, I3, r3, q3⟩ := h3
  exact wpAny_pure ⟨_, rfl, .ref s'.heap.objs.size, H3, inv_A' I3 rfl rfl, rfl, q3⟩

/-! ### sum -/
def vsum : List V → Int
  | [] => 0
  | .int i :: r => i + vsum r
  | _ :: r => vsum r
theorem vsum_append (xs ys : List V) : vsum (xs ++ ys) = vsum xs + vsum ys := by
  induction xs with
  | nil => simp [vsum]
  | cons v r ih =>
    cases v <;> simp [vsum, ih] <;> omega
theorem vsum_ints (is : List Int) : vsum (is.map V.int) = is.sum := by
  induction is with
  | nil => rfl
  | cons i r ih => simp [vsum, ih]
def GhS (S : Addr) : List V → Pins → Prop := fun ys pl => ∃ (t : Tok) (c : Nat), pl = [(S, lstObj #[.int (vsum ys) t] c)]
def ThS : List V → V → Hp → Prop := fun ys x _ => ∃ j, x = .int j ∧ InLong j ∧ InLong (vsum ys + j)
theorem drainS {G : Cx} {Qe : List V → Hp → Prop} {σ0 : L2.St} {A : Around} {a S : Addr} {g : Nat} {go : Obj} {R : Result → Shared → Prop} (hh : A.handled = none) (hd : A.depth < recursionLimit) (hpa : (a, go) ∈ G.pn) (hgo : ∀ h : Heap, h.get? a = some go → h.IsGen a g)
    (hSa : S ≠ a) (hSc : S ≠ cStatics)
    (hend : ∀ s' ys t pl H, Inv G pl σ0 H s' → Qe ys H → R (.ok (.ret (.int (vsum ys) t))) s') :
    ∀ (n : Nat) (s : Shared) (z : Int) (t : Tok) (c : Nat), s.heap.NoLimit → s.heap.IsGen a g → s.heap.get? S = some (lstObj #[.int z t] c) → Susp G ⟨[S], GhS S, ThS, Qe⟩ σ0 A.in1 g n s → codeAny (model G.prog G.w) A (.builtin "sum.loop" ⟨[.ref a, .ref S, rawInt 0, rawInt 0], []⟩) R s := by
  intro n
  induction n using Nat.strongRecOn with
  | ind n ih =>
    intro s z t c hl hg hS0 hS
    refine codeAny_builtin F.entry_sum_loop ?_
    rw [Around.under_plainId F.plain_sum_loop _]
    show wpAny _ A.in1 (seqItems? (.ref S) >>= _) _ _ s
    refine wpAny_bind (wpAny_seqItems hS0 rfl ?_)
    show wpAny _ A.in1 (tryCatch (pyNext (.ref a)) _ >>= _) _ _ s
    have hS0' := hS0
    refine wpAny_bind (wpAny_tryCatch ?_)
    refine gx_next (A := A.in1) hh hd hl hg hS (fun ys x v pl H s1 h1 h2 h3 h4 h5 h6 h8 h7 => ?_) fun s1 hp => ?_
    · obtain ⟨t', c', rfl⟩ := h4
      have e1 : s1.heap.get? S = some (lstObj #[.int (vsum ys) t'] c') := (h3.at_ _ (List.mem_singleton.mpr rfl)).1
      have e2 := e1.symm.trans ((h8 S (List.mem_singleton.mpr rfl)).trans hS0)
      obtain ⟨j, rfl, ⟨f1, f2⟩, f3, f4⟩ := h6
      obtain ⟨tv, rfl⟩ := (show ∃ t, v = Value.int j t from h2)
      have ez : z = vsum ys := by
        have e3 : (#[Value.int (vsum ys) t'] : Array Value) = #[.int z t] := by
          have := congrArg Obj.data (Option.some.inj e2)
          injection this
        have e4 := congrArg Array.toList e3
        simp only [List.cons.injEq, Value.int.injEq, and_true] at e4
        exact e4.1.symm
      subst ez
      have hc : ((decide (-(2 ^ 63) ≤ j) && decide (j < 2 ^ 63)) && (decide (-(2 ^ 63) ≤ vsum ys + j) && decide (vsum ys + j < 2 ^ 63))) = true := by
        simp only [Bool.and_eq_true, decide_eq_true_eq]
        exact ⟨⟨f1, f2⟩, f3, f4⟩
      show wpAny _ A.in1 (if (_ : Bool) = true then (mkInt (vsum ys + j) >>= _) else _) _ _ _
      split
      · refine wpAny_bind (wpAny_mkInt ?_)
        show wpAny _ A.in1 (updateSeq S (fun _ => #[.int (vsum ys + j) s1.toks]) >>= _) _ _ _
        refine wpAny_bind ?_
        refine wpAny_updateSeq e1 rfl (wpAny_pure ⟨plainId_quiet F.plain_sum_loop _, ?_⟩)
        have keep3 : ∀ b o, b ≠ S → s1.heap.get? b = some o → (s1.heap.update S (Obj.mapSeq (fun _ => #[.int (vsum ys + j) s1.toks]))).get? b = some o := fun b o hbS e => (Heap.get?_update_other _ _ (Ne.symm hbS)).trans e
        obtain ⟨c2, hSn⟩ : ∃ c2, (s1.heap.update S (Obj.mapSeq (fun _ => #[.int (vsum ys + j) s1.toks]))).get? S = some (lstObj #[.int (vsum ys + j) s1.toks] c2) := ⟨_, Heap.get?_update_self _ e1 rfl⟩
        obtain ⟨m, hm, hS2⟩ := h7 { s1 with heap := s1.heap.update S (Obj.mapSeq (fun _ => #[.int (vsum ys + j) s1.toks])), toks := s1.toks + 1 } [(S, lstObj #[.int (vsum ys + j) s1.toks] c2)] ⟨rfl, h5.bare, fun b o hb e => keep3 b o (fun z => hb (by rw [z]; exact List.mem_singleton.mpr rfl)) e⟩ rfl
          ⟨rfl, fun p hp => by rw [List.mem_singleton.mp hp]; exact ⟨hSn, fun v q => by cases q⟩⟩ ⟨s1.toks, c2, by rw [vsum_append]; simp [vsum]⟩
        refine ih m (by omega) _ (vsum ys + j) s1.toks c2 ?_ ?_ hSn hS2
        · obtain ⟨mc, hns, hnn⟩ := h5.nolimit
          exact ⟨mc, hns.at' fun o e => keep3 _ o (Ne.symm hSc) e, hnn⟩
        · exact hgo _ (keep3 a go (Ne.symm hSa) (h5.pin (a, go) (List.mem_append_left _ hpa)).1)
      · rename_i hneg
        exact absurd hc hneg
    · obtain ⟨ys, pl, H, q1, q2, ⟨t', c', rfl⟩, q4, q5, q6⟩ := hp
      have e1 : s1.heap.get? S = some (lstObj #[.int (vsum ys) t'] c') := (q2.at_ _ (List.mem_singleton.mpr rfl)).1
      have e2 := e1.symm.trans ((q6 S (List.mem_singleton.mpr rfl)).trans hS0)
      have ez : z = vsum ys := by
        have e3 : (#[Value.int (vsum ys) t'] : Array Value) = #[.int z t] := by
          have := congrArg Obj.data (Option.some.inj e2)
          injection this
        have e4 := congrArg Array.toList e3
        simp only [List.cons.injEq, Value.int.injEq, and_true] at e4
        exact e4.1.symm
      subst ez
      exact wpAny_pure (hend s1 ys t _ H q4 q5)
def tSumG (tg : TGx) : TE := fun σ H Q => tg σ H ThS fun ys H1 => Q (.int (vsum ys)) H1
theorem pe_sumG (h : PGx X k e tg) (hr : Room (k + 4) X.A) (hg : Gl X "sum") (hm : X.mg "sum" = none)
    (he : starEach [e] X.env = (false, eval e X.env) :: starEach [] X.env := by rfl) : PE X (.Call (.Name "sum" p) [e] [] pos) (tSumG tg) := by
  refine ⟨fun pins s σ H Q I hq => ?_⟩
  refine wpAny_Call_Name_kw (ld_blt I hg hm boot_sum' ?_)
  refine PyProof.Rows.callWith_builtin1 ?_ he (by rfl)
  rw [he]
  show wpAny _ _ (spliced ((false, eval e X.env) :: backTo pos (starEach [] X.env))) _ _ s
  refine Calls.spliced_cons (thn (h.run pins s σ H _ _ I hq) fun u s1 hG => ?_)
  refine Calls.spliced_nil ?_
  obtain ⟨a, g, c, go, sB, HB, N', cenv, fp, σ0, rfl, I1, hex, ha1, ha2, hgo, hat, hgs, hos, hb, hkp, run⟩ := hG
  have hsB : sB.heap.NoLimit := I1.nolimit
  have hcl : cStatics < sB.heap.objs.size := let ⟨_, hn, _⟩ := hsB; hn.lt
  have hlim : s1.heap.NoLimit := hsB.keeps hkp
  refine call_function_tree F.kind_sum F.plain_sum F.entry_sum (F.args_sum1 _) ?_
  unfold Builtin.«sum»
  simp only [List.length_cons, List.length_nil]
  rw [if_neg (by decide)]
  refine wpAny_bind (wpAny_of_eq (show Builtin.Builtins.bindParams "sum" ["start"] 0 { } = pure [none] from rfl) ?_)
  refine wpAny_bind (wpAny_pyIter_gen (hgo _ hat) ?_)
  refine wpAny_bind (wpAny_mkInt ?_)
  refine wpAny_bind (wpAny_pure ?_)
  simp only [List.forIn_cons, List.forIn_nil]
  refine wpAny_bind (wpAny_bind (wpAny_bind (wpAny_isInstance (T := "int") (b := false) (typeIs_int _ _ _) PySem.sub_int_str ?_)))
  simp only [Bool.false_eq_true, if_false]
  refine wpAny_pure (wpAny_bind (wpAny_bind (wpAny_isInstance (T := "int") (b := false) (typeIs_int _ _ _) PySem.sub_int_bytes ?_)))
  simp only [Bool.false_eq_true, if_false]
  refine wpAny_pure (wpAny_bind (wpAny_bind (wpAny_isInstance (T := "int") (b := false) (typeIs_int _ _ _) PySem.sub_int_bytearray ?_)))
  simp only [Bool.false_eq_true, if_false]
  refine wpAny_pure (wpAny_pure ?_)
  refine wpAny_bind (wpAny_newObj_type ?_)
  have k1 : ∀ (o : Obj) b u, s1.heap.get? b = some u → (s1.heap.push o).get? b = some u := fun o b u e => Heap.get?_push_of_some _ e
  have hroom : Room (k + 1) X.A.in1.in1 := ⟨hr.hd, by have := hr.dp; show X.A.depth + 3 * (k + 1) + 5 < _; omega, by have := hr.un; show X.A.units + 1 + 1 + 16 * (k + 1) + 200 < _; omega⟩
  have hS0 : ∀ t, (s1.heap.push { cls := .type "list", data := .seq ([Value.int 0 t] : List Value).toArray }).get? s1.heap.objs.size = some (lstObj #[.int (vsum []) t] 0) := fun t => Heap.get?_push_size _ rfl
  refine wpAny_pure ⟨plainId_quiet F.plain_sum_loop _, ?_⟩
  refine drainS (G := gcx X sB HB N' cenv fp (X.A.in1.in1.deeper cenv) [(a, go)]) (Qe := fun ys H1 => Q (V.int (vsum ys)) H1) (σ0 := σ0) (A := X.A) (go := go) hr.hd (by have := hr.dp; show X.A.depth < _; omega) (List.mem_singleton.mpr rfl) hgo (Nat.ne_of_gt ha2) (Nat.ne_of_gt (Nat.lt_trans hcl (Nat.lt_trans ha1 ha2)))
    (fun s' ys t pl H1 q1 q2 => ?_) sizeLine _ (vsum []) s1.toks 0 ?_ ?_ ?_ ?_
  · exact ⟨.int (vsum ys), H1, inv_back I1 hex q1, ⟨t, rfl⟩, q2⟩
  · exact hlim.keeps (k1 _)
  · exact hgo _ (k1 _ _ _ hat)
  · exact hS0 _
  · refine susp_of hgs (run X.A.in1.in1 _ [s1.heap.objs.size] (GhS s1.heap.objs.size) _ hroom I.ok.frames (fun b hb => by rw [List.mem_singleton.mp hb]; exact Nat.le_refl _) (k1 _) hos (allBare_setGen (s := { s1 with heap := _ }) hb rfl) ?_ ⟨s1.toks, 0, rfl⟩)
    exact ⟨rfl, fun p hp => by rw [List.mem_singleton.mp hp]; exact ⟨hS0 _, fun v q => by cases q⟩⟩
end

/-! ### any, all -/
theorem drain1 {G : Cx} {nm : String} {bb : Bool} {Th : List V → V → Hp → Prop} {Qe : List V → Hp → Prop} {σ0 : L2.St} {A : Around} {a : Addr} {g : Nat} {go : Obj} {R : Result → Shared → Prop} (hh : A.handled = none) (hd : A.depth < recursionLimit) (hpa : (a, go) ∈ G.pn) (hgo : ∀ h : Heap, h.get? a = some go → h.IsGen a g)
    (hTh : ∀ ys x H, Th ys x H → ∃ b, x = .bl b)
    (step : ∀ (s : Shared) (R' : Result → Shared → Prop), wpAny (model G.prog G.w) A.in1 (pyNext (.ref a)) (fun r s1 => match r with
        | none => R' (.ok (.ret (.bool (!bb)))) s1
        | some v => ∃ b, v = .bool b ∧ if b = bb then R' (.ok (.ret (.bool bb))) s1 else codeAny (model G.prog G.w) A (.builtin nm ⟨[.ref a], []⟩) R' s1) (fun e s1 => R' (.error e) s1) s → codeAny (model G.prog G.w) A (.builtin nm ⟨[.ref a], []⟩) R' s)
    (hend : ∀ s' ys pl H, Inv G pl σ0 H s' → Qe ys H → (∀ y ∈ ys, y ≠ V.bl bb) → R (.ok (.ret (.bool (!bb)))) s') (hyes : ∀ s' ys pl H, Inv G pl σ0 H s' → Th ys (.bl bb) H → R (.ok (.ret (.bool bb))) s') :
    ∀ (n : Nat) (s : Shared), s.heap.NoLimit → s.heap.IsGen a g → Susp G ⟨[], fun ys pl => pl = [] ∧ ∀ y ∈ ys, y ≠ V.bl bb, Th, Qe⟩ σ0 A.in1 g n s → codeAny (model G.prog G.w) A (.builtin nm ⟨[.ref a], []⟩) R s := by
  intro n
  induction n using Nat.strongRecOn with
  | ind n ih =>
    intro s hl hg hS
    refine step s R (gx_next (A := A.in1) hh hd hl hg hS (fun ys x v pl H s1 h1 h2 h3 h4 h5 h6 h8 h7 => ?_) fun s1 hp => ?_)
    · obtain ⟨b, rfl⟩ := hTh _ _ _ h6
      have ev : v = Value.bool b := h2
      refine ⟨b, ev, ?_⟩
      by_cases hb : b = bb
      · rw [if_pos hb]
        subst hb
        exact hyes s1 ys pl H h5 h6
      · rw [if_neg hb]
        obtain ⟨m, hm, hS2⟩ := h7 s1 [] ⟨rfl, h5.bare, fun _ _ _ e => e⟩ rfl ⟨rfl, fun p hp => absurd hp (by simp)⟩ ⟨rfl, fun y hy => by
          rcases List.mem_append.mp hy with z | z
          · exact h4.2 y z
          · rw [List.mem_singleton.mp z]
            exact fun q => hb (V.bl.inj q)⟩
        exact ih m (by omega) s1 h5.nolimit (hgo _ (h5.pin (a, go) (List.mem_append_left _ hpa)).1) hS2
    · obtain ⟨ys, pl, H, q1, q2, q3, q4, q5, q6⟩ := hp
      exact hend s1 ys pl H q4 q5 q3.2
theorem step_any {prog : Program} {w : World} {A : Around} {a : Addr} (s : Shared) (R' : Result → Shared → Prop) (h : wpAny (model prog w) A.in1 (pyNext (.ref a)) (fun r s1 => match r with
        | none => R' (.ok (.ret (.bool (!true)))) s1
        | some v => ∃ b, v = .bool b ∧ if b = true then R' (.ok (.ret (.bool true))) s1 else codeAny (model prog w) A (.builtin "any.loop" ⟨[.ref a], []⟩) R' s1) (fun e s1 => R' (.error e) s1) s) : codeAny (model prog w) A (.builtin "any.loop" ⟨[.ref a], []⟩) R' s := by
  refine codeAny_builtin F.entry_any_loop ?_
  rw [Around.under_plainId F.plain_any_loop _]
  show wpAny _ A.in1 (pyNext (.ref a) >>= _) _ _ s
  refine wpAny_bind (thn h fun r s1 h1 => ?_)
  cases r with
  | none => exact wpAny_bind (wpAny_rule (wpAny_pure h1))
  | some v =>
    obtain ⟨b, rfl, h1⟩ := h1
    refine wpAny_bind (wpAny_holding (wpAny_truthy_bool ?_))
    refine wpAny_bind (wpAny_letGo ?_)
    cases b with
    | true =>
      simp only [if_true]
      exact wpAny_bind (wpAny_rule (wpAny_pure h1))
    | false =>
      simp only [Bool.false_eq_true, if_false]
      exact wpAny_pure ⟨plainId_quiet F.plain_any_loop _, h1⟩
theorem step_all {prog : Program} {w : World} {A : Around} {a : Addr} (s : Shared) (R' : Result → Shared → Prop) (h : wpAny (model prog w) A.in1 (pyNext (.ref a)) (fun r s1 => match r with
        | none => R' (.ok (.ret (.bool (!false)))) s1
        | some v => ∃ b, v = .bool b ∧ if b = false then R' (.ok (.ret (.bool false))) s1 else codeAny (model prog w) A (.builtin "all.loop" ⟨[.ref a], []⟩) R' s1) (fun e s1 => R' (.error e) s1) s) : codeAny (model prog w) A (.builtin "all.loop" ⟨[.ref a], []⟩) R' s := by
  refine codeAny_builtin F.entry_all_loop ?_
  rw [Around.under_plainId F.plain_all_loop _]
  show wpAny _ A.in1 (pyNext (.ref a) >>= _) _ _ s
  refine wpAny_bind (thn h fun r s1 h1 => ?_)
  cases r with
  | none => exact wpAny_bind (wpAny_rule (wpAny_pure h1))
  | some v =>
    obtain ⟨b, rfl, h1⟩ := h1
    refine wpAny_bind (wpAny_holding (wpAny_truthy_bool ?_))
    refine wpAny_bind (wpAny_letGo ?_)
    cases b with
    | false =>
      simp only [Bool.false_eq_true, if_false]
      exact wpAny_bind (wpAny_rule (wpAny_pure h1))
    | true =>
      simp only [if_true]
      exact wpAny_pure ⟨plainId_quiet F.plain_all_loop _, h1⟩
def tAnyG (tg : TGx) : TE := fun σ H Q => tg σ H (fun _ x H1 => ∃ b, x = .bl b ∧ (b = true → Q (.bl true) H1)) fun ys H1 => (∀ y ∈ ys, y ≠ V.bl true) → Q (.bl false) H1
def tAllG (tg : TGx) : TE := fun σ H Q => tg σ H (fun _ x H1 => ∃ b, x = .bl b ∧ (b = false → Q (.bl false) H1)) fun ys H1 => (∀ y ∈ ys, y ≠ V.bl false) → Q (.bl true) H1
section
variable {X : Cx} {p pos : Pos} {e : Expr} {tg : TGx} {k : Nat}
theorem pe_anyG (h : PGx X k e tg) (hr : Room (k + 4) X.A) (hg : Gl X "any") (hm : X.mg "any" = none)
    (he : starEach [e] X.env = (false, eval e X.env) :: starEach [] X.env := by rfl) : PE X (.Call (.Name "any" p) [e] [] pos) (tAnyG tg) := by
  refine ⟨fun pins s σ H Q I hq => ?_⟩
  refine wpAny_Call_Name_kw (ld_blt I hg hm boot_any' ?_)
  refine PyProof.Rows.callWith_builtin1 ?_ he (by rfl)
  rw [he]
  show wpAny _ _ (spliced ((false, eval e X.env) :: backTo pos (starEach [] X.env))) _ _ s
  refine Calls.spliced_cons (thn (h.run pins s σ H _ _ I hq) fun u s1 hG => ?_)
  refine Calls.spliced_nil ?_
  obtain ⟨a, g, c, go, sB, HB, N', cenv, fp, σ0, rfl, I1, hex, ha1, ha2, hgo, hat, hgs, hos, hb, hkp, run⟩ := hG
  refine call_function_tree F.kind_any F.plain_any F.entry_any (F.args_any1 _) ?_
  unfold Builtin.«any»
  refine wpAny_bind (m := oneArg "any" _) (wpAny_pure ?_)
  refine wpAny_bind (wpAny_pyIter_gen (hgo _ hat) ?_)
  have hroom : Room (k + 1) X.A.in1.in1 := ⟨hr.hd, by have := hr.dp; show X.A.depth + 3 * (k + 1) + 5 < _; omega, by have := hr.un; show X.A.units + 1 + 1 + 16 * (k + 1) + 200 < _; omega⟩
  refine wpAny_pure ⟨plainId_quiet F.plain_any_loop _, ?_⟩
  refine drain1 (G := gcx X sB HB N' cenv fp (X.A.in1.in1.deeper cenv) [(a, go)]) (bb := true) (nm := "any.loop") (Th := fun _ x H1 => ∃ b, x = .bl b ∧ (b = true → Q (.bl true) H1)) (Qe := fun ys H1 => (∀ y ∈ ys, y ≠ V.bl true) → Q (.bl false) H1) (σ0 := σ0) (A := X.A) (go := go) hr.hd (by have := hr.dp; show X.A.depth < _; omega) (List.mem_singleton.mpr rfl) hgo
    (fun _ _ _ ⟨b, e, _⟩ => ⟨b, e⟩) step_any (fun s' ys pl H1 q1 q2 q3 => ?_) (fun s' ys pl H1 q1 q2 => ?_) sizeLine _ (I1.nolimit.keeps hkp) (hgo _ hat) (susp_of hgs (run X.A.in1.in1 _ [] (fun ys pl => pl = [] ∧ ∀ y ∈ ys, y ≠ V.bl true) [] hroom I.ok.frames (fun b hb => absurd hb (by simp)) (fun _ _ e => e) hos (allBare_setGen hb rfl) ⟨rfl, fun p hp => absurd hp (by simp)⟩ ⟨rfl, fun y hy => absurd hy (by simp)⟩))
  · exact ⟨.bl false, H1, inv_back I1 hex q1, rfl, q2 q3⟩
  · obtain ⟨b, e, q2⟩ := q2
    cases e
    exact ⟨.bl true, H1, inv_back I1 hex q1, rfl, q2 rfl⟩
theorem pe_allG (h : PGx X k e tg) (hr : Room (k + 4) X.A) (hg : Gl X "all") (hm : X.mg "all" = none)
    (he : starEach [e] X.env = (false, eval e X.env) :: starEach [] X.env := by rfl) : PE X (.Call (.Name "all" p) [e] [] pos) (tAllG tg) := by
  refine ⟨fun pins s σ H Q I hq => ?_⟩
  refine wpAny_Call_Name_kw (ld_blt I hg hm boot_all' ?_)
  refine PyProof.Rows.callWith_builtin1 ?_ he (by rfl)
  rw [he]
  show wpAny _ _ (spliced ((false, eval e X.env) :: backTo pos (starEach [] X.env))) _ _ s
  refine Calls.spliced_cons (thn (h.run pins s σ H _ _ I hq) fun u s1 hG => ?_)
  refine Calls.spliced_nil ?_
  obtain ⟨a, g, c, go, sB, HB, N', cenv, fp, σ0, rfl, I1, hex, ha1, ha2, hgo, hat, hgs, hos, hb, hkp, run⟩ := hG
  refine call_function_tree F.kind_all F.plain_all F.entry_all (F.args_all1 _) ?_
  unfold Builtin.«all»
  refine wpAny_bind (m := oneArg "all" _) (wpAny_pure ?_)
  refine wpAny_bind (wpAny_pyIter_gen (hgo _ hat) ?_)
  have hroom : Room (k + 1) X.A.in1.in1 := ⟨hr.hd, by have := hr.dp; show X.A.depth + 3 * (k + 1) + 5 < _; omega, by have := hr.un; show X.A.units + 1 + 1 + 16 * (k + 1) + 200 < _; omega⟩
  refine wpAny_pure ⟨plainId_quiet F.plain_all_loop _, ?_⟩
  refine drain1 (G := gcx X sB HB N' cenv fp (X.A.in1.in1.deeper cenv) [(a, go)]) (bb := false) (nm := "all.loop") (Th := fun _ x H1 => ∃ b, x = .bl b ∧ (b = false → Q (.bl false) H1)) (Qe := fun ys H1 => (∀ y ∈ ys, y ≠ V.bl false) → Q (.bl true) H1) (σ0 := σ0) (A := X.A) (go := go) hr.hd (by have := hr.dp; show X.A.depth < _; omega) (List.mem_singleton.mpr rfl) hgo
    (fun _ _ _ ⟨b, e, _⟩ => ⟨b, e⟩) step_all (fun s' ys pl H1 q1 q2 q3 => ?_) (fun s' ys pl H1 q1 q2 => ?_) sizeLine _ (I1.nolimit.keeps hkp) (hgo _ hat) (susp_of hgs (run X.A.in1.in1 _ [] (fun ys pl => pl = [] ∧ ∀ y ∈ ys, y ≠ V.bl false) [] hroom I.ok.frames (fun b hb => absurd hb (by simp)) (fun _ _ e => e) hos (allBare_setGen hb rfl) ⟨rfl, fun p hp => absurd hp (by simp)⟩ ⟨rfl, fun y hy => absurd hy (by simp)⟩))
  · exact ⟨.bl true, H1, inv_back I1 hex q1, rfl, q2 q3⟩
  · obtain ⟨b, e, q2⟩ := q2
    cases e
    exact ⟨.bl false, H1, inv_back I1 hex q1, rfl, q2 rfl⟩
end
end GX
set_option Elab.async false
set_option linter.all false
set_option maxRecDepth 100000
set_option maxHeartbeats 4000000
/-! What all laws of this program share. -/
namespace KC
open PySem PySem.Spec PyProof.Rows L2 GX Evl

/-- a def of the top, called by its name -/
structure Cal (P : Program) (w : World) (K : PySem.W.Frag) (mg : Str → Option Value) (base : Heap) (nm : Str) (k : Nat) (ps : List Str) (sp : Sp) : Prop where
  out : ∃ f fd, mg nm = some (.ref f) ∧ PySem.W.keepIn K (.ref f) = true ∧ Binds K fd ps [] ∧ FnOk P w K mg base CX0 k f fd ps sp
theorem pe_callC {X : Cx} {nm : Str} {k : Nat} {ps : List Str} {sp : Sp} {p pos : Pos} {e : Expr} {es : List Expr} {t : TA} (C : Cal X.prog X.w X.K X.mg X.base nm k ps sp) (hr : Room k X.A) (hg : Gl X nm) (ha : PA X (e :: es) t)
    (hdb : (nm == ("__debug__" : Str)) = false := by decide) (he : starEach (e :: es) X.env = (false, eval e X.env) :: starEach es X.env := by rfl) (hpl : (backTo pos (starEach es X.env)).any (·.1) = false := by rfl) :
    PE X (.Call (.Name nm p) (e :: es) [] pos) (tCall sp [] E0 t) := by
  obtain ⟨f, fd, h1, h2, h3, h4⟩ := C.out
  exact pe_call h4 hr hg h1 h2 h3 .nil pass0 ha hdb he hpl

/-- the builtins that no def of the text hides -/
structure Bs (mg : Str → Option Value) : Prop where
  len : mg "len" = none
  int : mg "int" = none
  min : mg "min" = none
  max : mg "max" = none
  list : mg "list" = none
  sorted : mg "sorted" = none
  sum : mg "sum" = none
  range : mg "range" = none
  enumerate : mg "enumerate" = none
  zip : mg "zip" = none
  any : mg "any" = none
  isinstance : mg "isinstance" = none
  bool : mg "bool" = none
  reversed : mg "reversed" = none

/-- a def whose code object is known (its table of codes is used) -/
structure FunT (K : PySem.W.Frag) (x qual : Str) (st : Stmt) (f : Addr) (fd : FuncData) (c : Addr) : Prop where
  ex : ∃ (oc : Value) (od : Option Addr) (kV doc pm : Value) (an : Option Addr) (ct : Value) (osl : Array (Option Value)),
    fd = PySem.W.fnOf x qual (defArgs st) (defBody st) (defScope st) .none kV doc pm an (.ref c) ct ∧ K.lookup f = some ⟨oc, od, .func fd, osl⟩ ∧ PySem.W.codeIn K (.ref c) qual = true
  kp : PySem.W.keepIn K (.ref f) = true
theorem FunT.fn {K : PySem.W.Frag} {x qual : Str} {st : Stmt} {f c : Addr} {fd : FuncData} (F : FunT K x qual st f fd c) : Fun K x qual st f fd := by
  obtain ⟨oc, od, kV, doc, pm, an, ct, osl, h1, h2, h3⟩ := F.ex
  exact ⟨⟨oc, od, kV, doc, pm, an, .ref c, ct, osl, h1, h2, h3⟩, F.kp⟩
section
variable {P : Program} {w : World} {K : PySem.W.Frag} {mg : Str → Option Value} {base : Heap}
theorem FunT.ok {x qual : Str} {st : Stmt} {f c : Addr} {fd : FuncData} {N ps : List Str} {k : Nat} {sp : Sp} (F : FunT K x qual st f fd c) (S : FnScope N ps (defScope st)) (len : ∀ vs H Q E, sp vs H Q E → vs.length = ps.length)
    (hbody : ∀ (A : Around) (outer : List Env) (s : Shared) (H : Hp) (vs : List V) (Q : VK) (E : XK), Room k (A.deeper (envOfC qual (defScope st) s.heap.objs.size f (.ref c))) → sp vs H Q E →
      ∃ t, PSs (cxOf CX0 P w K mg base N qual (defScope st) f (.ref c) A outer s H E).nox (defBody st) t ∧ t { nx := fun _ H' => Q .non H', rt := Q } (start N vs) H) : FnOk P w K mg base CX0 (k + 1) f fd ps sp := by
  obtain ⟨oc, od, kV, doc, pm, an, ct, osl, rfl, lk, hcd⟩ := F.ex
  refine fn_of lk hcd S len fun A outer s H vs Q E hr hsp => ?_
  obtain ⟨t, h, q⟩ := hbody A outer s H vs Q E hr hsp
  exact ⟨t, h.nox, q⟩
theorem cal_of {nm : Str} {st : Stmt} {f : Addr} {fd : FuncData} {k : Nat} {ps : List Str} {sp : Sp} (F : Fun K nm nm st f fd) (g : mg nm = some (.ref f)) (b : Binds K fd ps []) (ok : FnOk P w K mg base CX0 k f fd ps sp) : Cal P w K mg base nm k ps sp :=
  ⟨f, fd, g, F.kp, b, ok⟩
end

/-! ### heaps -/
theorem ex_of_new {H H' : Hp} {p : Addr} {o : HO} (e : Ex H H') (h : H' p = none) : Ex H (upd H' p o) := e.trans (Ex.new h)
mutual
theorem Dp.ext {K : PySem.W.Frag} {H H' : Hp} (e : Ex H H') : ∀ (d : PyData) (v : V), Dp K H v d → Dp K H' v d
  | .none, _, h => by cases h; exact .non
  | .bool b, _, h => by cases h; exact .bl b
  | .int i, _, h => by cases h; exact .int i
  | .str x, _, h => by cases h; exact .str x
  | .list ds, _, h => by
    cases h with
    | lst h1 h2 => exact .lst (ex_l e h1) (DpAll.ext e ds _ h2)
  | .tuple ds, _, h => by
    cases h with
    | tup h1 h2 => exact .tup (ex_t e h1) (DpAll.ext e ds _ h2)
  | .dict _, _, h => by cases h
theorem DpAll.ext {K : PySem.W.Frag} {H H' : Hp} (e : Ex H H') : ∀ (ds : List PyData) (vs : List V), DpAll K H vs ds → DpAll K H' vs ds
  | [], _, h => by cases h; exact .nil
  | d :: ds, _, h => by
    cases h with
    | cons h1 h2 => exact .cons (Dp.ext e d _ h1) (DpAll.ext e ds _ h2)
end
theorem DpAll.app {K : PySem.W.Frag} {H : Hp} : ∀ {vs : List V} {ds : List PyData} {v : V} {d : PyData}, DpAll K H vs ds → Dp K H v d → DpAll K H (vs ++ [v]) (ds ++ [d])
  | [], _, _, _, h, h2 => by cases h; exact .cons h2 .nil
  | _ :: _, _, _, _, h, h2 => by
    cases h with
    | cons a b => exact .cons a (DpAll.app b h2)
theorem DpAll.len {K : PySem.W.Frag} {H : Hp} : ∀ {vs : List V} {ds : List PyData}, DpAll K H vs ds → vs.length = ds.length
  | [], _, h => by cases h; rfl
  | _ :: _, _, h => by
    cases h with
    | cons a b => exact congrArg (· + 1) (DpAll.len b)
theorem dpAll_ints {K : PySem.W.Frag} {H : Hp} : ∀ ns : List Int, DpAll K H (ns.map V.int) (ns.map PyData.int)
  | [] => .nil
  | n :: r => .cons (.int n) (dpAll_ints r)
theorem eqvAll_ints : ∀ xs ys : List Int, PyData.eqvAll (xs.map PyData.int) (ys.map PyData.int) = decide (xs = ys)
  | [], [] => by simp [PyData.eqvAll]
  | [], _ :: _ => by simp [PyData.eqvAll]
  | _ :: _, [] => by simp [PyData.eqvAll]
  | x :: xs, y :: ys => by
    simp only [List.map_cons, PyData.eqvAll, PyData.eqv, eqvAll_ints xs ys]
    by_cases h1 : x = y <;> by_cases h2 : xs = ys <;> simp [h1, h2]
theorem int_at {ns : List Int} {i : Nat} (h : i < ns.length) : (ns.map V.int)[i]? = some (.int (ns.getD i 0)) := by
  rw [List.getElem?_map, List.getElem?_eq_getElem h, List.getD_eq_getElem?_getD, List.getElem?_eq_getElem h]
  rfl
theorem atI_at {ns : List Int} {z : Int} {i : Nat} (e : z = (i : Int)) (h : i < ns.length) : atI (ns.map V.int) z = some (.int (ns.getD i 0)) := at_of e (int_at h)

/-! ### more readings, in short -/
section
variable {K : PySem.W.Frag} {σ : L2.St} {H H' : Hp} {ta tb te tx : TE} {t u : TT} {x y z v : V} {D : Ends} {tu tw tz : TS} {g : TG}
theorem rv_mod {i j : Int} (h : 0 < j) : RV (rI (fun _ j => 0 < j) fun i j => .int (i % j)) (.int i) (.int j) H (.int (i % j)) := rv_I h
theorem rv_div {i j : Int} (h : 0 < j) (h2 : j < 1073741824) : RV (rI CDiv fun i j => .int (i / j)) (.int i) (.int j) H (.int (i / j)) := rv_I ⟨h, h2⟩
theorem rv_mul {i j : Int} (h : -(2 ^ 64) < i ∧ i < 2 ^ 64) : RV (rI CMul fun i j => .int (i * j)) (.int i) (.int j) H (.int (i * j)) := rv_I (.inl h)
theorem rc_val {r : List V → Hp → VK → Prop} {vs : List V} (h : ∀ H1, Ex H H1 → ∀ Q : VK, Q z H1 → r vs H1 Q) : RC r vs H z := fun H1 e Q q => h H1 e Q (q H1 (Ex.refl H1))
theorem rc_int {i : Int} : RC (fun xs H Q => (∃ i, xs = [.int i] ∧ Q (.int i) H) ∨ ∃ k, xs = [.bl k] ∧ Q (.int (if k then 1 else 0)) H) [.int i] H (.int i) := rc_val fun _ _ _ q => .inl ⟨i, rfl, q⟩
theorem rc_len {a : Addr} {xs : List V} {r : List V → Hp → VK → Prop} (h : ∀ H1, Ex H H1 → ∀ Q : VK, Q (.int (xs.length : Int)) H1 → r [.ref a] H1 Q) : RC r [.ref a] H (.int (xs.length : Int)) := rc_val h
theorem ea1 (h : Ev ta σ H x) : EvA (tCons ta tNil) σ H [x] := ea_cons h ea_nil
theorem ea2 (h : Ev ta σ H x) (h2 : Ev tb σ H y) : EvA (tCons ta (tCons tb tNil)) σ H [x, y] := ea_cons h (ea1 h2)
theorem ea3 {tc : TE} (h : Ev ta σ H x) (h2 : Ev tb σ H y) (h3 : Ev tc σ H z) : EvA (tCons ta (tCons tb (tCons tc tNil))) σ H [x, y, z] := ea_cons h (ea2 h2 h3)
end
end KC
set_option Elab.async false
set_option linter.all false
set_option maxRecDepth 100000
set_option maxHeartbeats 4000000
namespace KC
open PySem PySem.Spec PyProof.Rows L2 GX Evl

/-- it gives data d -/
def EvD (K : PySem.W.Frag) (te : TE) (σ : L2.St) (H : Hp) (d : PyData) : Prop := ∀ H1, Ex H H1 → ∀ Q : VK, (∀ v H2, Ex H1 H2 → Dp K H2 v d → Q v H2) → te σ H1 Q
def EvDA (K : PySem.W.Frag) (ta : TA) (σ : L2.St) (H : Hp) (ds : List PyData) : Prop := ∀ H1, Ex H H1 → ∀ Q : List V → Hp → Prop, (∀ vs H2, Ex H1 H2 → DpAll K H2 vs ds → Q vs H2) → ta σ H1 Q
def RetD (K : PySem.W.Frag) (d : PyData) (H : Hp) (Q : VK) : Prop := ∀ v H2, Ex H H2 → Dp K H2 v d → Q v H2
def SpD (K : PySem.W.Frag) (sp : Sp) (vs : List V) (H : Hp) (d : PyData) : Prop := ∀ H1, Ex H H1 → ∀ Q : VK, (∀ v H2, Ex H1 H2 → Dp K H2 v d → Q v H2) → ∀ E : XK, sp vs H1 Q E
mutual
def noList : PyData → Bool
  | .list _ => false
  | .dict _ => false
  | .tuple ds => noListAll ds
  | _ => true
def noListAll : List PyData → Bool
  | [] => true
  | d :: r => noList d && noListAll r
end
theorem sqt_put {K : PySem.W.Frag} {H : Hp} {l a : Addr} {zs ys xs : List V} (h : SqT K H a xs) (hl : H l = some (.lst zs)) : SqT K (upd H l (.lst ys)) a xs := by
  rcases h with (h | ⟨o, h⟩) | h
  · exact .inl (.inl (by rw [upd_ne (fun e => by rw [e, hl] at h; cases h)]; exact h))
  · exact .inl (.inr ⟨o, by rw [upd_ne (fun e => by rw [e, hl] at h; cases h)]; exact h⟩)
  · exact .inr h
theorem sql_put {K : PySem.W.Frag} {H : Hp} {l a : Addr} {ys xs : List V} (h : SqL K H a xs) (hl : a ≠ l) : SqL K (upd H l (.lst ys)) a xs := by
  rcases h with (h | ⟨o, h⟩) | h
  · exact .inl (.inl (by rw [upd_ne hl]; exact h))
  · exact .inl (.inr ⟨o, by rw [upd_ne hl]; exact h⟩)
  · exact .inr h
mutual
theorem Dp.put {K : PySem.W.Frag} {H : Hp} {l : Addr} {zs ys : List V} (hl : H l = some (.lst zs)) : ∀ (d : PyData) (v : V), noList d = true → Dp K H v d → Dp K (upd H l (.lst ys)) v d
  | .none, _, _, h => by cases h; exact .non
  | .bool b, _, _, h => by cases h; exact .bl b
  | .int i, _, _, h => by cases h; exact .int i
  | .str x, _, _, h => by cases h; exact .str x
  | .list _, _, z, _ => by simp [noList] at z
  | .tuple ds, _, z, h => by
    cases h with
    | tup h1 h2 => exact .tup (sqt_put h1 hl) (DpAll.put hl ds _ (by simpa [noList] using z) h2)
  | .dict _, _, _, h => by cases h
theorem DpAll.put {K : PySem.W.Frag} {H : Hp} {l : Addr} {zs ys : List V} (hl : H l = some (.lst zs)) : ∀ (ds : List PyData) (vs : List V), noListAll ds = true → DpAll K H vs ds → DpAll K (upd H l (.lst ys)) vs ds
  | [], _, _, h => by cases h; exact .nil
  | d :: ds, _, z, h => by
    cases h with
    | cons h1 h2 =>
      simp only [noListAll, Bool.and_eq_true] at z
      exact .cons (Dp.put hl d _ z.1 h1) (DpAll.put hl ds _ z.2 h2)
end
theorem noListAll_map {α : Type} {f : α → PyData} (hf : ∀ a, noList (f a) = true) : ∀ xs : List α, noListAll (xs.map f) = true
  | [] => rfl
  | a :: r => by simp [noListAll, hf a, noListAll_map hf r]

section
variable {K : PySem.W.Frag} {σ : L2.St} {H H' : Hp} {ta tb te tx : TE} {t u : TT} {x y z v : V} {D : Ends} {tu tw tz : TS} {g : TG} {d d2 : PyData} {ds : List PyData}
theorem EvD.mono (e : Ex H H') (h : EvD K te σ H d) : EvD K te σ H' d := fun H1 a Q q => h H1 (e.trans a) Q q
theorem ed_int {i : Int} (h : Ev te σ H (.int i)) : EvD K te σ H (.int i) := fun H1 e Q q => h H1 e Q fun H2 e2 => q _ H2 e2 (.int i)
theorem ed_non (h : Ev te σ H .non) : EvD K te σ H .none := fun H1 e Q q => h H1 e Q fun H2 e2 => q _ H2 e2 .non
theorem ed_bl {b : Bool} (h : Ev te σ H (.bl b)) : EvD K te σ H (.bool b) := fun H1 e Q q => h H1 e Q fun H2 e2 => q _ H2 e2 (.bl b)
theorem ed_at (h : Ev te σ H v) (hd : Dp K H v d) : EvD K te σ H d := fun H1 e Q q => h H1 e Q fun H2 e2 => q _ H2 e2 (Dp.ext (e.trans e2) _ _ hd)
theorem eda_nil : EvDA K tNil σ H [] := fun H1 _ Q q => q [] H1 (Ex.refl H1) .nil
theorem eda_cons {tr : TA} (h : EvD K te σ H d) (hr : EvDA K tr σ H ds) : EvDA K (tCons te tr) σ H (d :: ds) := fun H1 e Q q =>
  h H1 e _ fun v H2 e2 hv => hr H2 (e.trans e2) _ fun vs H3 e3 hvs => q _ H3 (e2.trans e3) (.cons (Dp.ext e3 _ _ hv) hvs)
theorem ed_tup {ta : TA} (h : EvDA K ta σ H ds) (hl : ds.length ≤ 100000) : EvD K (tTup ta) σ H (.tuple ds) := fun H1 e Q q =>
  h H1 e _ fun vs H2 e2 hvs => ⟨sz_of (by rw [DpAll.len hvs]; exact hl), fun p hp => q _ _ (e2.trans (Ex.new hp)) (.tup (.inl (.inl upd_same)) (DpAll.ext (Ex.new hp) _ _ hvs))⟩
theorem ed_lst {ta : TA} (h : EvDA K ta σ H ds) (hl : ds.length ≤ 100000) : EvD K (tLst ta) σ H (.list ds) := fun H1 e Q q =>
  h H1 e _ fun vs H2 e2 hvs => ⟨sz_of (by rw [DpAll.len hvs]; exact hl), fun p hp => q _ _ (e2.trans (Ex.new hp)) (.lst (.inl (.inl upd_same)) (DpAll.ext (Ex.new hp) _ _ hvs))⟩
theorem ed_call {sp : Sp} {dvs vs : List V} {E : XK} {ta : TA} (h : EvA ta σ H vs) (hs : SpD K sp (vs ++ dvs) H d) : EvD K (tCall sp dvs E ta) σ H d := fun H1 e Q q =>
  h H1 e _ fun H2 e2 => hs H2 (e.trans e2) Q (fun v H3 e3 hv => q v H3 (e2.trans e3) hv) E
/-- a list of ints as data -/
theorem ed_listI {ns : List Int} (h : EvL te σ H (ns.map V.int)) : EvD K te σ H (.list (ns.map PyData.int)) := fun H1 e Q q =>
  h H1 e Q fun p H2 _ e2 hp => q _ H2 e2 (.lst (.inl (.inl hp)) (dpAll_ints ns))
theorem dp_listI {l : Addr} {ns : List Int} (h : SqL K H l (ns.map V.int)) : Dp K H (.ref l) (.list (ns.map PyData.int)) := .lst h (dpAll_ints ns)
theorem s_retD (h : EvD K te σ H d) (k : ∀ v H1, Ex H H1 → Dp K H1 v d → D.rt v H1) : tRet te D σ H := h H (Ex.refl H) _ k
theorem s_asgD {i : Nat} (h : EvD K te σ H d) (k : ∀ v H1, Ex H H1 → Dp K H1 v d → D.nx (σ.set i (some v)) H1) : tAsg te (gName i) D σ H := h H (Ex.refl H) _ k
theorem q_asgD {i : Nat} (h : EvD K te σ H d) (k : ∀ v H1, Ex H H1 → Dp K H1 v d → tz D (σ.set i (some v)) H1) : tSeq (tAsg te (gName i)) tz D σ H := s_asgD (D := { D with nx := tz D }) h k
/-- xs.append(data) -/
theorem s_appD {l : Addr} {xs : List V} (hl : H l = some (.lst xs)) (ha : Ev ta σ H (.ref l)) (h : EvD K te σ H d) (hz : xs.length < 100000) (k : ∀ v H1, Ex H H1 → Dp K H1 v d → D.nx σ (upd H1 l (.lst (xs ++ [v])))) :
    tDrop (tBM K "list" rAppend ta (tCons te tNil)) D σ H := ha H (Ex.refl H) _ fun H1 e1 =>
  ⟨Or.inl ⟨rfl, xs, sq_of (e1 l _ hl)⟩, h H1 e1 _ fun v H2 e2 hv => ⟨l, xs, v, rfl, rfl, e2 l _ (e1 l _ hl), sz_lt hz, k v H2 (e1.trans e2) hv⟩⟩
/-- data equal, not equal -/
theorem ev_eqD (ha : EvD K ta σ H d) (hb : EvD K tb σ H d2) (h1 : SeqAt.shaped d = true) (h2 : SeqAt.shaped d2 = true) : Ev (tOp (rEqD K) ta tb) σ H (.bl (PyData.eqv d d2)) := fun H1 e Q q =>
  ha H1 e _ fun v H2 e2 hv => hb H2 (e.trans e2) _ fun u H3 e3 hu => ⟨d, d2, Dp.ext e3 _ _ hv, hu, h1, h2, q H3 (e2.trans e3)⟩
theorem ev_neD (ha : EvD K ta σ H d) (hb : EvD K tb σ H d2) (h1 : SeqAt.shaped d = true) (h2 : SeqAt.shaped d2 = true) : Ev (tOp (rNeD K) ta tb) σ H (.bl (!PyData.eqv d d2)) := fun H1 e Q q =>
  ha H1 e _ fun v H2 e2 hv => hb H2 (e.trans e2) _ fun u H3 e3 hu => ⟨d, d2, Dp.ext e3 _ _ hv, hu, h1, h2, q H3 (e2.trans e3)⟩
theorem el_cat {xs ys : List V} {b : Addr} (ha : EvL ta σ H xs) (hb : Ev tb σ H (.ref b)) (h : H b = some (.lst ys)) (hz : xs.length + ys.length ≤ 100000) : EvL (tOp rCat ta tb) σ H (xs ++ ys) := fun H1 e Q q =>
  ha H1 e _ fun p H2 np e2 hp => hb H2 (e.trans e2) _ fun H3 e3 => ⟨p, b, xs, ys, rfl, rfl, e3 p _ hp, ((e.trans e2).trans e3) b _ h, sz_of hz, fun p2 hp2 => q p2 _ (fresh_back (e2.trans e3) hp2) ((e2.trans e3).trans (Ex.new hp2)) upd_same⟩
theorem el_cat2 {xs ys : List V} {a b : Addr} (ha : Ev ta σ H (.ref a)) (h0 : H a = some (.lst xs)) (hb : Ev tb σ H (.ref b)) (h : H b = some (.lst ys)) (hz : xs.length + ys.length ≤ 100000) : EvL (tOp rCat ta tb) σ H (xs ++ ys) := fun H1 e Q q =>
  ha H1 e _ fun H2 e2 => hb H2 (e.trans e2) _ fun H3 e3 => ⟨a, b, xs, ys, rfl, rfl, ((e.trans e2).trans e3) a _ h0, ((e.trans e2).trans e3) b _ h, sz_of hz, fun p2 hp2 => q p2 _ (fresh_back (e2.trans e3) hp2) ((e2.trans e3).trans (Ex.new hp2)) upd_same⟩
theorem el_rep {xs : List V} {i : Int} (ha : EvL ta σ H xs) (hb : Ev tb σ H (.int i)) (h1 : 0 ≤ i ∧ i ≤ 10000) (hz : xs.length ≤ 10) : EvL (tOp rRep ta tb) σ H (List.replicate i.toNat xs).flatten := fun H1 e Q q =>
  ha H1 e _ fun p H2 np e2 hp => hb H2 (e.trans e2) _ fun H3 e3 => ⟨p, i, xs, rfl, rfl, e3 p _ hp, by omega, by omega, sz_of (Nat.le_trans (Nat.mul_le_mul hz (show i.toNat ≤ 10000 by omega)) (by decide)), fun p2 hp2 => q p2 _ (fresh_back (e2.trans e3) hp2) ((e2.trans e3).trans (Ex.new hp2)) upd_same⟩
theorem el_rev {xs : List V} {a : Addr} (ha : Ev ta σ H (.ref a)) (h : SqL K H a xs) : EvL (tRevL K ta) σ H xs.reverse := fun H1 e Q q =>
  ha H1 e _ fun H2 e2 => ⟨a, xs, rfl, ex_l (e.trans e2) h, fun p hp => q p _ (fresh_back e2 hp) (e2.trans (Ex.new hp)) upd_same⟩
theorem el_if {b : Bool} {xs : List V} (h : EvT t σ H b) (h1 : b = true → EvL ta σ H xs) (h2 : b = false → EvL tb σ H xs) : EvL (tIf t ta tb) σ H xs := fun H1 e Q q => h H1 e _ fun H2 e2 => by
  cases b with
  | true => exact h1 rfl H2 (e.trans e2) Q fun p H3 hp e3 => q p H3 (fresh_back e2 hp) (e2.trans e3)
  | false => exact h2 rfl H2 (e.trans e2) Q fun p H3 hp e3 => q p H3 (fresh_back e2 hp) (e2.trans e3)
theorem rv_shl {i j : Int} (h : 0 ≤ j ∧ j ≤ 1000000 ∧ i.natAbs < 2 ^ 64) : RV (rI CPow fun i j => .int (i * 2 ^ j.toNat)) (.int i) (.int j) H (.int (i * 2 ^ j.toNat)) := rv_I h
theorem rv_shr {i j : Int} (h : 0 ≤ j) : RV (rI (fun _ j => 0 ≤ j) fun i j => .int (i / 2 ^ j.toNat)) (.int i) (.int j) H (.int (i / 2 ^ j.toNat)) := rv_I h
theorem rc_min {i j : Int} : RC (fun xs H Q => ∃ i j, xs = [.int i, .int j] ∧ Q (.int (if j < i then j else i)) H) [.int i, .int j] H (.int (if j < i then j else i)) := rc_val fun _ _ _ q => ⟨i, j, rfl, q⟩
theorem rc_max {i j : Int} : RC (fun xs H Q => ∃ i j, xs = [.int i, .int j] ∧ Q (.int (if j > i then j else i)) H) [.int i, .int j] H (.int (if j > i then j else i)) := rc_val fun _ _ _ q => ⟨i, j, rfl, q⟩
theorem ev_min {i j : Int} (h : Ev ta σ H (.int i)) (h2 : Ev tb σ H (.int j)) : Ev (tCB (fun xs H Q => ∃ i j, xs = [.int i, .int j] ∧ Q (.int (if j < i then j else i)) H) (tCons ta (tCons tb tNil))) σ H (.int (if j < i then j else i)) := ev_cb (ea2 h h2) rc_min
theorem ev_add {i j : Int} (h : Ev ta σ H (.int i)) (h2 : Ev tb σ H (.int j)) : Ev (tOp (rI0 fun i j => .int (i + j)) ta tb) σ H (.int (i + j)) := ev_op h h2 rv_I0
theorem ev_sub {i j : Int} (h : Ev ta σ H (.int i)) (h2 : Ev tb σ H (.int j)) : Ev (tOp (rI0 fun i j => .int (i - j)) ta tb) σ H (.int (i - j)) := ev_op h h2 rv_I0
theorem ev_lt {i j : Int} (h : Ev ta σ H (.int i)) (h2 : Ev tb σ H (.int j)) : Ev (tOp (rI0 fun i j => .bl (decide (i < j))) ta tb) σ H (.bl (decide (i < j))) := ev_op h h2 rv_I0
theorem ev_eq {i j : Int} (h : Ev ta σ H (.int i)) (h2 : Ev tb σ H (.int j)) : Ev (tOp rEq ta tb) σ H (.bl (decide (i = j))) := by
  have q := ev_op h h2 (rv_eq (x := .int i) (y := .int j) rfl)
  have e : decide ((V.int i) = V.int j) = decide (i = j) := by
    by_cases z : i = j
    · subst z; simp
    · rw [decide_eq_false z, decide_eq_false (fun q => z (V.int.inj q))]
  rw [e] at q
  exact q
theorem ev_ne {i j : Int} (h : Ev ta σ H (.int i)) (h2 : Ev tb σ H (.int j)) : Ev (tOp rNe ta tb) σ H (.bl (!decide (i = j))) := by
  have q := ev_op h h2 (rv_ne (x := .int i) (y := .int j) rfl)
  have e : decide ((V.int i) = V.int j) = decide (i = j) := by
    by_cases z : i = j
    · subst z; simp
    · rw [decide_eq_false z, decide_eq_false (fun q => z (V.int.inj q))]
  rw [e] at q
  exact q
end
end KC
set_option Elab.async false
set_option linter.all false
set_option maxRecDepth 100000
set_option maxHeartbeats 4000000
namespace KC
open PySem PySem.Spec PyProof.Rows L2 GX Evl
def capC (N N' : List Str) (cm : List (Option Nat)) (scope sc : Scope) : Bool :=
  decide (scope.kind = .function) && !scope.isCoroutine && (scope.names.all fun y => decide (y.2 ≠ .cell)) && decide (scope.names.lookup (".0" : Str) = some NameKind.local) &&
    (scope.names.all fun y => !decide (y.2 = .free) || (decide (sc.names.lookup y.1 = some .cell) || decide (sc.names.lookup y.1 = some .free))) && decide (cm.length = N'.length) &&
    ((cm.zip N').all fun p => match p.1 with | some j => (N[j]? == some p.2) && (scope.names.lookup p.2 == some .free) | none => true)
theorem capOk_by {N N' : List Str} {cm : List (Option Nat)} {scope sc : Scope} (h : capC N N' cm scope sc = true) : CapOk N N' cm scope sc := by
  unfold capC at h
  simp only [Bool.and_eq_true, List.all_eq_true, decide_eq_true_eq, Bool.not_eq_true', Bool.or_eq_true, decide_eq_false_iff_not] at h
  obtain ⟨⟨⟨⟨⟨⟨h1, h2⟩, h3⟩, h4⟩, h5⟩, h6⟩, h7⟩ := h
  refine ⟨h1, h2, h3, h4, fun y hy e => ?_, h6, ?_⟩
  · rcases h5 y hy with z | z
    · exact absurd e z
    · exact z
  · rw [List.all_eq_true]
    intro p hp
    have := h7 p hp
    revert this
    cases p.1 <;> simp
theorem ix_listK {X : Cx} {K : PySem.W.Frag} (h : X.K = K) : IxR X (rIxL K) := by
  subst h
  exact ix_list
theorem ix_tupK {X : Cx} {K : PySem.W.Frag} (h : X.K = K) : IxR X (rIxT K) := by
  subst h
  exact ix_tup
theorem canLayAll0_map {α : Type} {f : α → PyData} (h : ∀ a, (f a).canLay0 = true) : ∀ xs : List α, PyData.canLayAll0 (xs.map f) = true
  | [] => by simp [PyData.canLayAll0]
  | a :: r => by simp [PyData.canLayAll0, h a, canLayAll0_map h r]
theorem depthAll_map {α : Type} {f : α → PyData} {n : Nat} (h : ∀ a, (f a).depth ≤ n) : ∀ xs : List α, PyData.depthAll (xs.map f) ≤ n
  | [] => by simp [PyData.depthAll]
  | a :: r => by
    have h1 := depthAll_map h r
    have h2 := h a
    simp only [List.map_cons, PyData.depthAll]
    omega
theorem shaped_list {α : Type} {f : α → PyData} {n : Nat} (hn : n ≤ 60) (h1 : ∀ a, (f a).canLay0 = true) (h2 : ∀ a, (f a).depth ≤ n) (xs : List α) : SeqAt.shaped (.list (xs.map f)) = true := by
  have h3 := depthAll_map h2 xs
  have h4 : PyData.depth (.list (xs.map f)) ≤ 64 := by simp only [PyData.depth]; omega
  show (PyData.canLay0 (.list (xs.map f)) && decide (PyData.depth (.list (xs.map f)) ≤ 64)) = true
  rw [Bool.and_eq_true]
  exact ⟨by simp only [PyData.canLay0]; exact canLayAll0_map h1 xs, decide_eq_true h4⟩
theorem shaped_ints (ns : List Int) : SeqAt.shaped (.list (ns.map PyData.int)) = true := shaped_list (n := 1) (by decide) (fun a => by simp [PyData.canLay0]) (fun a => by simp [PyData.depth]) ns
theorem eqvAll_map {α : Type} {f : α → PyData} (h : ∀ a, PyData.eqv (f a) (f a) = true) : ∀ xs : List α, PyData.eqvAll (xs.map f) (xs.map f) = true
  | [] => by simp [PyData.eqvAll]
  | a :: r => by simp [PyData.eqvAll, h a, eqvAll_map h r]
theorem eqv_list {α : Type} {f : α → PyData} (h : ∀ a, PyData.eqv (f a) (f a) = true) (xs : List α) : PyData.eqv (.list (xs.map f)) (.list (xs.map f)) = true := by
  simp only [PyData.eqv]
  exact eqvAll_map h xs
theorem eqv_ints (xs : List Int) : PyData.eqv (.list (xs.map PyData.int)) (.list (xs.map PyData.int)) = true := eqv_list (fun a => by simp [PyData.eqv]) xs
section
variable {K : PySem.W.Frag} {σ : L2.St} {H H' : Hp} {ta tb tc te tx : TE}
theorem ev_sumL {ns : List Int} (h : EvL te σ H (ns.map V.int)) : Ev (tCB (rSum K) (tCons te tNil)) σ H (.int ns.sum) := fun H1 e Q q =>
  h H1 e _ fun p H2 _ e2 hp => ⟨p, ns, rfl, sq_of hp, q H2 e2⟩
theorem ev_sumLa {ns : List Int} {a : Addr} (h : Ev te σ H (.ref a)) (hs : SqL K H a (ns.map V.int)) : Ev (tCB (rSum K) (tCons te tNil)) σ H (.int ns.sum) := fun H1 e Q q =>
  h H1 e _ fun H2 e2 => ⟨a, ns, rfl, ex_l (e.trans e2) hs, q H2 e2⟩
theorem et_yes : EvT tYes σ H true := fun H1 _ _ q => q H1 (Ex.refl H1)
/-- list(xs) -/
theorem el_listOf {p : Addr} {xs : List V} (ha : Ev ta σ H (.ref p)) (h : SqL K H p xs) : EvL (tCB (fun xs H Q => ∃ p ys, xs = [.ref p] ∧ (SqL K H p ys ∨ SqT K H p ys) ∧ ∀ l, H l = none → Q (.ref l) (upd H l (.lst ys))) (tCons ta tNil)) σ H xs := fun H1 e Q q =>
  ha H1 e _ fun H2 e2 => ⟨p, xs, rfl, .inl (ex_l (e.trans e2) h), fun l hl => q l _ (fresh_back e2 hl) (e2.trans (Ex.new hl)) upd_same⟩
/-- a call whose third argument is a new tuple -/
theorem ed_call3U {sp : Sp} {E : XK} {x y : V} {xs : List V} {d : PyData} (h1 : Ev ta σ H x) (h2 : Ev tb σ H y) (h3 : EvU tc σ H xs) (hs : ∀ p H1, Ex H H1 → H1 p = some (.tup xs) → SpD K sp [x, y, .ref p] H1 d) : EvD K (tCall sp [] E (tCons ta (tCons tb (tCons tc tNil)))) σ H d := fun H1 e Q q =>
  h1 H1 e _ fun H2 e2 => h2 H2 (e.trans e2) _ fun H3 e3 => h3 H3 ((e.trans e2).trans e3) _ fun p H4 hp e4 h4 =>
    hs p H4 (((e.trans e2).trans e3).trans e4) h4 H4 (Ex.refl _) Q (fun v H5 e5 hv => q v H5 (((e2.trans e3).trans e4).trans e5) hv) E
end
end KC
set_option Elab.async false
set_option linter.all false
set_option maxRecDepth 100000
set_option maxHeartbeats 4000000
namespace KC
open PySem PySem.Spec PyProof.Rows L2 StX GX Evl
section
variable {K : PySem.W.Frag} {σ : L2.St} {H H' : Hp} {ta tb tc te tx tl : TE} {D : Ends} {tz : TS}
theorem tt_yes {A B : Hp → Prop} (h : A H) : tYes σ H (fun b H3 => if b = true then A H3 else B H3) := by
  show (if true = true then A H else B H)
  rw [if_pos rfl]
  exact h
/-- a < b < c -/
theorem ev_chain {r r2 : R2} {x y z : V} {b1 b2 : Bool} (h1 : Ev ta σ H x) (h2 : Ev tb σ H y) (h3 : RV r x y H (.bl b1)) (h4 : b1 = true → Ev tc σ H z) (h5 : b1 = true → RV r2 y z H (.bl b2)) : Ev (tChain r r2 ta tb tc) σ H (.bl (b1 && b2)) := fun H1 e Q q =>
  h1 H1 e _ fun H2 e2 => h2 H2 (e.trans e2) _ fun H3 e3 => h3 H3 ((e.trans e2).trans e3) _ fun H4 e4 => by
    have e14 := (e2.trans e3).trans e4
    refine ⟨b1, rfl, ?_⟩
    cases b1 with
    | false =>
      rw [if_neg Bool.false_ne_true]
      exact q H4 e14
    | true =>
      rw [if_pos rfl]
      exact h4 rfl H4 (e.trans e14) _ fun H5 e5 => h5 rfl H5 ((e.trans e14).trans e5) _ fun H6 e6 => q H6 ((e14.trans e5).trans e6)
/-- max([c, *xs]) where c is not below any -/
theorem ev_maxStar {c : Int} {l : Addr} {ls : List Int} (h : Ev ta σ H (.int c)) (h2 : Ev tb σ H (.ref l)) (hs : SqL K H l (ls.map V.int)) (hb : ∀ x ∈ ls, x ≤ c) (hz : ls.length ≤ 1000) :
    Ev (tCB (rMax K) (tCons (tLst (tCons ta (tStar K tb tNil))) tNil)) σ H (.int c) := fun H1 e Q q =>
  h H1 e _ fun H2 e2 => h2 H2 (e.trans e2) _ fun H3 e3 => by
    refine ⟨l, ls.map V.int, rfl, .inr (ex_l ((e.trans e2).trans e3) hs), sz_of ?_, fun p hp => ⟨p, c :: ls, rfl, sq_of ?_, Nat.succ_pos _, fun m hm hall => ?_⟩⟩
    · simp
      omega
    · rw [upd_same, List.append_nil]
      rfl
    · have h1 := hall c List.mem_cons_self
      have h3 : m ≤ c := by
        rcases List.mem_cons.mp hm with z | z
        · omega
        · exact hb m z
      have h4 : m = c := by omega
      subst h4
      exact q _ ((e2.trans e3).trans (Ex.new hp))
theorem max_of : ∀ ls : List Int, ls ≠ [] → ∃ m, m ∈ ls ∧ ∀ y ∈ ls, y ≤ m
  | [], h => absurd rfl h
  | [x], _ => ⟨x, List.mem_cons_self, fun y hy => by rw [List.mem_singleton.mp hy]; exact Int.le_refl _⟩
  | x :: y :: r, _ => by
    obtain ⟨m, h1, h2⟩ := max_of (y :: r) (by simp)
    by_cases e : m ≤ x
    · refine ⟨x, List.mem_cons_self, fun z hz => ?_⟩
      rcases List.mem_cons.mp hz with h | h
      · omega
      · have := h2 z h; omega
    · refine ⟨m, List.mem_cons_of_mem _ h1, fun z hz => ?_⟩
      rcases List.mem_cons.mp hz with h | h
      · omega
      · exact h2 z h
/-- max(xs) -/
theorem ev_maxL {l : Addr} {ls : List Int} {m : Int} (h : Ev ta σ H (.ref l)) (hs : SqL K H l (ls.map V.int)) (hm : m ∈ ls) (hall : ∀ y ∈ ls, y ≤ m) : Ev (tCB (rMax K) (tCons ta tNil)) σ H (.int m) := fun H1 e Q q =>
  h H1 e _ fun H2 e2 => ⟨l, ls, rfl, ex_l (e.trans e2) hs, List.length_pos_of_mem hm, fun n hn hal => by
    have h1 := hal m hm
    have h2 := hall n hn
    have : n = m := by omega
    subst this
    exact q H2 e2⟩
theorem sum_bd : ∀ (l : List Int) (B : Int), (∀ x ∈ l, 0 ≤ x ∧ x ≤ B) → 0 ≤ l.sum ∧ l.sum ≤ l.length * B
  | [], B, _ => by simp
  | x :: r, B, h => by
    have h1 := sum_bd r B fun y hy => h y (List.mem_cons_of_mem _ hy)
    have h2 := h x List.mem_cons_self
    have e : ((x :: r).length : Int) * B = r.length * B + B := by
      rw [List.length_cons, Int.natCast_add, Int.add_mul]
      simp
    rw [List.sum_cons, e]
    omega
/-- sum(f(x) for x in xs if b(x)) -/
theorem ev_sumLF {tt : TT} {Pt l : Addr} {cm : List (Option Nat)} {own : List Nat} {xs : List Int} (f : Int → Int) (b : Int → Bool) (h : Ev tl σ H (.ref l)) (hx : SqL K H l (xs.map V.int)) (hn : xs.length ≤ 1000) (tab : H Pt = some (TabX Pt))
    (hf : ∀ x ∈ xs, 0 ≤ f x ∧ f x ≤ 2 ^ 40) (hw : ∀ x, wipe ((captS cm σ).set 0 (some x)) own = captS cm σ) (ht : ∀ x ∈ xs, ∀ H1, Ex H H1 → EvT tt ((captS cm σ).set 0 (some (.int x))) H1 (b x))
    (he : ∀ x ∈ xs, b x = true → ∀ H1, Ex H H1 → Ev te ((captS cm σ).set 0 (some (.int x))) H1 (.int (f x))) :
    Ev (tSumG (tGx Pt (iList K tl) (gName 0) tt te cm own)) σ H (.int ((xs.filter b).map f).sum) := fun H1 e Q q =>
  h H1 e _ fun H3 e13 => by
    have e03 := e.trans e13
    have hxl : (xs.map V.int).length = xs.length := List.length_map _
    refine ⟨l, rfl, ⟨_, ex_l e03 hx⟩, e03 Pt _ tab, fun i m zs H' => m + i = xs.length ∧ Ex H3 H' ∧ zs = (((xs.take i).filter b).map f).map V.int, ⟨xs.length, by omega, Ex.refl _, rfl⟩, ?_⟩
    rintro i m zs H' ⟨hm, e4, rfl⟩
    have e04 := e03.trans e4
    by_cases hi : i < xs.length
    · right
      refine ⟨⟨_, _, ex_l e04 hx, int_at hi⟩, fun zs H5 => (m - 1) + (i + 1) = xs.length ∧ Ex H3 H5 ∧ zs = (((xs.take (i + 1)).filter b).map f).map V.int, fun zs H5 q => ⟨m - 1, by omega, q⟩, ?_⟩
      rintro v H5 ⟨rfl, hx1⟩
      have ex1 := (Option.some.inj ((int_at hi).symm.trans (hx1 _ (ex_l e04 hx)))).symm
      subst ex1
      have hxi : xs.getD i 0 = xs[i] := by rw [List.getD_eq_getElem?_getD, List.getElem?_eq_getElem hi] <;> rfl
      have hmem : xs.getD i 0 ∈ xs := by rw [hxi]; exact List.getElem_mem hi
      have htk : xs.take (i + 1) = xs.take i ++ [xs.getD i 0] := by rw [hxi]; exact (List.take_append_getElem hi).symm
      refine ⟨hw _, ht _ hmem _ e04 _ (Ex.refl _) _ fun H6 e6 => ?_⟩
      cases hb : b (xs.getD i 0) with
      | false =>
        rw [if_neg Bool.false_ne_true]
        refine ⟨by omega, e4.trans e6, ?_⟩
        rw [htk, List.filter_append, List.filter_cons, if_neg (by rw [hb]; decide), List.filter_nil, List.append_nil]
      | true =>
        rw [if_pos rfl]
        refine he _ hmem hb _ (e04.trans e6) _ (Ex.refl _) _ fun H7 e7 => ?_
        have hall : ∀ y ∈ ((xs.take i).filter b).map f, 0 ≤ y ∧ y ≤ 2 ^ 40 := fun y hy => by
          obtain ⟨x, hx2, rfl⟩ := List.mem_map.mp hy
          exact hf x (List.mem_of_mem_take (List.mem_filter.mp hx2).1)
        have hb1 := sum_bd _ _ hall
        have hb2 := hf _ hmem
        have hlen : (((xs.take i).filter b).map f).length ≤ i := by
          rw [List.length_map]
          exact Nat.le_trans (List.length_filter_le _ _) (by rw [List.length_take]; omega)
        have hB : ((((xs.take i).filter b).map f).length : Int) * 2 ^ 40 ≤ 1000 * 2 ^ 40 := by omega
        refine ⟨sz_lt (by rw [List.length_map]; omega), ⟨f _, rfl, ⟨by omega, by omega⟩, ?_⟩, by omega, (e4.trans e6).trans e7, ?_⟩
        · rw [vsum_ints]
          exact ⟨by omega, by omega⟩
        · rw [htk, List.filter_append, List.filter_cons, if_pos hb, List.filter_nil, List.map_append, List.map_append]
          rfl
    · left
      have hin : i = xs.length := by omega
      subst hin
      refine ⟨⟨_, ex_l e04 hx, by rw [hxl]; exact Nat.le_refl _⟩, ?_⟩
      show Q (.int (vsum _)) H'
      rw [vsum_ints, List.take_length]
      exact q H' (e13.trans e4)
/-- any(b(x) for x in xs) -/
theorem ev_anyL {Pt l : Addr} {cm : List (Option Nat)} {own : List Nat} {xs : List Int} (b : Int → Bool) (h : Ev tl σ H (.ref l)) (hx : SqL K H l (xs.map V.int)) (hn : xs.length ≤ 1000) (tab : H Pt = some (TabX Pt))
    (hw : ∀ x, wipe ((captS cm σ).set 0 (some x)) own = captS cm σ) (he : ∀ x ∈ xs, ∀ H1, Ex H H1 → Ev te ((captS cm σ).set 0 (some (.int x))) H1 (.bl (b x))) :
    Ev (tAnyG (tGx Pt (iList K tl) (gName 0) tYes te cm own)) σ H (.bl (xs.any b)) := fun H1 e Q q =>
  h H1 e _ fun H3 e13 => by
    have e03 := e.trans e13
    have hxl : (xs.map V.int).length = xs.length := List.length_map _
    refine ⟨l, rfl, ⟨_, ex_l e03 hx⟩, e03 Pt _ tab, fun i m zs H' => m + i = xs.length ∧ Ex H3 H' ∧ zs = (xs.take i).map fun x => V.bl (b x), ⟨xs.length, by omega, Ex.refl _, rfl⟩, ?_⟩
    rintro i m zs H' ⟨hm, e4, rfl⟩
    have e04 := e03.trans e4
    by_cases hi : i < xs.length
    · right
      refine ⟨⟨_, _, ex_l e04 hx, int_at hi⟩, fun zs H5 => (m - 1) + (i + 1) = xs.length ∧ Ex H3 H5 ∧ zs = (xs.take (i + 1)).map fun x => V.bl (b x), fun zs H5 q => ⟨m - 1, by omega, q⟩, ?_⟩
      rintro v H5 ⟨rfl, hx1⟩
      have ex1 := (Option.some.inj ((int_at hi).symm.trans (hx1 _ (ex_l e04 hx)))).symm
      subst ex1
      have hxi : xs.getD i 0 = xs[i] := by rw [List.getD_eq_getElem?_getD, List.getElem?_eq_getElem hi] <;> rfl
      have hmem : xs.getD i 0 ∈ xs := by rw [hxi]; exact List.getElem_mem hi
      have htk : xs.take (i + 1) = xs.take i ++ [xs.getD i 0] := by rw [hxi]; exact (List.take_append_getElem hi).symm
      refine ⟨hw _, tt_yes ?_⟩
      refine he _ hmem _ e04 _ (Ex.refl _) _ fun H7 e7 => ?_
      have hyes : b (xs.getD i 0) = true → xs.any b = true := fun z => List.any_eq_true.mpr ⟨_, hmem, z⟩
      refine ⟨sz_lt (by rw [List.length_map, List.length_take]; omega), ⟨_, rfl, fun z => ?_⟩, by omega, e4.trans e7, ?_⟩
      · have := hyes z
        rw [← this]
        exact q _ ((e13.trans e4).trans e7)
      · rw [htk, List.map_append]
        rfl
    · left
      have hin : i = xs.length := by omega
      subst hin
      refine ⟨⟨_, ex_l e04 hx, by rw [hxl]; exact Nat.le_refl _⟩, fun hno => ?_⟩
      rw [List.take_length] at hno
      have hr : xs.any b = false := by
        rw [List.any_eq_false]
        intro x hx2 hb
        exact hno _ (List.mem_map.mpr ⟨x, hx2, rfl⟩) (by rw [hb])
      rw [← hr]
      exact q H' (e13.trans e4)
end
end KC
set_option linter.all false
/-! The mathematics of ranks, rests and choices: plain lists. -/
namespace M03
def wAt (ws : List Int) (k : Nat) : Int := ws.getD k 0
/-- k comes before j -/
def Rk (ws : List Int) (k j : Nat) : Prop := wAt ws j < wAt ws k ∨ (wAt ws k = wAt ws j ∧ k < j)
structure IsRank (ws : List Int) (ord : List Nat) : Prop where
  pw : ord.Pairwise (Rk ws)
  mem : ∀ k, k ∈ ord ↔ k < ws.length
theorem Rk.irrefl {ws : List Int} {k : Nat} (h : Rk ws k k) : False := by
  unfold Rk at h; omega
theorem Rk.asymm {ws : List Int} {k j : Nat} (h : Rk ws k j) (h2 : Rk ws j k) : False := by
  unfold Rk at h h2; omega
theorem Rk.trans {ws : List Int} {k j i : Nat} (h : Rk ws k j) (h2 : Rk ws j i) : Rk ws k i := by
  unfold Rk at *; omega
theorem Rk.total {ws : List Int} {k j : Nat} (h : k ≠ j) : Rk ws k j ∨ Rk ws j k := by
  unfold Rk; omega
theorem uniq (ws : List Int) : ∀ (a b : List Nat), a.Pairwise (Rk ws) → b.Pairwise (Rk ws) → (∀ k, k ∈ a ↔ k ∈ b) → a = b
  | [], [], _, _, _ => rfl
  | [], y :: b, _, _, h => absurd ((h y).mpr List.mem_cons_self) (by simp)
  | x :: a, [], _, _, h => absurd ((h x).mp List.mem_cons_self) (by simp)
  | x :: a, y :: b, ha, hb, h => by
    have ha' := List.pairwise_cons.mp ha
    have hb' := List.pairwise_cons.mp hb
    have e : x = y := by
      rcases List.mem_cons.mp ((h x).mp List.mem_cons_self) with e | e
      · exact e
      · rcases List.mem_cons.mp ((h y).mpr List.mem_cons_self) with e2 | e2
        · exact e2.symm
        · exact (Rk.asymm (hb'.1 x e) (ha'.1 y e2)).elim
    subst e
    rw [uniq ws a b ha'.2 hb'.2 fun k => ?_]
    constructor
    · intro hk
      rcases List.mem_cons.mp ((h k).mp (List.mem_cons_of_mem _ hk)) with e | e
      · subst e; exact (Rk.irrefl (ha'.1 _ hk)).elim
      · exact e
    · intro hk
      rcases List.mem_cons.mp ((h k).mpr (List.mem_cons_of_mem _ hk)) with e | e
      · subst e; exact (Rk.irrefl (hb'.1 _ hk)).elim
      · exact e
theorem IsRank.uniq {ws : List Int} {a b : List Nat} (ha : IsRank ws a) (hb : IsRank ws b) : a = b := M03.uniq ws a b ha.pw hb.pw fun k => (ha.mem k).trans (hb.mem k).symm
def leK (ws : List Int) (k j : Nat) : Bool := decide (wAt ws j < wAt ws k ∨ (wAt ws k = wAt ws j ∧ k ≤ j))
def rankL (ws : List Int) : List Nat := (List.range ws.length).mergeSort (leK ws)
theorem rank_perm (ws : List Int) : (rankL ws).Perm (List.range ws.length) := List.mergeSort_perm _ _
theorem rank_is (ws : List Int) : IsRank ws (rankL ws) := by
  refine ⟨?_, fun k => ?_⟩
  · have h1 : (rankL ws).Pairwise fun a b => leK ws a b = true := List.pairwise_mergeSort (fun a b c => by unfold leK; simp only [decide_eq_true_eq]; omega) (fun a b => by unfold leK; simp only [Bool.or_eq_true, decide_eq_true_eq]; omega) _
    have h2 : (rankL ws).Nodup := (rank_perm ws).nodup_iff.mpr List.nodup_range
    have h3 := h1.and h2
    refine h3.imp fun {a b} h => ?_
    obtain ⟨h4, h5⟩ := h
    unfold leK at h4
    unfold Rk
    have h6 := of_decide_eq_true h4
    have h7 : a ≠ b := h5
    omega
  · rw [(rank_perm ws).mem_iff, List.mem_range]
theorem rank_len (ws : List Int) : (rankL ws).length = ws.length := by rw [(rank_perm ws).length_eq, List.length_range]
theorem rank_lt {ws : List Int} {k : Nat} (h : k ∈ rankL ws) : k < ws.length := ((rank_is ws).mem k).mp h
/-- choosing the best of the rest again and again -/
structure Part (ws : List Int) (ord : List Nat) : Prop where
  pw : ord.Pairwise (Rk ws)
  lt : ∀ k ∈ ord, k < ws.length
  before : ∀ k ∈ ord, ∀ j, j < ws.length → j ∉ ord → Rk ws k j
theorem Part.nil (ws : List Int) : Part ws [] := ⟨.nil, by simp, by simp⟩
/-- b: the best among the first i that ord has not -/
def Best (ws : List Int) (ord : List Nat) (i : Nat) : Option Nat → Prop
  | none => ∀ j, j < i → j ∈ ord
  | some b => b < i ∧ b ∉ ord ∧ ∀ j, j < i → j ∉ ord → j ≠ b → Rk ws b j
theorem Part.add {ws : List Int} {ord : List Nat} {b : Nat} (p : Part ws ord) (h : Best ws ord ws.length (some b)) : Part ws (ord ++ [b]) := by
  obtain ⟨h1, h2, h3⟩ := h
  refine ⟨List.pairwise_append.mpr ⟨p.pw, List.pairwise_singleton _ _, fun a ha c hc => ?_⟩, fun k hk => ?_, fun k hk j hj hn => ?_⟩
  · rw [List.mem_singleton.mp hc]
    exact p.before a ha b h1 h2
  · rcases List.mem_append.mp hk with h | h
    · exact p.lt k h
    · rw [List.mem_singleton.mp h]; exact h1
  · have hn1 : j ∉ ord := fun z => hn (List.mem_append_left _ z)
    have hn2 : j ≠ b := fun z => hn (by rw [z]; exact List.mem_append_right _ (List.mem_singleton.mpr rfl))
    rcases List.mem_append.mp hk with h | h
    · exact p.before k h j hj hn1
    · rw [List.mem_singleton.mp h]
      exact h3 j hj hn1 hn2
theorem nodup_sub : ∀ (l m : List Nat), l.Nodup → (∀ x ∈ l, x ∈ m) → l.length ≤ m.length
  | [], _, _, _ => Nat.zero_le _
  | x :: l, m, h, hs => by
    have h' := List.nodup_cons.mp h
    have hx := hs x List.mem_cons_self
    have h1 := nodup_sub l (m.erase x) h'.2 fun y hy => (List.mem_erase_of_ne (fun e => h'.1 (by rw [← e]; exact hy))).mpr (hs y (List.mem_cons_of_mem _ hy))
    rw [List.length_erase_of_mem hx] at h1
    have h2 := List.length_pos_of_mem hx
    simp only [List.length_cons]
    omega
theorem nodup_le {ord : List Nat} {n : Nat} (h : ord.Nodup) (hl : ∀ k ∈ ord, k < n) : ord.length ≤ n := by
  have h2 := nodup_sub ord (List.range n) h fun k hk => List.mem_range.mpr (hl k hk)
  rwa [List.length_range] at h2
theorem Part.nodup {ws : List Int} {ord : List Nat} (p : Part ws ord) : ord.Nodup := p.pw.imp fun {a b} h e => by subst e; exact h.irrefl
/-- a best one is there while ord is not whole -/
theorem Part.some {ws : List Int} {ord : List Nat} (p : Part ws ord) (h : ord.length < ws.length) {o : Option Nat} (hb : Best ws ord ws.length o) : ∃ b, o = .some b := by
  cases o with
  | some b => exact ⟨b, rfl⟩
  | none =>
    have h2 := nodup_sub (List.range ws.length) ord List.nodup_range fun k hk => hb k (List.mem_range.mp hk)
    rw [List.length_range] at h2
    omega
theorem Part.whole {ws : List Int} {ord : List Nat} (p : Part ws ord) (h : ord.length = ws.length) : ord = rankL ws := by
  refine IsRank.uniq ⟨p.pw, fun k => ⟨p.lt k, fun hk => ?_⟩⟩ (rank_is ws)
  by_cases hm : k ∈ ord
  · exact hm
  · exfalso
    have h2 : (k :: ord).Nodup := List.nodup_cons.mpr ⟨hm, p.nodup⟩
    have h3 := nodup_le h2 (n := ws.length) fun j hj => by
      rcases List.mem_cons.mp hj with e | e
      · rw [e]; exact hk
      · exact p.lt j e
    simp only [List.length_cons] at h3
    omega
theorem Best.zero (ws : List Int) (ord : List Nat) : Best ws ord 0 none := fun j h => absurd h (Nat.not_lt_zero j)
theorem Best.skip {ws : List Int} {ord : List Nat} {i : Nat} {o : Option Nat} (h : Best ws ord i o) (hi : i ∈ ord) : Best ws ord (i + 1) o := by
  cases o with
  | none =>
    intro j hj
    by_cases e : j = i
    · rw [e]; exact hi
    · exact h j (by omega)
  | some b =>
    obtain ⟨h1, h2, h3⟩ := h
    refine ⟨by omega, h2, fun j hj hn hb => ?_⟩
    by_cases e : j = i
    · rw [e] at hn; exact absurd hi hn
    · exact h3 j (by omega) hn hb
theorem Best.first {ws : List Int} {ord : List Nat} {i : Nat} (h : Best ws ord i none) (hi : i ∉ ord) : Best ws ord (i + 1) (some i) := by
  refine ⟨by omega, hi, fun j hj hn hb => ?_⟩
  exact absurd (h j (by omega)) hn
theorem Best.take {ws : List Int} {ord : List Nat} {i b : Nat} (h : Best ws ord i (some b)) (hi : i ∉ ord) (hw : wAt ws b < wAt ws i) : Best ws ord (i + 1) (some i) := by
  obtain ⟨h1, h2, h3⟩ := h
  refine ⟨by omega, hi, fun j hj hn hb => ?_⟩
  by_cases e : j = b
  · rw [e]; exact .inl hw
  · have := h3 j (by omega) hn e
    exact Rk.trans (.inl hw) this
theorem Best.keep {ws : List Int} {ord : List Nat} {i b : Nat} (h : Best ws ord i (some b)) (hw : ¬ wAt ws b < wAt ws i) : Best ws ord (i + 1) (some b) := by
  obtain ⟨h1, h2, h3⟩ := h
  refine ⟨by omega, h2, fun j hj hn hb => ?_⟩
  by_cases e : j = i
  · rw [e]; unfold Rk; omega
  · exact h3 j (by omega) hn hb

/-! ### rests -/
def restL : List Int → List Int
  | [] => [0]
  | v :: r => (v + (restL r).headD 0) :: restL r
theorem restL_len : ∀ vs : List Int, (restL vs).length = vs.length + 1
  | [] => rfl
  | v :: r => by simp [restL, restL_len r]
def ranked (ws : List Int) : List Int := (rankL ws).map (wAt ws)
theorem ranked_len (ws : List Int) : (ranked ws).length = ws.length := by simp [ranked, rank_len]
theorem ranked_perm (ws : List Int) : (ranked ws).Perm ws := by
  have h := (rank_perm ws).map (wAt ws)
  have e : (List.range ws.length).map (wAt ws) = ws := by
    refine List.ext_getElem (by simp) fun i h1 h2 => ?_
    simp [wAt, List.getD_eq_getElem?_getD, h2]
  rw [e] at h
  exact h
theorem ranked_desc (ws : List Int) : (ranked ws).Pairwise (fun a b => b ≤ a) := by
  unfold ranked
  refine List.pairwise_map.mpr ((rank_is ws).pw.imp fun {a b} h => ?_)
  unfold Rk at h
  omega
theorem sorted_uniq : ∀ (a b : List Int), a.Pairwise (· ≤ ·) → b.Pairwise (· ≤ ·) → a.Perm b → a = b
  | [], b, _, _, h => (List.Perm.nil_eq h)
  | x :: a, [], _, _, h => absurd h.length_eq (by simp)
  | x :: a, y :: b, ha, hb, h => by
    have ha' := List.pairwise_cons.mp ha
    have hb' := List.pairwise_cons.mp hb
    have e : x = y := by
      have h1 : x ≤ y := by
        rcases List.mem_cons.mp (h.mem_iff.mpr (List.mem_cons_self (a := y) (l := b))) with e | e
        · omega
        · exact ha'.1 y e
      have h2 : y ≤ x := by
        rcases List.mem_cons.mp (h.mem_iff.mp (List.mem_cons_self (a := x) (l := a))) with e | e
        · omega
        · exact hb'.1 x e
      omega
    subst e
    rw [sorted_uniq a b ha'.2 hb'.2 h.cons_inv]
theorem asc_is {ws asc : List Int} (h : asc.Perm ws) (hs : asc.Pairwise (· ≤ ·)) : asc = (ranked ws).reverse := by
  refine sorted_uniq _ _ hs (List.pairwise_reverse.mpr (ranked_desc ws)) ?_
  exact h.trans ((ranked_perm ws).symm.trans (List.reverse_perm _).symm)
/-- sums of the beginnings -/
def pre : List Int → List Int
  | [] => [0]
  | v :: r => 0 :: (pre r).map (v + ·)
def sumsA : List Int → List Int → List Int := fun acc vs => vs.foldl (fun acc v => acc ++ [acc.getLastD 0 + v]) acc
theorem restL_snoc : ∀ (vs : List Int), ∀ l, l = vs.reverse → ∀ v, restL (v :: vs) = (v + (restL vs).headD 0) :: restL vs := fun _ _ _ _ => rfl
/-! ### the choices -/
abbrev Nxt := Option (Int × Int × Int)
def chOne (sums : List Int) (limit depth m k : Int) (a : Nat) : Option (Int × Int × Nxt) :=
  let n : Int := (sums.length : Int) - 1
  let ok : Bool := if depth = limit then decide ((a : Int) = n - m) else (decide (0 < depth) || decide ((a : Int) = 0))
  if ok && decide (m + a = n) then some (a, 0, none)
  else if ok && decide ((a : Int) < k) then some (a, sums.getD (m + a).toNat 0, some (depth + 1, m + a, if n - m - a < 2 * (k - a) then n - m - a else 2 * (k - a)))
  else none
def chN (sums : List Int) (m k : Int) : Nat := ((if (sums.length : Int) - 1 - m < k then (sums.length : Int) - 1 - m else k) + 1).toNat
def chL (sums : List Int) (limit depth m k : Int) : List (Int × Int × Nxt) := (List.range (chN sums m k)).filterMap (chOne sums limit depth m k)
end M03
set_option linter.all false
/-! The mathematics of prefix codes: lengths, room, canonical words. -/
namespace M01
def lnA (ls : List Int) (k : Nat) : Nat := (ls.getD k 0).toNat
/-- lengths from 0 to 20 -/
def Lok (ls : List Int) : Prop := ∀ x ∈ ls, 0 ≤ x ∧ x ≤ 20
def share (x : Int) : Int := if x = 0 then 0 else (2 : Int) ^ (20 - x.toNat)
def kraft (ls : List Int) : Int := (ls.map share).sum
def roomL (ls : List Int) : Int := 1048576 - kraft ls
theorem kraft_app (a b : List Int) : kraft (a ++ b) = kraft a + kraft b := by
  unfold kraft
  rw [List.map_append, List.sum_append]
theorem pow_nn (n : Nat) : (0 : Int) ≤ 2 ^ n := Int.le_of_lt (Int.pow_pos (by decide))
theorem share_nn (x : Int) : 0 ≤ share x := by
  unfold share
  split
  · exact Int.le_refl _
  · exact pow_nn _
theorem pow20 : ∀ l : Nat, l ≤ 20 → (1048576 : Int) / (1 * 2 ^ l) = 2 ^ (20 - l) := fun l h => by
  have : ∀ l : Fin 21, (1048576 : Int) / (1 * 2 ^ l.val) = 2 ^ (20 - l.val) := by decide
  exact this ⟨l, by omega⟩
theorem share_bd (x : Int) : share x ≤ 1048576 := by
  unfold share
  split
  · decide
  · have : ∀ y : Fin 21, (2 : Int) ^ y.val ≤ 1048576 := by decide
    exact this ⟨20 - x.toNat, by omega⟩
theorem kraft_zero : ∀ ls : List Int, (∀ x ∈ ls, x = 0) → kraft ls = 0
  | [], _ => rfl
  | x :: r, h => by
    have h1 := kraft_zero r fun y hy => h y (List.mem_cons_of_mem _ hy)
    have h2 := h x List.mem_cons_self
    subst h2
    show share 0 + kraft r = 0
    rw [h1]
    rfl
/-! ### the order: by length, then by symbol -/
def Lx (ls : List Int) (k j : Nat) : Prop := lnA ls k < lnA ls j ∨ (lnA ls k = lnA ls j ∧ k < j)
theorem Lx.irrefl {ls : List Int} {k : Nat} (h : Lx ls k k) : False := by
  unfold Lx at h; omega
theorem Lx.asymm {ls : List Int} {k j : Nat} (h : Lx ls k j) (h2 : Lx ls j k) : False := by
  unfold Lx at h h2; omega
theorem uniq (ls : List Int) : ∀ (a b : List Nat), a.Pairwise (Lx ls) → b.Pairwise (Lx ls) → (∀ k, k ∈ a ↔ k ∈ b) → a = b
  | [], [], _, _, _ => rfl
  | [], y :: b, _, _, h => absurd ((h y).mpr List.mem_cons_self) (by simp)
  | x :: a, [], _, _, h => absurd ((h x).mp List.mem_cons_self) (by simp)
  | x :: a, y :: b, ha, hb, h => by
    have ha' := List.pairwise_cons.mp ha
    have hb' := List.pairwise_cons.mp hb
    have e : x = y := by
      rcases List.mem_cons.mp ((h x).mp List.mem_cons_self) with e | e
      · exact e
      · rcases List.mem_cons.mp ((h y).mpr List.mem_cons_self) with e2 | e2
        · exact e2.symm
        · exact (Lx.asymm (hb'.1 x e) (ha'.1 y e2)).elim
    subst e
    rw [uniq ls a b ha'.2 hb'.2 fun k => ?_]
    constructor
    · intro hk
      rcases List.mem_cons.mp ((h k).mp (List.mem_cons_of_mem _ hk)) with e | e
      · subst e; exact (Lx.irrefl (ha'.1 _ hk)).elim
      · exact e
    · intro hk
      rcases List.mem_cons.mp ((h k).mpr (List.mem_cons_of_mem _ hk)) with e | e
      · subst e; exact (Lx.irrefl (hb'.1 _ hk)).elim
      · exact e
structure IsOrd (ls : List Int) (o : List Nat) : Prop where
  pw : o.Pairwise (Lx ls)
  mem : ∀ k, k ∈ o ↔ k < ls.length ∧ 0 < lnA ls k
/-- the order as far as (L, k) -/
structure Proc (ls : List Int) (L k : Nat) (o : List Nat) : Prop where
  pw : o.Pairwise (Lx ls)
  mem : ∀ s, s ∈ o ↔ s < ls.length ∧ 0 < lnA ls s ∧ (lnA ls s < L ∨ (lnA ls s = L ∧ s < k))
theorem Proc.zero (ls : List Int) : Proc ls 1 0 [] := ⟨.nil, fun s => by simp; omega⟩
theorem Proc.skip {ls : List Int} {L k : Nat} {o : List Nat} (h : Proc ls L k o) (e : lnA ls k ≠ L) : Proc ls L (k + 1) o := ⟨h.pw, fun s => by
  rw [h.mem]
  constructor
  · rintro ⟨a, b, c⟩
    exact ⟨a, b, by omega⟩
  · rintro ⟨a, b, c⟩
    refine ⟨a, b, ?_⟩
    rcases c with c | ⟨c, d⟩
    · exact .inl c
    · by_cases z : s = k
      · subst z; exact absurd c e
      · exact .inr ⟨c, by omega⟩⟩
theorem Proc.add {ls : List Int} {L k : Nat} {o : List Nat} (h : Proc ls L k o) (e : lnA ls k = L) (hL : 0 < L) (hk : k < ls.length) : Proc ls L (k + 1) (o ++ [k]) ∧ k ∉ o := by
  have hn : k ∉ o := fun z => by have := (h.mem k).mp z; omega
  refine ⟨⟨List.pairwise_append.mpr ⟨h.pw, List.pairwise_singleton _ _, fun a ha b hb => ?_⟩, fun s => ?_⟩, hn⟩
  · rw [List.mem_singleton.mp hb]
    have := (h.mem a).mp ha
    unfold Lx
    omega
  · rw [List.mem_append, h.mem, List.mem_singleton]
    constructor
    · rintro (⟨a, b, c⟩ | rfl)
      · exact ⟨a, b, by omega⟩
      · exact ⟨hk, by omega, by omega⟩
    · rintro ⟨a, b, c⟩
      by_cases z : s = k
      · exact .inr z
      · exact .inl ⟨a, b, by omega⟩
theorem Proc.next {ls : List Int} {L : Nat} {o : List Nat} (h : Proc ls L ls.length o) : Proc ls (L + 1) 0 o := ⟨h.pw, fun s => by
  rw [h.mem]
  constructor
  · rintro ⟨a, b, c⟩
    exact ⟨a, b, by omega⟩
  · rintro ⟨a, b, c⟩
    exact ⟨a, b, by omega⟩⟩
theorem ln_le {ls : List Int} (h : Lok ls) (k : Nat) : lnA ls k ≤ 20 := by
  unfold lnA
  by_cases hk : k < ls.length
  · have := h _ (List.getElem_mem hk)
    rw [List.getD_eq_getElem?_getD, List.getElem?_eq_getElem hk]
    show (ls[k]).toNat ≤ 20
    omega
  · rw [List.getD_eq_getElem?_getD, List.getElem?_eq_none (by omega)]
    decide
theorem Proc.whole {ls : List Int} {o : List Nat} (hl : Lok ls) (h : Proc ls 21 0 o) : IsOrd ls o := ⟨h.pw, fun s => by
  rw [h.mem]
  have := ln_le hl s
  constructor
  · rintro ⟨a, b, c⟩
    exact ⟨a, b⟩
  · rintro ⟨a, b⟩
    exact ⟨a, b, by omega⟩⟩
theorem IsOrd.uniq {ls : List Int} {a b : List Nat} (ha : IsOrd ls a) (hb : IsOrd ls b) : a = b := M01.uniq ls a b ha.pw hb.pw fun k => (ha.mem k).trans (hb.mem k).symm
/-! ### words -/
def bitsL (x l : Nat) : List Int := (List.range l).map fun j => ((x / 2 ^ (l - 1 - j) % 2 : Nat) : Int)
theorem bits_len (x l : Nat) : (bitsL x l).length = l := by simp [bitsL]
def xs (ls : List Int) (o : List Nat) : Nat := (o.map fun s => 2 ^ (20 - lnA ls s)).sum
theorem xs_snoc (ls : List Int) (o : List Nat) (s : Nat) : xs ls (o ++ [s]) = xs ls o + 2 ^ (20 - lnA ls s) := by
  unfold xs
  rw [List.map_append, List.sum_append]
  simp
def wd (ls : List Int) (o : List Nat) (s : Nat) : List Int := bitsL (xs ls o / 2 ^ (20 - lnA ls s)) (lnA ls s)
def upTo (o : List Nat) (k : Nat) : List Nat := o.takeWhile fun x => decide (x ≠ k)
theorem upTo_app {o : List Nat} {k s : Nat} (h : k ∈ o) : upTo (o ++ [s]) k = upTo o k := by
  unfold upTo
  induction o with
  | nil => simp at h
  | cons x r ih =>
    by_cases e : x = k
    · subst e
      simp
    · have h' : k ∈ r := by
        rcases List.mem_cons.mp h with z | z
        · exact absurd z.symm e
        · exact z
      simp only [List.cons_append]
      rw [List.takeWhile_cons_of_pos (by simpa using e), List.takeWhile_cons_of_pos (by simpa using e), ih h']
theorem upTo_new {o : List Nat} {s : Nat} (h : s ∉ o) : upTo (o ++ [s]) s = o := by
  unfold upTo
  induction o with
  | nil => simp
  | cons x r ih =>
    have hx : x ≠ s := fun z => h (by rw [z]; exact List.mem_cons_self)
    simp only [List.cons_append]
    rw [List.takeWhile_cons_of_pos (by simpa using hx), ih fun z => h (List.mem_cons_of_mem _ z)]
def ent (ls : List Int) (o : List Nat) (k : Nat) : Option (List Int) := if k ∈ o then some (wd ls (upTo o k) k) else none
def tabOf (ls : List Int) (o : List Nat) : List (Option (List Int)) := (List.range ls.length).map (ent ls o)
theorem tab_len (ls : List Int) (o : List Nat) : (tabOf ls o).length = ls.length := by simp [tabOf]
theorem tab_at {ls : List Int} {o : List Nat} {k : Nat} (h : k < ls.length) : (tabOf ls o)[k]? = some (ent ls o k) := by
  unfold tabOf
  rw [List.getElem?_map, List.getElem?_range h]
  rfl
theorem tab_nil (ls : List Int) : tabOf ls [] = List.replicate ls.length none := by
  refine List.ext_getElem? fun k => ?_
  by_cases h : k < ls.length
  · rw [tab_at h, List.getElem?_replicate, if_pos h]
    rfl
  · rw [List.getElem?_eq_none (by rw [tab_len]; omega), List.getElem?_eq_none (by rw [List.length_replicate]; omega)]
theorem ent_add {ls : List Int} {o : List Nat} {s k : Nat} (hs : s ∉ o) : ent ls (o ++ [s]) k = if k = s then some (wd ls o s) else ent ls o k := by
  unfold ent
  by_cases e : k = s
  · subst e
    rw [if_pos (List.mem_append_right _ (List.mem_singleton.mpr rfl)), if_pos rfl, upTo_new hs]
  · rw [if_neg e]
    by_cases h : k ∈ o
    · rw [if_pos (List.mem_append_left _ h), if_pos h, upTo_app h]
    · rw [if_neg fun z => ?_, if_neg h]
      rcases List.mem_append.mp z with z | z
      · exact h z
      · exact e (List.mem_singleton.mp z)
/-! ### no word begins another one -/
theorem nodup_sum (f : Nat → Nat) : ∀ (l m : List Nat), l.Nodup → (∀ x ∈ l, x ∈ m) → (l.map f).sum ≤ (m.map f).sum
  | [], _, _, _ => Nat.zero_le _
  | x :: l, m, h, hs => by
    have h' := List.nodup_cons.mp h
    have hx := hs x List.mem_cons_self
    have h1 := nodup_sum f l (m.erase x) h'.2 fun y hy => (List.mem_erase_of_ne (fun e => h'.1 (by rw [← e]; exact hy))).mpr (hs y (List.mem_cons_of_mem _ hy))
    have h2 := ((List.perm_cons_erase hx).map f).sum_nat
    rw [h2]
    simp only [List.map_cons, List.sum_cons]
    omega
theorem IsOrd.nodup {ls : List Int} {o : List Nat} (h : IsOrd ls o) : o.Nodup := h.pw.imp fun {a b} h e => by subst e; exact h.irrefl
theorem kraft_sum : ∀ ls : List Int, (∀ x ∈ ls, 0 ≤ x) → (((List.range ls.length).map fun k => if lnA ls k = 0 then 0 else 2 ^ (20 - lnA ls k)).sum : Nat) = kraft ls
  | [], _ => rfl
  | x :: r, h => by
    have ih := kraft_sum r fun y hy => h y (List.mem_cons_of_mem _ hy)
    have hx := h x List.mem_cons_self
    rw [List.length_cons, List.range_succ_eq_map, List.map_cons, List.map_map, List.sum_cons]
    have e : (fun k => if lnA (x :: r) k = 0 then 0 else 2 ^ (20 - lnA (x :: r) k)) ∘ Nat.succ = fun k => if lnA r k = 0 then 0 else 2 ^ (20 - lnA r k) := by
      funext k
      rfl
    rw [e, Int.natCast_add, ih]
    show _ = share x + kraft r
    congr 1
    show (((if x.toNat = 0 then 0 else 2 ^ (20 - x.toNat)) : Nat) : Int) = share x
    unfold share
    by_cases z : x = 0
    · subst z; rfl
    · rw [if_neg (by omega), if_neg z]
      simp
theorem xs_le {ls : List Int} {o : List Nat} (hl : Lok ls) (h : IsOrd ls o) : (xs ls o : Int) ≤ kraft ls := by
  rw [← kraft_sum ls fun x hx => (hl x hx).1]
  have h1 := nodup_sum (fun k => if lnA ls k = 0 then 0 else 2 ^ (20 - lnA ls k)) o (List.range ls.length) h.nodup fun x hx => List.mem_range.mpr ((h.mem x).mp hx).1
  have h2 : (o.map fun k => if lnA ls k = 0 then 0 else 2 ^ (20 - lnA ls k)) = o.map fun s => 2 ^ (20 - lnA ls s) := by
    refine List.map_congr_left fun k hk => ?_
    have := ((h.mem k).mp hk).2
    rw [if_neg (by omega)]
  rw [h2] at h1
  unfold xs
  exact_mod_cast h1
theorem bits_mod (x y : Nat) : ∀ l, (∀ i, i < l → x / 2 ^ i % 2 = y / 2 ^ i % 2) → x % 2 ^ l = y % 2 ^ l
  | 0, _ => by rw [Nat.pow_zero, Nat.mod_one, Nat.mod_one]
  | l + 1, h => by
    rw [Nat.pow_succ, Nat.mod_mul, Nat.mod_mul, bits_mod x y l fun i hi => h i (by omega), h l (by omega)]
theorem bits_inj {x y l : Nat} (hx : x < 2 ^ l) (hy : y < 2 ^ l) (h : bitsL x l = bitsL y l) : x = y := by
  have h1 := bits_mod x y l fun i hi => by
    have h2 := congrArg (fun z => z[l - 1 - i]?) h
    have h3 : l - 1 - (l - 1 - i) = i := by omega
    simp only [bitsL, List.getElem?_map, List.getElem?_range (show l - 1 - i < l by omega), Option.map_some, h3, Option.some.injEq] at h2
    exact_mod_cast h2
  rwa [Nat.mod_eq_of_lt hx, Nat.mod_eq_of_lt hy] at h1
theorem bits_take {x l m : Nat} (h : m ≤ l) : (bitsL x l).take m = bitsL (x / 2 ^ (l - m)) m := by
  refine List.ext_getElem? fun j => ?_
  by_cases hj : j < m
  · rw [List.getElem?_take_of_lt hj]
    simp only [bitsL, List.getElem?_map, List.getElem?_range (show j < l by omega), List.getElem?_range hj, Option.map_some, Nat.div_div_eq_div_mul, ← Nat.pow_add]
    have : l - m + (m - 1 - j) = l - 1 - j := by omega
    rw [this]
  · rw [List.getElem?_eq_none (by rw [List.length_take, bits_len]; omega), List.getElem?_eq_none (by rw [bits_len]; omega)]
/-- where a symbol stands in the order -/
theorem split_at {o : List Nat} {k : Nat} (h : k ∈ o) : ∃ r, o = upTo o k ++ k :: r := by
  unfold upTo
  induction o with
  | nil => simp at h
  | cons x t ih =>
    by_cases e : x = k
    · subst e
      exact ⟨t, by simp⟩
    · have h' : k ∈ t := by
        rcases List.mem_cons.mp h with z | z
        · exact absurd z.symm e
        · exact z
      obtain ⟨r, hr⟩ := ih h'
      refine ⟨r, ?_⟩
      rw [List.takeWhile_cons_of_pos (by simpa using e), List.cons_append, ← hr]
theorem xs_app (ls : List Int) (a b : List Nat) : xs ls (a ++ b) = xs ls a + xs ls b := by
  unfold xs
  rw [List.map_append, List.sum_append]
theorem upTo_mem {o : List Nat} {k x : Nat} (h : x ∈ upTo o k) : x ∈ o := (List.takeWhile_sublist _).subset h
theorem pos_lt {ls : List Int} {o : List Nat} (hl : Lok ls) (h : IsOrd ls o) (hk : kraft ls ≤ 1048576) {k : Nat} (hm : k ∈ o) : xs ls (upTo o k) + 2 ^ (20 - lnA ls k) ≤ 2 ^ 20 := by
  obtain ⟨r, e⟩ := split_at hm
  have h1 := xs_le hl h
  have h2 : xs ls o = xs ls (upTo o k) + (2 ^ (20 - lnA ls k) + xs ls r) := by
    rw (occs := .pos [1]) [e]
    rw [xs_app]
    simp [xs]
  have h3 : ((xs ls o : Nat) : Int) ≤ 1048576 := by omega
  have h4 : xs ls o ≤ 1048576 := by omega
  have h5 : (2 : Nat) ^ 20 = 1048576 := by decide
  omega
theorem before {ls : List Int} {o : List Nat} (h : IsOrd ls o) {a b : Nat} (ha : a ∈ o) (hb : b ∈ o) (hab : Lx ls a b) : xs ls (upTo o a) + 2 ^ (20 - lnA ls a) ≤ xs ls (upTo o b) := by
  obtain ⟨r, e⟩ := split_at hb
  have ham : a ∈ upTo o b := by
    have h1 : a ∈ upTo o b ++ b :: r := by rw [← e]; exact ha
    rcases List.mem_append.mp h1 with z | z
    · exact z
    · exfalso
      rcases List.mem_cons.mp z with z | z
      · subst z; exact hab.irrefl
      · have h2 := h.pw
        rw [e] at h2
        have h3 := (List.pairwise_cons.mp (List.pairwise_append.mp h2).2.1).1 a z
        exact hab.asymm h3
  obtain ⟨r2, e2⟩ := split_at ham
  have h5 : upTo (upTo o b) a = upTo o a := by
    rw (occs := .pos [2]) [e]
    have : ∀ (t u : List Nat), a ∈ t → upTo (t ++ u) a = upTo t a := fun t u ht => by
      clear e2 ham e h ha hb hab
      unfold upTo
      induction t with
      | nil => simp at ht
      | cons x t ih =>
        by_cases q : x = a
        · subst q; simp
        · have h' : a ∈ t := by
            rcases List.mem_cons.mp ht with z | z
            · exact absurd z.symm q
            · exact z
          simp only [List.cons_append]
          rw [List.takeWhile_cons_of_pos (by simpa using q), List.takeWhile_cons_of_pos (by simpa using q), ih h']
    exact (this _ _ ham).symm
  rw [e2, h5, xs_app]
  have : xs ls (a :: r2) = 2 ^ (20 - lnA ls a) + xs ls r2 := by simp [xs]
  omega
theorem Lx.total {ls : List Int} {k j : Nat} (h : k ≠ j) : Lx ls k j ∨ Lx ls j k := by
  unfold Lx; omega
theorem clash {ls : List Int} {o : List Nat} (hl : Lok ls) (h : IsOrd ls o) (hk : kraft ls ≤ 1048576) {a b : Nat} (ha : a ∈ o) (hb : b ∈ o) (hab : Lx ls a b) (hle : lnA ls a ≤ lnA ls b) : (wd ls (upTo o b) b).take (lnA ls a) ≠ wd ls (upTo o a) a := by
  intro e
  have l1 := ln_le hl a
  have l2 := ln_le hl b
  unfold wd at e
  rw [bits_take hle, Nat.div_div_eq_div_mul, ← Nat.pow_add] at e
  have e1 : 20 - lnA ls b + (lnA ls b - lnA ls a) = 20 - lnA ls a := by omega
  rw [e1] at e
  have p1 := pos_lt hl h hk ha
  have p2 := pos_lt hl h hk hb
  have b1 := before h ha hb hab
  have hp : 0 < 2 ^ (20 - lnA ls a) := Nat.pow_pos (by decide)
  have hp2 : 0 < 2 ^ (20 - lnA ls b) := Nat.pow_pos (by decide)
  have hm : (2 : Nat) ^ 20 = 2 ^ lnA ls a * 2 ^ (20 - lnA ls a) := by rw [← Nat.pow_add]; congr 1; omega
  have q1 : xs ls (upTo o b) / 2 ^ (20 - lnA ls a) < 2 ^ lnA ls a := (Nat.div_lt_iff_lt_mul hp).mpr (by omega)
  have q2 : xs ls (upTo o a) / 2 ^ (20 - lnA ls a) < 2 ^ lnA ls a := (Nat.div_lt_iff_lt_mul hp).mpr (by omega)
  have e2 := bits_inj q1 q2 e
  have q3 : (xs ls (upTo o a) + 2 ^ (20 - lnA ls a)) / 2 ^ (20 - lnA ls a) ≤ xs ls (upTo o b) / 2 ^ (20 - lnA ls a) := Nat.div_le_div_right b1
  rw [Nat.add_div_right _ hp] at q3
  omega
/-- no word is the beginning of another one -/
theorem free {ls : List Int} {o : List Nat} (hl : Lok ls) (h : IsOrd ls o) (hk : kraft ls ≤ 1048576) {a b : Nat} (ha : a ∈ o) (hb : b ∈ o) (hab : a ≠ b) : (wd ls (upTo o b) b).take (lnA ls a) ≠ wd ls (upTo o a) a := by
  rcases Lx.total (ls := ls) hab with z | z
  · exact clash hl h hk ha hb z (by unfold Lx at z; omega)
  · intro e
    have hle : lnA ls b ≤ lnA ls a := by unfold Lx at z; omega
    have h1 : (wd ls (upTo o b) b).length = lnA ls b := bits_len _ _
    have h2 : (wd ls (upTo o a) a).length = lnA ls a := bits_len _ _
    have h3 := congrArg List.length e
    rw [List.length_take, h1, h2] at h3
    have h4 : lnA ls a = lnA ls b := by omega
    have h5 := clash hl h hk hb ha z hle
    apply h5
    rw [← h4, List.take_of_length_le (by rw [h2]; exact Nat.le_refl _), ← e, h4, List.take_of_length_le (by rw [h1]; exact Nat.le_refl _)]
end M01
set_option Elab.async false
set_option linter.all false
set_option maxRecDepth 100000
set_option maxHeartbeats 4000000
namespace K02
open PySem PySem.Spec PyProof.Rows L2 StX GX KC Evl M01
def topS (i : Nat) : Stmt := PySem.Challenge.pw_kraftroom_k02_symbols_read_and_written.main.body.getD i (.Pass ⟨0, 0, 0, 0⟩)
abbrev s_KraftroomError_init : Stmt := inClass (topS 1) 0
theorem sc_KraftroomError_init : FnScope ["self", "place"] ["self", "place"] (defScope s_KraftroomError_init) := ⟨rfl, rfl, rfl, by decide +kernel, rfl, by decide +kernel, by decide +kernel⟩
abbrev s_field_bits : Stmt := topS 5
theorem sc_field_bits : FnScope ["number", "width", "at"] ["number", "width"] (defScope s_field_bits) := ⟨rfl, rfl, rfl, by decide +kernel, rfl, by decide +kernel, by decide +kernel⟩
abbrev s_words : Stmt := topS 8
theorem sc_words : FnScope ["lengths", "found", "number", "depth", "order", "length", "symbol"] ["lengths"] (defScope s_words) := ⟨rfl, rfl, rfl, by decide +kernel, rfl, by decide +kernel, by decide +kernel⟩
abbrev s_write_symbols : Stmt := topS 9
theorem sc_write_symbols : FnScope ["lengths", "message", "table", "symbol", "bit"] ["lengths", "message"] (defScope s_write_symbols) := ⟨rfl, rfl, rfl, by decide +kernel, rfl, by decide +kernel, by decide +kernel⟩
abbrev s_word_tree : Stmt := topS 10
theorem sc_word_tree : FnScope ["lengths", "tree", "symbol", "word", "node", "bit"] ["lengths"] (defScope s_word_tree) := ⟨rfl, rfl, rfl, by decide +kernel, rfl, by decide +kernel, by decide +kernel⟩
abbrev s_read_word : Stmt := topS 11
theorem sc_read_word : FnScope ["tree", "bits", "at", "node", "place"] ["tree", "bits", "at"] (defScope s_read_word) := ⟨rfl, rfl, rfl, by decide +kernel, rfl, by decide +kernel, by decide +kernel⟩
abbrev s_read_symbols : Stmt := topS 12
theorem sc_read_symbols : FnScope ["lengths", "bits", "at", "count", "tree", "message", "place", "_", "symbol"] ["lengths", "bits", "at", "count"] (defScope s_read_symbols) := ⟨rfl, rfl, rfl, by decide +kernel, rfl, by decide +kernel, by decide +kernel⟩
abbrev s_law_cell : Stmt := topS 14
theorem sc_law_cell : FnScope ["script", "k"] ["script", "k"] (defScope s_law_cell) := ⟨rfl, rfl, rfl, by decide +kernel, rfl, by decide +kernel, by decide +kernel⟩
abbrev s_law_lengths : Stmt := topS 15
theorem sc_law_lengths : FnScope ["script", "first", "many", "lengths", "k", "cell", "length"] ["script", "first", "many"] (defScope s_law_lengths) := ⟨rfl, rfl, rfl, by decide +kernel, rfl, by decide +kernel, by decide +kernel⟩
abbrev s_law_room : Stmt := topS 16
theorem sc_law_room : FnScope ["lengths", "left", "length"] ["lengths"] (defScope s_law_room) := ⟨rfl, rfl, rfl, by decide +kernel, rfl, by decide +kernel, by decide +kernel⟩
abbrev s_law_fitting : Stmt := topS 17
theorem sc_law_fitting : FnScope ["lengths", "fitted", "left", "length", "turn"] ["lengths"] (defScope s_law_fitting) := ⟨rfl, rfl, rfl, by decide +kernel, rfl, by decide +kernel, by decide +kernel⟩
abbrev s_law_words : Stmt := topS 18
theorem sc_law_words : FnScope ["lengths", "table", "length", "value", "width", "k", "j"] ["lengths"] (defScope s_law_words) := ⟨rfl, rfl, rfl, by decide +kernel, rfl, by decide +kernel, by decide +kernel⟩
abbrev s_law_read : Stmt := topS 19
theorem sc_law_read : FnScope ["table", "bits", "at", "count", "message", "turn", "found", "stop", "part", "word"] ["table", "bits", "at", "count"] (defScope s_law_read) := ⟨rfl, rfl, rfl, by decide +kernel, rfl, by decide +kernel, by decide +kernel⟩
abbrev s_law_told : Stmt := topS 20
theorem sc_law_told : FnScope ["lengths", "bits", "at", "count", "e"] ["lengths", "bits", "at", "count"] (defScope s_law_told) := ⟨rfl, rfl, rfl, by decide +kernel, rfl, by decide +kernel, by decide +kernel⟩
abbrev s_law : Stmt := topS 21
theorem sc_law : FnScope ["script", "many", "lengths", "table", "present", "k", "message", "cell", "bits", "symbol", "given", "before", "behind", "whole", "handed", "found", "at", "count"] ["script"] (defScope s_law) := ⟨rfl, rfl, rfl, by decide +kernel, rfl, by decide +kernel, by decide +kernel⟩
section
variable {P : Program} {w : World} {K : PySem.W.Frag} {mg : Str → Option Value} {base : Heap}
theorem ok_cell {f : Addr} {fd : FuncData} {k : Nat} (F : Fun K "_law_cell" "_law_cell" s_law_cell f fd) (B : Bs mg) : FnOk P w K mg base CX0 (k + 1) f fd ["script", "k"] (spCell K) := by
  refine F.ok sc_law_cell (fun vs H Q E h => ?_) (fun cdv A outer s H vs Q E hr h => ?_)
  · obtain ⟨l, ns, j, rfl, _⟩ := h
    rfl
  · obtain ⟨l, ns, j, rfl, hs, q⟩ := h
    refine ⟨_, (pss_cons (ps_if (pt_cmpR op_lt (pv 1) (pe_callB call_len_seq (by rfl) B.len PySem.boot_len (pa_cons (pv 0) pa_nil)) (nomark _)) (pss_one (ps_ret (pe_callTy call_int1 (by rfl) B.int (by decide +kernel) (pa_cons (pe_ix ix_list (pv 0) (pv 1) (fun _ _ => rfl)) pa_nil)))) pss_nil)
      (pss_one (ps_ret pe_int))), ?_⟩
    refine ⟨_, rfl, _, rfl, l, _, rfl, .inl hs, _, _, rfl, rfl, _, rfl, ?_⟩
    by_cases hj : j < ns.length
    · have hd : decide ((j : Int) < ((ns.map V.int).length : Int)) = true := decide_eq_true (by rw [List.length_map]; omega)
      rw [hd]
      exact ⟨_, rfl, _, rfl, l, _, _, _, rfl, rfl, hs, atI_cell hj, .inl ⟨_, rfl, q⟩⟩
    · have hd : decide ((j : Int) < ((ns.map V.int).length : Int)) = false := decide_eq_false (by rw [List.length_map]; omega)
      rw [hd]
      rw [cell_out hj] at q
      exact q
theorem spv_cell {H : Hp} {l : Addr} {ns : List Int} {z : Int} {j : Nat} (hs : SqL K H l (ns.map V.int)) (e : z = (j : Int)) : SpV (spCell K) ([.ref l, .int z] ++ []) H (.int (cellOf ns j)) := fun H1 e1 Q q E => ⟨l, ns, j, by rw [e]; rfl, ex_l e1 hs, q H1 (Ex.refl H1)⟩
/-! the lengths -/
def lenOf (c : Int) : Int := if c % 41 = 5 then 1 + c / 41 % 20 else if c % 7 = 3 then 0 else 1 + c % 6
def lensL (ns : List Int) (first n : Nat) : List Int := (List.range n).map fun k => lenOf (cellOf ns (first + k))
theorem lensL_succ (ns : List Int) (first n : Nat) : lensL ns first (n + 1) = lensL ns first n ++ [lenOf (cellOf ns (first + n))] := by
  unfold lensL
  rw [List.range_succ, List.map_append] <;> rfl
theorem lensL_len (ns : List Int) (first n : Nat) : (lensL ns first n).length = n := by simp [lensL]
theorem lensL_ok (ns : List Int) (first n : Nat) : Lok (lensL ns first n) := fun x hx => by
  obtain ⟨k, _, rfl⟩ := List.mem_map.mp hx
  unfold lenOf
  split
  · omega
  · split <;> omega
def spLengths (K : PySem.W.Frag) : Sp := fun vs H Q _ => ∃ (l : Addr) (ns : List Int) (first n : Nat), vs = [.ref l, .int (first : Int), .int (n : Int)] ∧ SqL K H l (ns.map V.int) ∧ n ≤ 1000 ∧ RetL ((lensL ns first n).map V.int) H Q
theorem ok_lengths {f : Addr} {fd : FuncData} {k : Nat} (F : Fun K "_law_lengths" "_law_lengths" s_law_lengths f fd) (B : Bs mg) (C_law_cell : Cal P w K mg base "_law_cell" 1 ["script", "k"] (spCell K)) : FnOk P w K mg base CX0 (k + 2) f fd ["script", "first", "many"] (spLengths K) := by
  refine F.ok sc_law_lengths (fun vs H Q E h => ?_) (fun cdv A outer s H vs Q E hr h => ?_)
  · obtain ⟨l, ns, first, n, rfl, _⟩ := h
    rfl
  · obtain ⟨l, ns, first, n, rfl, hs, hn, q⟩ := h
    refine ⟨_, (pss_cons (ps_set (i := 3) sc_law_lengths.nd rfl (Or.inl rfl) (pe_lst pa_nil))
      (pss_cons (ps_for PassesOwn.never rfl (pi_range1 (by rfl) B.range (pa_cons (pv 2) pa_nil)) (pg_name (i := 4) sc_law_lengths.nd rfl (Or.inl rfl)) (pss_cons (ps_set (i := 5) sc_law_lengths.nd rfl (Or.inl rfl) (pe_callC C_law_cell (hr.mono (by omega)) (by rfl) (pa_cons (pv 0) (pa_cons (pe_op op_add (pv 1) (pv 4)) pa_nil))))
      (pss_cons (ps_set (i := 6) sc_law_lengths.nd rfl (Or.inl rfl) (pe_op op_add pe_int (pe_op op_mod (pv 5) pe_int)))
      (pss_cons (ps_if (pt_cmpR op_eq (pe_op op_mod (pv 5) pe_int) pe_int (nomark _)) (pss_one (ps_set (i := 6) sc_law_lengths.nd rfl (Or.inl rfl) pe_int)) pss_nil)
      (pss_cons (ps_if (pt_cmpR op_eq (pe_op op_mod (pv 5) pe_int) pe_int (nomark _)) (pss_one (ps_set (i := 6) sc_law_lengths.nd rfl (Or.inl rfl) (pe_op op_add pe_int (pe_op op_mod (pe_op op_fdiv (pv 5) pe_int) pe_int)))) pss_nil)
      (pss_one (ps_expr (pe_bm PySem.F.plainAttrs_list PySem.F.slot_list_append PySem.F.type_list_append mt_append (pv 3) (pa_cons (pv 6) pa_nil)))))))))
      (pss_one (ps_ret (pv 3))))), ?_⟩
    refine q_asgL (el_lst ea_nil (by decide)) fun p H1 hp e1 h1 => ?_
    refine q_forR1 (n := (n : Int)) (ea1 (ev_var rfl)) ⟨by omega, by omega⟩
      (fun i σ H' => ∃ a b c, σ = [some (.ref l), some (.int (first : Int)), some (.int (n : Int)), some (.ref p), a, b, c] ∧ Ex H H' ∧ H' p = some (.lst ((lensL ns first i).map V.int)))
      (fun H2 e2 => ⟨none, none, none, rfl, e1.trans e2, e2 p _ h1⟩) ?_ ?_
    · rintro i σ H' hi ⟨a, b, c, rfl, eh, hl⟩
      have hs' := ex_l eh hs
      refine q_asg (ev_call (ea2 (ev_var rfl) (ev_op (ev_var rfl) (ev_var rfl) rv_I0)) (spv_cell (j := first + i) hs' (by omega))) fun H2 e2 => ?_
      generalize hc : cellOf ns (first + i) = z
      refine q_asg (ev_add ev_c (ev_op (ev_var rfl) ev_c (rv_mod (by decide)))) fun H3 e3 => ?_
      refine q_ifAsg (v := .int (if z % 7 = 3 then 0 else 1 + z % 6)) (et_test (ev_eq (ev_op (ev_var rfl) ev_c (rv_mod (by decide))) ev_c)) (fun hb => ?_) (fun hb => ?_) fun H4 e4 => ?_
      · rw [if_pos (of_decide_eq_true hb)]
        exact ev_c
      · rw [if_neg (of_decide_eq_false hb)]
        rfl
      refine q_ifAsg (v := .int (lenOf z)) (et_test (ev_eq (ev_op (ev_var rfl) ev_c (rv_mod (by decide))) ev_c)) (fun hb => ?_) (fun hb => ?_) fun H5 e5 => ?_
      · unfold lenOf
        rw [if_pos (of_decide_eq_true hb)]
        exact ev_add ev_c (ev_op (ev_op (ev_var rfl) ev_c (rv_div (by decide) (by decide))) ev_c (rv_mod (by decide)))
      · unfold lenOf
        rw [if_neg (of_decide_eq_false hb)]
        rfl
      have e25 : Ex H' H5 := ((e2.trans e3).trans e4).trans e5
      refine s_app (e25 p _ hl) (ev_var rfl) (ev_var rfl) (by rw [List.length_map, lensL_len]; omega) fun H6 e6 => ?_
      refine ⟨_, _, _, rfl, Ex.mut ((eh.trans e25).trans e6) hp, ?_⟩
      rw [upd_same, lensL_succ, hc, List.map_append]
      rfl
    · rintro σ H' ⟨a, b, c, rfl, eh, hl⟩
      have hn' : ((n : Int)).toNat = n := by omega
      rw [hn'] at hl
      exact s_ret (ev_var rfl) fun H2 e2 => q p H2 hp (eh.trans e2) (e2 p _ hl)
end
end K02
set_option Elab.async false
set_option linter.all false
set_option maxRecDepth 100000
set_option maxHeartbeats 4000000
namespace K02
open PySem PySem.Spec PyProof.Rows L2 StX GX KC Evl M01
section
variable {P : Program} {w : World} {K : PySem.W.Frag} {mg : Str → Option Value} {base : Heap}
/-! bits -/
theorem el_lcDown {σ : L2.St} {H : Hp} {ta : TA} {te : TE} {j : Nat} {vs : List Nat} {a b : Int} {n : Nat} (v : Nat → V) (h : EvA ta σ H [.int a, .int b, .int (-1)]) (hn : (a - b).toNat = n) (ha : -100000 ≤ a ∧ a ≤ 100000) (hb : -100000 ≤ b ∧ b ≤ 100000) (hn2 : n ≤ 40000)
    (hw : ∀ x, wipe ((wipe σ vs).set j (some x)) vs = wipe σ vs) (he : ∀ (i : Nat) H1, Ex H H1 → i < n → Ev te ((wipe σ vs).set j (some (.int (a + (i : Nat) * (-1))))) H1 (v i)) : EvL (tLc (iRng3 ta) (gName j) tYes te vs) σ H ((List.range n).map v) := fun H1 e Q q =>
  h H1 e _ fun H2 e2 => ⟨a, b, -1, n, rfl, by rw [← hn]; exact RgC.neg (by omega) (by omega) (by omega) (by omega), fun Dl hD =>
    ⟨fun i m H' => m + i = n ∧ H2 Dl = none ∧ Ex H2 H' ∧ H' Dl = some (.lst ((List.range i).map v)), ⟨n, by omega, hD, Ex.new hD, upd_same⟩, fun i m H' hW => by
      obtain ⟨hm, hD2, e3, hl⟩ := hW
      by_cases hi : i < n
      · right
        refine ⟨hi, fun H' => (m - 1) + (i + 1) = n ∧ H2 Dl = none ∧ Ex H2 H' ∧ H' Dl = some (.lst ((List.range (i + 1)).map v)), fun H' q => ⟨m - 1, by omega, q⟩, ?_⟩
        rintro x H5 ⟨rfl, rfl⟩
        refine ⟨hw _, tt_yes ?_⟩
        refine he i _ ((e.trans e2).trans e3) hi _ (Ex.refl _) _ fun H6 e6 => ?_
        refine ⟨_, e6 Dl _ hl, sz_lt (by rw [List.length_map, List.length_range]; omega), by omega, hD2, Ex.mut (e3.trans e6) hD2, ?_⟩
        rw [upd_same, List.range_succ, List.map_append]
        rfl
      · left
        have hin : i = n := by omega
        subst hin
        exact ⟨Nat.le_refl _, q Dl H' (fresh_back e2 hD2) (e2.trans e3) hl⟩⟩⟩
def spBits : Sp := fun vs H Q _ => ∃ (x l : Nat), vs = [.int (x : Int), .int (l : Int)] ∧ l ≤ 100 ∧ RetL ((bitsL x l).map V.int) H Q
theorem ok_field_bits {f : Addr} {fd : FuncData} {k : Nat} (F : Fun K "field_bits" "field_bits" s_field_bits f fd) (B : Bs mg) : FnOk P w K mg base CX0 (k + 1) f fd ["number", "width"] spBits := by
  refine F.ok sc_field_bits (fun vs H Q E h => ?_) (fun cdv A outer s H vs Q E hr h => ?_)
  · obtain ⟨x, l, rfl, _⟩ := h
    rfl
  · obtain ⟨x, l, rfl, hl, q⟩ := h
    refine ⟨_, (pss_one (ps_ret (pe_lc rfl sc_field_bits.nd (pi_range3 (by rfl) B.range (pa_cons (pe_op op_sub (pv 1) pe_int) (pa_cons (pe_un un_neg pe_int) (pa_cons (pe_un un_neg pe_int) pa_nil)))) (blkOk_by (own := [("at", 2)]) (N := ["number", "width", "at"]) (sc := defScope s_field_bits) (by decide +kernel)) (fun _ _ _ _ _ => (pg_name (i := 2) sc_field_bits.nd rfl (Or.inl rfl))) (fun _ _ _ _ _ => pts_nil) (fun _ _ _ _ _ => (pe_op op_and (pe_op op_shr (pv 0) (pv 2)) pe_int))))), ?_⟩
    refine s_retL ?_ q
    have e : (bitsL x l).map V.int = (List.range l).map fun j => V.int ((x / 2 ^ (l - 1 - j) % 2 : Nat) : Int) := by
      unfold bitsL
      rw [List.map_map]
      rfl
    rw [e]
    refine el_lcDown (a := (l : Int) - 1) (b := -1) _ (ea3 (ev_sub (ev_var rfl) ev_c) (ev_un (x := .int 1) ev_c ru_neg) (ev_un (x := .int 1) ev_c ru_neg)) (by omega) (by omega) (by omega) (by omega) (fun x => rfl) fun i H1 e1 hi => ?_
    have ei : (l : Int) - 1 + (i : Nat) * (-1) = ((l - 1 - i : Nat) : Int) := by omega
    rw [ei]
    refine ev_is (ev_op (ev_op (ev_var (v := .int (x : Int)) rfl) (ev_var (v := .int ((l - 1 - i : Nat) : Int)) rfl) (rv_shr (by omega))) ev_c rv_I0) ?_
    rw [bitAnd_m1, Int.toNat_natCast]
    congr 1
/-! the law's room -/
def spLawRoom (K : PySem.W.Frag) : Sp := fun vs H Q _ => ∃ (l : Addr) (ls : List Int), vs = [.ref l] ∧ SqL K H l (ls.map V.int) ∧ Lok ls ∧ ls.length ≤ 100 ∧ ∀ H2, Ex H H2 → Q (.int (roomL ls)) H2
theorem kraft_take {ls : List Int} {i : Nat} (h : i < ls.length) : kraft (ls.take (i + 1)) = kraft (ls.take i) + share (ls.getD i 0) := by
  have hxi : ls.getD i 0 = ls[i] := by rw [List.getD_eq_getElem?_getD, List.getElem?_eq_getElem h] <;> rfl
  have htk : ls.take (i + 1) = ls.take i ++ [ls.getD i 0] := by rw [hxi]; exact (List.take_append_getElem h).symm
  rw [htk, kraft_app]
  congr 1
  show share _ + 0 = _
  rw [Int.add_zero]
theorem pos20 {x : Int} (h : 0 ≤ x ∧ x ≤ 20) : 0 < (1 : Int) * 2 ^ x.toNat ∧ (1 : Int) * 2 ^ x.toNat < 1073741824 := by
  have : ∀ y : Fin 21, (0 : Int) < 1 * 2 ^ y.val ∧ (1 : Int) * 2 ^ y.val < 1073741824 := by decide
  exact this ⟨x.toNat, by omega⟩
theorem share_div {x : Int} (h : 0 ≤ x ∧ x ≤ 20) (h0 : 0 < x) : (1048576 : Int) / (1 * 2 ^ x.toNat) = share x := by
  rw [pow20 x.toNat (by omega)]
  unfold share
  rw [if_neg (by omega)]
/-- 1048576 // (1 << x) -/
theorem ev_share {σ : L2.St} {H : Hp} {ta tb tc : TE} {x : Int} (h1 : Ev ta σ H (.int 1048576)) (h2 : Ev tb σ H (.int 1)) (h3 : Ev tc σ H (.int x)) (h : 0 ≤ x ∧ x ≤ 20) (h0 : 0 < x) : Ev (tOp (rI CDiv fun i j => .int (i / j)) ta (tOp (rI CPow fun i j => .int (i * 2 ^ j.toNat)) tb tc)) σ H (.int (share x)) :=
  ev_is (ev_op h1 (ev_op h2 h3 (rv_shl ⟨by omega, by omega, by decide⟩)) (rv_div (pos20 h).1 (pos20 h).2)) (by rw [share_div h h0])
theorem ok_law_room {f : Addr} {fd : FuncData} {k : Nat} (F : Fun K "_law_room" "_law_room" s_law_room f fd) (B : Bs mg) : FnOk P w K mg base CX0 (k + 1) f fd ["lengths"] (spLawRoom K) := by
  refine F.ok sc_law_room (fun vs H Q E h => ?_) (fun cdv A outer s H vs Q E hr h => ?_)
  · obtain ⟨l, ls, rfl, _⟩ := h
    rfl
  · obtain ⟨l, ls, rfl, hs, hok, hn, q⟩ := h
    refine ⟨_, (pss_cons (ps_set (i := 1) sc_law_room.nd rfl (Or.inl rfl) pe_int)
      (pss_cons (ps_for PassesOwn.never rfl (pi_list (pv 0)) (pg_name (i := 2) sc_law_room.nd rfl (Or.inl rfl)) (pss_one (ps_if (pt_cmpR op_gt (pv 2) pe_int (nomark _)) (pss_one (ps_set (i := 1) sc_law_room.nd rfl (Or.inl rfl) (pe_op op_sub (pv 1) (pe_op op_fdiv pe_int (pe_op op_shl pe_int (pv 2)))))) pss_nil)))
      (pss_one (ps_ret (pv 1))))), ?_⟩
    refine q_asg ev_c fun H1 e1 => ?_
    refine q_forL (ev_var rfl) (ex_l e1 hs) (fun i σ H' => ∃ c, σ = [some (.ref l), some (.int (1048576 - kraft (ls.take i))), c] ∧ Ex H H') (fun H2 e2 => ⟨none, rfl, e1.trans e2⟩)
      (fun i σ H' _ hP => by
        obtain ⟨c, _, eh⟩ := hP
        exact ex_l eh hs) ?_ ?_
    · rintro i x σ H' hi ⟨c, rfl, eh⟩
      have hil : i < ls.length := by
        have := (List.getElem?_eq_some_iff.mp hi).1
        rwa [List.length_map] at this
      have hx : x = .int (ls.getD i 0) := by
        rw [int_at hil] at hi
        exact (Option.some.inj hi).symm
      subst hx
      have hxi : ls.getD i 0 = ls[i] := by rw [List.getD_eq_getElem?_getD, List.getElem?_eq_getElem hil] <;> rfl
      have hb := hok _ (List.getElem_mem hil)
      rw [← hxi] at hb
      refine s_ifAsg (v := .int (1048576 - kraft (ls.take (i + 1)))) (et_test (ev_op (ev_var rfl) ev_c rv_I0)) (fun hp => ?_) (fun hp => ?_) fun H2 e2 => ⟨_, rfl, eh.trans e2⟩
      · have h0 : 0 < ls.getD i 0 := of_decide_eq_true hp
        exact ev_is (ev_sub (ev_var rfl) (ev_share ev_c ev_c (ev_var rfl) hb h0)) (by rw [kraft_take hil]; congr 1; omega)
      · have h0 : ¬ 0 < ls.getD i 0 := of_decide_eq_false hp
        have h1 : ls.getD i 0 = 0 := by omega
        have h2 : share (ls.getD i 0) = 0 := by rw [h1]; rfl
        rw [kraft_take hil, h2, Int.add_zero]
        rfl
    · rintro σ H' ⟨c, rfl, eh⟩
      rw [List.length_map, List.take_length]
      exact s_ret (ev_var rfl) fun H2 e2 => q H2 (eh.trans e2)
/-! the lengths are made to fit -/
structure Fit (fs : List Int) (n : Nat) : Prop where
  len : fs.length = n
  ok : Lok fs
  kr : kraft fs ≤ 1048576
  pos : ∃ x ∈ fs, 0 < x
def spFit (K : PySem.W.Frag) : Sp := fun vs H Q _ => ∃ (l : Addr) (ls : List Int), vs = [.ref l] ∧ SqL K H l (ls.map V.int) ∧ Lok ls ∧ ls.length ≤ 100 ∧ 0 < ls.length ∧ ∀ p H2 fs, H p = none → Ex H H2 → H2 p = some (.lst (fs.map V.int)) → Fit fs ls.length → Q (.ref p) H2
theorem kraft_one (x : Int) : kraft [x] = share x := by
  show share x + 0 = _
  rw [Int.add_zero]
theorem ok_law_fitting {f : Addr} {fd : FuncData} {k : Nat} (F : Fun K "_law_fitting" "_law_fitting" s_law_fitting f fd) (B : Bs mg) : FnOk P w K mg base CX0 (k + 1) f fd ["lengths"] (spFit K) := by
  refine F.ok sc_law_fitting (fun vs H Q E h => ?_) (fun cdv A outer s H vs Q E hr h => ?_)
  · obtain ⟨l, ls, rfl, _⟩ := h
    rfl
  · obtain ⟨l, ls, rfl, hs, hok, hn, hn0, q⟩ := h
    refine ⟨_, (pss_cons (ps_set (i := 1) sc_law_fitting.nd rfl (Or.inl rfl) (pe_lst pa_nil))
      (pss_cons (ps_set (i := 2) sc_law_fitting.nd rfl (Or.inl rfl) pe_int)
      (pss_cons (ps_for PassesOwn.never rfl (pi_list (pv 0)) (pg_name (i := 3) sc_law_fitting.nd rfl (Or.inl rfl)) (pss_cons (ps_for PassesOwn.never rfl (pi_range1 (by rfl) B.range (pa_cons pe_int pa_nil)) (pg_name (i := 4) sc_law_fitting.nd rfl (Or.inl rfl)) (pss_one (ps_if (PW.pt (pw_and (pt_chain op_lt op_lt pe_int (pv 3) pe_int) (pw_and1 (pt_cmpR op_gt (pe_op op_fdiv pe_int (pe_op op_shl pe_int (pv 3))) (pv 2) (nomark _))))) (pss_one (ps_set (i := 3) sc_law_fitting.nd rfl (Or.inl rfl) (pe_op op_add (pv 3) pe_int))) pss_nil)))
      (pss_cons (ps_if (PW.pt (pw_and (pt_cmpR op_gt (pv 3) pe_int (nomark _)) (pw_and1 (pt_cmpR op_gt (pe_op op_fdiv pe_int (pe_op op_shl pe_int (pv 3))) (pv 2) (nomark _))))) (pss_one (ps_set (i := 3) sc_law_fitting.nd rfl (Or.inl rfl) pe_int)) pss_nil)
      (pss_cons (ps_if (pt_cmpR op_gt (pv 3) pe_int (nomark _)) (pss_one (ps_set (i := 2) sc_law_fitting.nd rfl (Or.inl rfl) (pe_op op_sub (pv 2) (pe_op op_fdiv pe_int (pe_op op_shl pe_int (pv 3)))))) pss_nil)
      (pss_one (ps_expr (pe_bm PySem.F.plainAttrs_list PySem.F.slot_list_append PySem.F.type_list_append mt_append (pv 1) (pa_cons (pv 3) pa_nil))))))))
      (pss_cons (ps_if (pt_cmpR op_eq (pe_callB (cr_max rfl) (by rfl) B.max (by decide +kernel) (pa_cons (pv 1) pa_nil)) pe_int (nomark _)) (pss_one (ps_asg pe_int (pg_sub (pv 1) pe_int set_list))) pss_nil)
      (pss_one (ps_ret (pv 1))))))), ?_⟩
    refine q_asgL (el_lst ea_nil (by decide)) fun p H1 hp e1 h1 => ?_
    refine q_asg ev_c fun H2 e2 => ?_
    refine q_forL (ev_var rfl) (ex_l (e1.trans e2) hs) (fun i σ H' => ∃ (fs : List Int) (a b : Option V), σ = [some (.ref l), some (.ref p), some (.int (1048576 - kraft fs)), a, b] ∧ Ex H H' ∧ H' p = some (.lst (fs.map V.int)) ∧ fs.length = i ∧ Lok fs ∧ kraft fs ≤ 1048576)
      (fun H3 e3 => ⟨[], none, none, rfl, (e1.trans e2).trans e3, e3 p _ (e2 p _ h1), rfl, fun x hx => absurd hx List.not_mem_nil, by decide⟩)
      (fun i σ H' _ hP => by
        obtain ⟨fs, a, b, _, eh, _⟩ := hP
        exact ex_l eh hs) ?_ ?_
    · rintro i x σ H' hi ⟨fs, a, b, rfl, eh, hl, hfl, hfo, hfk⟩
      have hil : i < ls.length := by
        have := (List.getElem?_eq_some_iff.mp hi).1
        rwa [List.length_map] at this
      have hx : x = .int (ls.getD i 0) := by
        rw [int_at hil] at hi
        exact (Option.some.inj hi).symm
      subst hx
      have hxi : ls.getD i 0 = ls[i] := by rw [List.getD_eq_getElem?_getD, List.getElem?_eq_getElem hil] <;> rfl
      have hb := hok _ (List.getElem_mem hil)
      rw [← hxi] at hb
      refine q_forR1 (n := 20) (ea1 ev_c) ⟨by decide, by decide⟩
        (fun j σ H3 => ∃ (y : Int) (b : Option V), σ = [some (.ref l), some (.ref p), some (.int (1048576 - kraft fs)), some (.int y), b] ∧ Ex H H3 ∧ H3 p = some (.lst (fs.map V.int)) ∧ 0 ≤ y ∧ y ≤ 20)
        (fun H3 e3 => ⟨_, b, rfl, eh.trans e3, e3 p _ hl, hb.1, hb.2⟩) ?_ ?_
      · rintro j σ H3 hj ⟨y, b, rfl, eh3, hl3, y0, y20⟩
        refine s_ifAsg (v := .int (if 0 < y ∧ y < 20 ∧ share y > 1048576 - kraft fs then y + 1 else y)) (b := (decide (0 < y) && decide (y < 20)) && decide (share y > 1048576 - kraft fs)) (et_and (et_test (ev_chain ev_c (ev_var rfl) rv_I0 (fun _ => ev_c) (fun _ => rv_I0))) fun hc => ?_) (fun hc => ?_) (fun hc => ?_) fun H4 e4 => ?_
        · simp only [Bool.and_eq_true, decide_eq_true_eq] at hc
          exact et_test (ev_op (ev_share ev_c ev_c (ev_var rfl) ⟨y0, y20⟩ hc.1) (ev_var rfl) rv_I0)
        · simp only [Bool.and_eq_true, decide_eq_true_eq] at hc
          rw [if_pos ⟨hc.1.1, hc.1.2, hc.2⟩]
          exact ev_add (ev_var rfl) ev_c
        · rw [if_neg (fun z => ?_)]
          · rfl
          · rw [decide_eq_true z.1, decide_eq_true z.2.1, decide_eq_true z.2.2] at hc
            cases hc
        · refine ⟨_, _, rfl, eh3.trans e4, e4 p _ hl3, ?_⟩
          split <;> omega
      · rintro σ H3 ⟨y, b, rfl, eh3, hl3, y0, y20⟩
        refine q_ifAsg (v := .int (if 0 < y ∧ share y > 1048576 - kraft fs then 0 else y)) (b := decide (0 < y) && decide (share y > 1048576 - kraft fs)) (et_and (et_test (ev_op (ev_var rfl) ev_c rv_I0)) fun hc => et_test (ev_op (ev_share ev_c ev_c (ev_var rfl) ⟨y0, y20⟩ (of_decide_eq_true hc)) (ev_var rfl) rv_I0)) (fun hc => ?_) (fun hc => ?_) fun H4 e4 => ?_
        · simp only [Bool.and_eq_true, decide_eq_true_eq] at hc
          rw [if_pos hc]
          exact ev_c
        · rw [if_neg (fun z => ?_)]
          · rfl
          · rw [decide_eq_true z.1, decide_eq_true z.2] at hc
            cases hc
        have hz : ∃ z, (if 0 < y ∧ share y > 1048576 - kraft fs then 0 else y) = z ∧ 0 ≤ z ∧ z ≤ 20 ∧ share z ≤ 1048576 - kraft fs := by
          by_cases c : 0 < y ∧ share y > 1048576 - kraft fs
          · refine ⟨0, if_pos c, by omega, by omega, ?_⟩
            show (0 : Int) ≤ _
            omega
          · refine ⟨y, if_neg c, y0, y20, ?_⟩
            by_cases c2 : 0 < y
            · have : ¬ share y > 1048576 - kraft fs := fun z => c ⟨c2, z⟩
              omega
            · have : y = 0 := by omega
              subst this
              show (0 : Int) ≤ _
              omega
        obtain ⟨z, ez, z0, z20, zs⟩ := hz
        rw [ez]
        have hkz : kraft (fs ++ [z]) = kraft fs + share z := by rw [kraft_app, kraft_one]
        refine q_ifAsg (v := .int (1048576 - kraft (fs ++ [z]))) (et_test (ev_op (ev_var rfl) ev_c rv_I0)) (fun hc => ?_) (fun hc => ?_) fun H5 e5 => ?_
        · exact ev_is (ev_sub (ev_var rfl) (ev_share ev_c ev_c (ev_var rfl) ⟨z0, z20⟩ (of_decide_eq_true hc))) (by rw [hkz]; congr 1; omega)
        · have h1 : ¬ 0 < z := of_decide_eq_false hc
          have h2 : z = 0 := by omega
          have h3 : share z = 0 := by rw [h2]; rfl
          rw [hkz, h3, Int.add_zero]
          rfl
        refine s_app ((e4.trans e5) p _ hl3) (ev_var rfl) (ev_var rfl) (by rw [List.length_map]; omega) fun H6 e6 => ?_
        refine ⟨fs ++ [z], _, _, rfl, Ex.mut (((eh3.trans e4).trans e5).trans e6) hp, ?_, by simp [hfl], fun x hx => ?_, by rw [hkz]; omega⟩
        · rw [upd_same, List.map_append]
          rfl
        · rcases List.mem_append.mp hx with h | h
          · exact hfo x h
          · rw [List.mem_singleton.mp h]
            exact ⟨z0, z20⟩
    · rintro σ H' ⟨fs, a, b, rfl, eh, hl, hfl, hfo, hfk⟩
      rw [List.length_map] at hfl
      have hne : fs ≠ [] := fun z => by rw [z] at hfl; simp at hfl; omega
      obtain ⟨m, hm, hmax⟩ := max_of fs hne
      refine q_when (et_test (ev_eq (ev_maxL (ev_var rfl) (sq_of hl) hm hmax) ev_c)) (fun hb H3 e3 => ?_) (fun hb H3 e3 => ?_)
      · have hm0 : m = 0 := of_decide_eq_true hb
        subst hm0
        have hall : ∀ x ∈ fs, x = 0 := fun x hx => by
          have h1 := hmax x hx
          have h2 := (hfo x hx).1
          omega
        refine s_setL (j := 0) (e3 p _ hl) ev_c (ev_var rfl) ev_c (by rw [List.length_map]; omega) fun H4 e4 => ?_
        have hset : (fs.map V.int).set 0 (.int 3) = (fs.set 0 3).map V.int := by
          cases fs with
          | nil => exact absurd rfl hne
          | cons x r => rfl
        rw [hset]
        refine s_ret (ev_var rfl) fun H5 e5 => q p H5 (fs.set 0 3) hp (Ex.trans (Ex.mut ((eh.trans e3).trans e4) hp) e5) (e5 p _ upd_same) ?_
        cases fs with
        | nil => exact absurd rfl hne
        | cons x r =>
          refine ⟨by simpa using hfl, fun y hy => ?_, ?_, ⟨3, List.mem_cons_self, by decide⟩⟩
          · rcases List.mem_cons.mp hy with h | h
            · omega
            · exact hfo y (List.mem_cons_of_mem _ h)
          · show share 3 + kraft r ≤ _
            rw [kraft_zero r fun y hy => hall y (List.mem_cons_of_mem _ hy)]
            decide
      · have hm0 : m ≠ 0 := of_decide_eq_false hb
        have h2 := (hfo m hm).1
        exact s_ret (ev_var rfl) fun H5 e5 => q p H5 fs hp ((eh.trans e3).trans e5) ((e3.trans e5) p _ hl) ⟨hfl, hfo, hfk, ⟨m, hm, by omega⟩⟩
end
end K02
set_option Elab.async false
set_option linter.all false
set_option maxRecDepth 100000
set_option maxHeartbeats 4000000
/-! Pairs (a key, a symbol) in a list, sorted. -/
namespace KC
open PySem PySem.Spec PyProof.Rows L2 StX GX Evl
def PrG (key : Nat → Int) (H : Hp) (ys : List V) (o : List Nat) : Prop := ys.length = o.length ∧ ∀ (j s : Nat), o[j]? = some s → ∃ t, ys[j]? = some (.ref t) ∧ H t = some (.tup [.int (key s), .int (s : Int)])
section
variable {key : Nat → Int} {H H' : Hp} {ys zs : List V} {o : List Nat}
theorem PrG.nil : PrG key H [] [] := ⟨rfl, fun j s h => by simp at h⟩
theorem PrG.ext (e : Ex H H') (h : PrG key H ys o) : PrG key H' ys o := ⟨h.1, fun j s hj => by
  obtain ⟨t, h1, h2⟩ := h.2 j s hj
  exact ⟨t, h1, e t _ h2⟩⟩
theorem PrG.put {p : Addr} {us ws : List V} (hp : H p = some (.lst us)) (h : PrG key H ys o) : PrG key (upd H p (.lst ws)) ys o := ⟨h.1, fun j s hj => by
  obtain ⟨t, h1, h2⟩ := h.2 j s hj
  exact ⟨t, h1, by rw [upd_ne (fun z => by rw [z, hp] at h2; cases h2)]; exact h2⟩⟩
theorem PrG.add {t : Addr} {s : Nat} (h : PrG key H ys o) (ht : H t = some (.tup [.int (key s), .int (s : Int)])) : PrG key H (ys ++ [.ref t]) (o ++ [s]) := by
  refine ⟨by rw [List.length_append, List.length_append, h.1] <;> rfl, fun j u hj => ?_⟩
  by_cases e : j < o.length
  · rw [List.getElem?_append_left e] at hj
    obtain ⟨w, h1, h2⟩ := h.2 j u hj
    exact ⟨w, by rw [List.getElem?_append_left (by rw [h.1]; exact e)]; exact h1, h2⟩
  · rw [List.getElem?_append_right (by omega)] at hj
    have hj0 : j - o.length = 0 := by
      have := (List.getElem?_eq_some_iff.mp hj).1
      simp at this
      omega
    rw [hj0] at hj
    have hu : s = u := by simpa using hj
    subst hu
    exact ⟨t, by rw [List.getElem?_append_right (by rw [h.1]; omega), h.1, hj0]; rfl, ht⟩
def keyOf (H : Hp) : V → Int × Int
  | .ref t => match H t with
    | some (.tup [.int a, .int b]) => (a, b)
    | _ => (0, 0)
  | _ => (0, 0)
theorem keyOf_tup {t : Addr} {a b : Int} (h : H t = some (.tup [.int a, .int b])) : keyOf H (.ref t) = (a, b) := by
  show (match H t with | some (.tup [.int a, .int b]) => (a, b) | _ => ((0 : Int), (0 : Int))) = _
  rw [h]
def symOf (H : Hp) (z : V) : Nat := (keyOf H z).2.toNat
theorem PrG.mem (h : PrG key H ys o) {z : V} (hz : z ∈ ys) : ∃ s t, s ∈ o ∧ z = .ref t ∧ H t = some (.tup [.int (key s), .int (s : Int)]) ∧ symOf H z = s := by
  obtain ⟨j, hj⟩ := List.mem_iff_getElem?.mp hz
  have hjl : j < o.length := by rw [← h.1]; exact (List.getElem?_eq_some_iff.mp hj).1
  obtain ⟨t, h1, h2⟩ := h.2 j _ (List.getElem?_eq_getElem hjl)
  rw [hj] at h1
  have e := Option.some.inj h1
  subst e
  exact ⟨_, t, List.getElem_mem hjl, rfl, h2, by unfold symOf; rw [keyOf_tup h2]; simp⟩
theorem PrG.syms (h : PrG key H ys o) : ys.map (symOf H) = o := by
  refine List.ext_getElem? fun j => ?_
  rw [List.getElem?_map]
  by_cases hj : j < o.length
  · obtain ⟨t, h1, h2⟩ := h.2 j _ (List.getElem?_eq_getElem hj)
    rw [h1, List.getElem?_eq_getElem hj]
    show some (symOf H (.ref t)) = _
    unfold symOf
    rw [keyOf_tup h2]
    simp
  · rw [List.getElem?_eq_none (by rw [h.1]; omega), List.getElem?_eq_none (by omega)]
    rfl
theorem PrG.sorted (h : PrG key H ys o) (hp : zs.Perm ys) (hs : SrtO.Srtd (ltP (keyOf H)) zs) (hn : o.Nodup) :
    PrG key H zs (zs.map (symOf H)) ∧ (zs.map (symOf H)).Perm o ∧ (zs.map (symOf H)).Pairwise fun a b => key a < key b ∨ (key a = key b ∧ a < b) := by
  have hperm : (zs.map (symOf H)).Perm o := by
    have := hp.map (symOf H)
    rwa [h.syms] at this
  refine ⟨⟨(List.length_map _).symm, fun j s hj => ?_⟩, hperm, ?_⟩
  · rw [List.getElem?_map] at hj
    cases hz : zs[j]? with
    | none => rw [hz] at hj; cases hj
    | some z =>
      rw [hz] at hj
      obtain ⟨s1, t, _, rfl, ht, es⟩ := h.mem (hp.mem_iff.mp (List.mem_of_getElem? hz))
      have e2 : s1 = s := by rw [← es]; exact Option.some.inj hj
      subst e2
      exact ⟨t, rfl, ht⟩
  · have hnd : (zs.map (symOf H)).Nodup := hperm.nodup_iff.mpr hn
    have hnd2 : zs.Pairwise fun a b => symOf H a ≠ symOf H b := List.pairwise_map.mp hnd
    refine List.pairwise_map.mpr ?_
    refine List.Pairwise.imp_of_mem (fun {a b} ha hb hab => ?_) (hs.and hnd2)
    obtain ⟨s1, t1, _, rfl, ht1, es1⟩ := h.mem (hp.mem_iff.mp ha)
    obtain ⟨s2, t2, _, rfl, ht2, es2⟩ := h.mem (hp.mem_iff.mp hb)
    obtain ⟨h4, h5⟩ := hab
    have h6 := SrtO.lexB_no.mp h4
    rw [keyOf_tup ht1, keyOf_tup ht2] at h6
    rw [es1, es2] at h5 ⊢
    simp only at h6
    omega
end
section
variable {K : PySem.W.Frag} {σ : L2.St} {H H' : Hp} {ta tb te : TE} {D : Ends} {tz : TS}
/-- sorted((key, symbol) for symbol, w in enumerate(xs) if ..): what comes of it -/
theorem tSort_use {ys : List V} {key : Nat → Int} {o : List Nat} {H1 : Hp} {R : Addr → Hp → Prop} (h : PrG key H1 ys o) (hn : o.Nodup) (q : ∀ p zs o', H1 p = none → PrG key (upd H1 p (.lst zs)) zs o' → o'.Perm o → (o'.Pairwise fun a b => key a < key b ∨ (key a = key b ∧ a < b)) → R p (upd H1 p (.lst zs))) :
    ∀ p, H1 p = none → rSortPO (.ref p) [] (upd H1 p (.lst ys)) fun _ H2 => R p H2 := fun p hp => by
  have e1 : Ex H1 (upd H1 p (.lst ys)) := Ex.new hp
  refine ⟨p, ys, keyOf H1, rfl, rfl, upd_same, fun y hy => ?_, fun zs hsr hst => ?_⟩
  · obtain ⟨s, t, _, rfl, ht, _⟩ := h.mem hy
    refine ⟨t, rfl, ?_⟩
    rw [keyOf_tup ht]
    exact e1 t _ ht
  · have hov : upd (upd H1 p (.lst ys)) p (.lst zs) = upd H1 p (.lst zs) := by
      funext b
      by_cases e : b = p
      · rw [e, upd_same, upd_same]
      · rw [upd_ne e, upd_ne e, upd_ne e]
    rw [hov]
    obtain ⟨h1, h2, h3⟩ := h.sorted hst.perm hsr hn
    exact q p zs _ hp (h1.ext (Ex.new hp)) h2 h3
/-- xs[i] = a new list -/
theorem s_setLL {l : Addr} {xs ys : List V} {j : Nat} (hl : H l = some (.lst xs)) (h : EvL te σ H ys) (ho : Ev ta σ H (.ref l)) (hi : Ev tb σ H (.int (j : Int))) (hj : j < xs.length) (k : ∀ p H1, H p = none → Ex H H1 → H1 p = some (.lst ys) → D.nx σ (upd H1 l (.lst (xs.set j (.ref p))))) :
    tAsg te (gSub ta tb rSetL) D σ H := h H (Ex.refl H) _ fun p H1 hp e1 h1 => ho H1 e1 _ fun H2 e2 => hi H2 (e1.trans e2) _ fun H3 e3 =>
  ⟨l, xs, (j : Int), j, rfl, rfl, ((e1.trans e2).trans e3) l _ hl, ixN_nat hj, k p H3 hp ((e1.trans e2).trans e3) ((e2.trans e3) p _ h1)⟩
theorem q_setLL {l : Addr} {xs ys : List V} {j : Nat} (hl : H l = some (.lst xs)) (h : EvL te σ H ys) (ho : Ev ta σ H (.ref l)) (hi : Ev tb σ H (.int (j : Int))) (hj : j < xs.length) (k : ∀ p H1, H p = none → Ex H H1 → H1 p = some (.lst ys) → tz D σ (upd H1 l (.lst (xs.set j (.ref p))))) :
    tSeq (tAsg te (gSub ta tb rSetL)) tz D σ H := s_setLL (D := { D with nx := tz D }) hl h ho hi hj k
theorem flat_rep (n : Nat) (v : V) : (List.replicate n [v]).flatten = List.replicate n v := by
  induction n with
  | zero => rfl
  | succ n ih => rw [List.replicate_succ, List.replicate_succ, List.flatten_cons, ih] <;> rfl
end
end KC
set_option Elab.async false
set_option linter.all false
set_option maxRecDepth 100000
set_option maxHeartbeats 4000000
namespace K02
open PySem PySem.Spec PyProof.Rows L2 StX GX KC Evl M01
/-! ### tables of words -/
def InV (p : Addr) (H0 H : Hp) (v : V) : Option (List Int) → Prop
  | none => v = .non
  | some bs => ∃ r : Addr, v = .ref r ∧ r ≠ p ∧ H0 r = none ∧ H r = some (.lst (bs.map V.int))
def TabF (p : Addr) (H0 H : Hp) (vs : List V) (tab : List (Option (List Int))) : Prop := vs.length = tab.length ∧ ∀ (k : Nat) v o, vs[k]? = some v → tab[k]? = some o → InV p H0 H v o
theorem InV.ext {p : Addr} {H0 H H' : Hp} {v : V} {o : Option (List Int)} (e : Ex H H') (h : InV p H0 H v o) : InV p H0 H' v o := by
  cases o with
  | none => exact h
  | some bs =>
    obtain ⟨r, h1, h2, h3, h4⟩ := h
    exact ⟨r, h1, h2, h3, e r _ h4⟩
theorem InV.put {p : Addr} {H0 H : Hp} {v : V} {o : Option (List Int)} {ws : List V} (h : InV p H0 H v o) : InV p H0 (upd H p (.lst ws)) v o := by
  cases o with
  | none => exact h
  | some bs =>
    obtain ⟨r, h1, h2, h3, h4⟩ := h
    exact ⟨r, h1, h2, h3, by rw [upd_ne h2]; exact h4⟩
theorem TabF.ext {p : Addr} {H0 H H' : Hp} {vs : List V} {tab : List (Option (List Int))} (e : Ex H H') (h : TabF p H0 H vs tab) : TabF p H0 H' vs tab := ⟨h.1, fun k v o h1 h2 => (h.2 k v o h1 h2).ext e⟩
theorem TabF.none {p : Addr} {H0 H : Hp} (n : Nat) : TabF p H0 H (List.replicate n .non) (List.replicate n none) := ⟨by rw [List.length_replicate, List.length_replicate], fun k v o h1 h2 => by
  have e1 := List.eq_of_mem_replicate (List.mem_of_getElem? h1)
  have e2 := List.eq_of_mem_replicate (List.mem_of_getElem? h2)
  subst e1 e2
  rfl⟩
/-- a word is put into the table -/
theorem TabF.set {ls : List Int} {p r : Addr} {H0 H : Hp} {vs : List V} {o : List Nat} {s : Nat} (h : TabF p H0 H vs (tabOf ls o)) (hs : s ∉ o) (hr : r ≠ p) (h0 : H0 r = Option.none) (hl : H r = some (.lst ((wd ls o s).map V.int))) : TabF p H0 (upd H p (.lst (vs.set s (.ref r)))) (vs.set s (.ref r)) (tabOf ls (o ++ [s])) := by
  refine ⟨by rw [List.length_set, h.1, tab_len, tab_len], fun k v ob h1 h2 => ?_⟩
  have hk : k < ls.length := by
    have := (List.getElem?_eq_some_iff.mp h2).1
    rwa [tab_len] at this
  rw [tab_at hk, ent_add hs] at h2
  by_cases e : k = s
  · subst e
    rw [if_pos rfl] at h2
    have e2 := Option.some.inj h2
    subst e2
    rw [List.getElem?_set_self (by have := h.1; rw [tab_len] at this; omega)] at h1
    exact ⟨r, (Option.some.inj h1).symm, hr, h0, by rw [upd_ne hr]; exact hl⟩
  · rw [if_neg e] at h2
    rw [List.getElem?_set_ne (fun z => e z.symm)] at h1
    exact (h.2 k v ob h1 (by rw [tab_at hk]; exact h2)).put
def RetW (tab : List (Option (List Int))) (H : Hp) (Q : VK) : Prop := ∀ p vs H2, H p = none → Ex H H2 → H2 p = some (.lst vs) → TabF p H H2 vs tab → Q (.ref p) H2
/-! ### numbers -/
theorem xs_le2 {ls : List Int} {o : List Nat} (hl : Lok ls) (pw : o.Pairwise (Lx ls)) (hm : ∀ s ∈ o, s < ls.length ∧ 0 < lnA ls s) : (xs ls o : Int) ≤ kraft ls := by
  rw [← kraft_sum ls fun x hx => (hl x hx).1]
  have hnd : o.Nodup := pw.imp fun {a b} h e => by subst e; exact h.irrefl
  have h1 := nodup_sum (fun k => if lnA ls k = 0 then 0 else 2 ^ (20 - lnA ls k)) o (List.range ls.length) hnd fun x hx => List.mem_range.mpr (hm x hx).1
  have h2 : (o.map fun k => if lnA ls k = 0 then 0 else 2 ^ (20 - lnA ls k)) = o.map fun s => 2 ^ (20 - lnA ls s) := by
    refine List.map_congr_left fun k hk => ?_
    have := (hm k hk).2
    rw [if_neg (by omega)]
  rw [h2] at h1
  unfold xs
  exact_mod_cast h1
/-- the number ahead of a word -/
structure Num (ls : List Int) (o : List Nat) (num dep : Nat) : Prop where
  eq : num * 2 ^ (20 - dep) = xs ls o
  dp : dep ≤ 20
theorem Num.le {ls : List Int} {o : List Nat} {num dep : Nat} (h : Num ls o num dep) : num ≤ xs ls o := by
  rw [← h.eq]
  exact Nat.le_mul_of_pos_right _ (Nat.pow_pos (by decide))
theorem Num.up {ls : List Int} {o : List Nat} {num dep L : Nat} (h : Num ls o num dep) (hd : dep ≤ L) (hL : L ≤ 20) : Num ls o (num * 2 ^ (L - dep)) L := by
  refine ⟨?_, hL⟩
  rw [Nat.mul_assoc, ← Nat.pow_add, ← h.eq]
  congr 2
  omega
theorem Num.wd {ls : List Int} {o : List Nat} {num L s : Nat} (h : Num ls o num L) (hL : lnA ls s = L) : wd ls o s = bitsL num L := by
  unfold M01.wd
  rw [hL, ← h.eq, Nat.mul_div_cancel _ (Nat.pow_pos (by decide))]
theorem Num.add {ls : List Int} {o : List Nat} {num L s : Nat} (h : Num ls o num L) (hL : lnA ls s = L) : Num ls (o ++ [s]) (num + 1) L := by
  refine ⟨?_, h.dp⟩
  rw [xs_snoc, ← h.eq, hL, Nat.add_mul, Nat.one_mul]
theorem nat_bd {n : Nat} (h : n ≤ 1048576) : ((n : Int)).natAbs < 2 ^ 64 := by
  rw [Int.natAbs_natCast]
  have : (1048576 : Nat) < 2 ^ 64 := by decide
  omega
theorem ln_of {ls : List Int} (h : Lok ls) {k : Nat} (hk : k < ls.length) : ls.getD k 0 = (lnA ls k : Int) := by
  have hb := h _ (List.getElem_mem hk)
  unfold lnA
  rw [List.getD_eq_getElem?_getD, List.getElem?_eq_getElem hk]
  show ls[k] = ((ls[k]).toNat : Int)
  omega
section
variable {P : Program} {w : World} {K : PySem.W.Frag} {mg : Str → Option Value} {base : Heap}
def spWords (K : PySem.W.Frag) (Pt : Addr) : Sp := fun vs H Q _ => ∃ (l : Addr) (ls : List Int) (o : List Nat), vs = [.ref l] ∧ SqL K H l (ls.map V.int) ∧ Lok ls ∧ ls.length ≤ 100 ∧ kraft ls ≤ 1048576 ∧ H Pt = some (TabX Pt) ∧ IsOrd ls o ∧ RetW (tabOf ls o) H Q
theorem ok_words {f c Pt : Addr} {fd : FuncData} {k : Nat} (F : FunT K "words" "words" s_words f fd c) (TB : GxR.TabB base mg c Pt) (B : Bs mg) (C_field_bits : Cal P w K mg base "field_bits" 1 ["number", "width"] spBits) : FnOk P w K mg base CX0 (k + 7) f fd ["lengths"] (spWords K Pt) := by
  refine F.ok sc_words (fun vs H Q E h => ?_) (fun A outer s H vs Q E hr h => ?_)
  · obtain ⟨l, ls, o, rfl, _⟩ := h
    rfl
  · obtain ⟨l, ls, o, rfl, hs, hok, hn, hkr, htab, hord, q⟩ := h
    refine ⟨_, (pss_cons (ps_set (i := 1) sc_words.nd rfl (Or.inl rfl) (pe_op op_rep (pe_lst (pa_cons pe_non pa_nil)) (pe_callB call_len_seq (by rfl) B.len PySem.boot_len (pa_cons (pv 0) pa_nil))))
      (pss_cons (ps_set (i := 2) sc_words.nd rfl (Or.inl rfl) pe_int)
      (pss_cons (ps_set (i := 3) sc_words.nd rfl (Or.inl rfl) pe_int)
      (pss_cons (ps_set (i := 4) sc_words.nd rfl (Or.inl rfl) (pe_sortedG (k := 0) (pgx_gen (g := (gTup K 2 (gCons (gName 0) (gCons (gName 1) gNil)))) (N' := ["symbol", "length"]) (cm := [none, none]) (own := [0, 1]) (k0 := 0) (k := 0) (hr.mono (by omega)) TB rfl (capOk_by (N := ["lengths", "found", "number", "depth", "order", "length", "symbol"]) (sc := defScope s_words) (by decide +kernel)) (pi_enum (by rfl) B.enumerate (pa_cons (pv 0) pa_nil)) (fun _ _ _ _ _ _ _ _ _ => (pg_tup rfl (pgs_cons (pg_name (i := 0) (show List.Nodup (["symbol", "length"] : List Str) by decide +kernel) rfl (Or.inl rfl)) (pgs_cons (pg_name (i := 1) (show List.Nodup (["symbol", "length"] : List Str) by decide +kernel) rfl (Or.inl rfl)) pgs_nil)))) (fun _ _ _ _ _ _ _ _ _ => (pts_one (pt_cmpR op_gt (pv 1) pe_int (nomark _)))) (fun _ _ _ _ _ _ _ _ _ => (pe_tup (pa_cons (pv 1) (pa_cons (pv 0) pa_nil))))) (fun _ => mt_sortPO) (hr.mono (by omega)) (by rfl) B.sorted))
      (pss_cons (ps_for PassesOwn.never rfl (pi_list (pv 4)) (pg_tup rfl (pgs_cons (pg_name (i := 5) sc_words.nd rfl (Or.inl rfl)) (pgs_cons (pg_name (i := 6) sc_words.nd rfl (Or.inl rfl)) pgs_nil))) (pss_cons (ps_set (i := 2) sc_words.nd rfl (Or.inl rfl) (pe_op op_shl (pv 2) (pe_op op_sub (pv 5) (pv 3))))
      (pss_cons (ps_set (i := 3) sc_words.nd rfl (Or.inl rfl) (pv 5))
      (pss_cons (ps_asg (pe_callC C_field_bits (hr.mono (by omega)) (by rfl) (pa_cons (pv 2) (pa_cons (pv 5) pa_nil))) (pg_sub (pv 1) (pv 6) set_list))
      (pss_one (ps_aug (i := 2) sc_words.nd rfl (Or.inl rfl) pe_int ip_add))))))
      (pss_one (ps_ret (pv 1)))))))), ?_⟩
    have hxl : (ls.map V.int).length = ls.length := List.length_map _
    refine q_asgL (el_rep (el_lst (ea1 ev_c) (by decide)) (ev_len (ev_var rfl) hs) ⟨by omega, by omega⟩ (by decide)) fun p H1 hp e1 h1 => ?_
    rw [flat_rep, hxl, Int.toNat_natCast] at h1
    refine q_asg ev_c fun H2 e2 => ?_
    refine q_asg ev_c fun H3 e3 => ?_
    have e03 := (e1.trans e2).trans e3
    have hp3 := (e2.trans e3) p _ h1
    have hs3 := ex_l e03 hs
    -- the order
    refine ⟨_, rfl, l, _, rfl, hs3, e03 Pt _ htab, fun i m zs H' => m + i = ls.length ∧ Ex H3 H' ∧ PrG (fun s => ls.getD s 0) H' zs ((List.range i).filter fun s => decide (0 < ls.getD s 0)), ⟨ls.length, by omega, Ex.refl _, PrG.nil⟩, ?_⟩
    rintro i m zs H' ⟨hm, e4, hpr⟩
    by_cases hi : i < ls.length
    · right
      refine ⟨⟨_, _, ex_l e4 hs3, int_at hi⟩, fun zs H5 => (m - 1) + (i + 1) = ls.length ∧ Ex H3 H5 ∧ PrG (fun s => ls.getD s 0) H5 zs ((List.range (i + 1)).filter fun s => decide (0 < ls.getD s 0)), fun zs H5 q => ⟨m - 1, by omega, q⟩, ?_⟩
      rintro v H5 ⟨T, x, rfl, hT, rfl, hx1⟩
      have ex1 := (Option.some.inj ((int_at hi).symm.trans (hx1 _ (ex_l e4 hs3)))).symm
      subst ex1
      have e45 : Ex H' (upd H' T (.tup [.int (i : Int), .int (ls.getD i 0)])) := Ex.new hT
      refine ⟨T, _, rfl, .inl (.inl upd_same), rfl, _, _, rfl, _, _, rfl, rfl, rfl, ?_⟩
      refine (et_test (ev_op (ev_var (i := 1) (v := .int (ls.getD i 0)) rfl) (ev_c (v := .int 0)) rv_I0) : EvT _ [some (.int (i : Int)), some (.int (ls.getD i 0))] _ _) _ (Ex.refl _) _ fun H6 e6 => ?_
      have e46 := e45.trans e6
      cases hb : decide (0 < ls.getD i 0) with
      | false =>
        rw [if_neg Bool.false_ne_true]
        refine ⟨by omega, e4.trans e46, ?_⟩
        rw [List.range_succ, List.filter_append, List.filter_cons, if_neg (by rw [hb]; exact Bool.false_ne_true), List.filter_nil, List.append_nil]
        exact hpr.ext e46
      | true =>
        rw [if_pos rfl]
        refine (eu_tup (σ := [some (.int (i : Int)), some (.int (ls.getD i 0))]) (ea2 (ev_var (i := 1) (v := .int (ls.getD i 0)) rfl) (ev_var (i := 0) (v := .int (i : Int)) rfl)) (by show 2 ≤ 100000; decide)) _ (Ex.refl _) _ fun t H7 ht e7 h7 => ?_
        have e47 := e46.trans e7
        have hzl : zs.length < 100000 := by
          rw [hpr.1]
          have := List.length_filter_le (fun s => decide (0 < ls.getD s 0)) (List.range i)
          rw [List.length_range] at this
          omega
        refine ⟨sz_lt hzl, trivial, by omega, e4.trans e47, ?_⟩
        rw [List.range_succ, List.filter_append, List.filter_cons, if_pos hb, List.filter_nil]
        exact (hpr.ext e47).add h7
    · left
      have hin : i = ls.length := by omega
      subst hin
      refine ⟨⟨_, ex_l e4 hs3, by rw [hxl]; exact Nat.le_refl _⟩, ?_⟩
      refine tSort_use hpr (List.Nodup.sublist (List.filter_sublist) List.nodup_range) fun po zs o' hpo hpr2 hperm hpw => ?_
      have hpop : po ≠ p := fun z => by
        have := e4 p _ hp3
        rw [← z, hpo] at this
        cases this
      -- it is the order
      have hmem : ∀ s, s ∈ o' ↔ s < ls.length ∧ 0 < lnA ls s := fun s => by
        rw [hperm.mem_iff, List.mem_filter, List.mem_range]
        constructor
        · rintro ⟨a, b⟩
          refine ⟨a, ?_⟩
          have b' : 0 < ls.getD s 0 := of_decide_eq_true b
          rw [ln_of hok a] at b'
          omega
        · rintro ⟨a, b⟩
          refine ⟨a, decide_eq_true ?_⟩
          rw [ln_of hok a]
          omega
      have hord' : IsOrd ls o' := ⟨List.Pairwise.imp_of_mem (fun {a b} ha hb h => by
        have ha' := (hmem a).mp ha
        have hb' := (hmem b).mp hb
        simp only [ln_of hok ha'.1, ln_of hok hb'.1] at h
        unfold Lx
        omega) hpw, hmem⟩
      have eo := hord'.uniq hord
      subst eo
      have hpoL : (upd H' po (.lst zs)) po = some (.lst zs) := upd_same
      have e0S : Ex H (upd H' po (.lst zs)) := (e03.trans e4).trans (Ex.new hpo)
      have hpS : (upd H' po (.lst zs)) p = some (.lst (List.replicate ls.length .non)) := by
        rw [upd_ne (fun z => hpop z.symm)]
        exact e4 p _ hp3
      generalize hHS : upd H' po (.lst zs) = HS at *
      have hzo : zs.length = o'.length := hpr2.1
      show tSeq _ _ _ _ _
      refine q_forL (ev_var rfl) (sq_of hpoL)
        (fun i σ H9 => ∃ (num dep : Nat) (vs : List V) (a b : Option V), σ = [some (.ref l), some (.ref p), some (.int (num : Int)), some (.int (dep : Int)), some (.ref po), a, b] ∧ Ex H H9 ∧ H9 po = some (.lst zs) ∧ PrG (fun s => ls.getD s 0) H9 zs o' ∧ H9 p = some (.lst vs) ∧ TabF p H H9 vs (tabOf ls (o'.take i)) ∧ Num ls (o'.take i) num dep ∧ ∀ s ∈ o'.drop i, dep ≤ lnA ls s)
        (fun H9 e9 => ⟨0, 0, _, none, none, rfl, e0S.trans e9, e9 po _ hpoL, hpr2.ext e9, e9 p _ hpS, by rw [List.take_zero, tab_nil]; exact TabF.none _, ⟨by simp [xs], by omega⟩, fun s _ => Nat.zero_le _⟩)
        (fun i σ H9 _ hP => by
          obtain ⟨num, dep, vs, a, b, _, _, hz, _⟩ := hP
          exact sq_of hz) ?_ ?_
      · rintro i x σ H9 hi9 ⟨num, dep, vs, a, b, rfl, eh, hz9, hpr9, hp9, htf, hnum, hdr⟩
        have hil : i < o'.length := by rw [← hzo]; exact (List.getElem?_eq_some_iff.mp hi9).1
        obtain ⟨t, ht1, ht2⟩ := hpr9.2 i _ (List.getElem?_eq_getElem hil)
        rw [hi9] at ht1
        have ex9 := Option.some.inj ht1
        subst ex9
        generalize hso : o'[i] = so at *
        have hsm : so ∈ o' := by rw [← hso]; exact List.getElem_mem hil
        obtain ⟨hsl, hspos⟩ := (hmem so).mp hsm
        simp only [ln_of hok hsl] at ht2
        have hL20 := ln_le hok so
        have htk : o'.take (i + 1) = o'.take i ++ [so] := by rw [← hso]; exact (List.take_append_getElem hil).symm
        have hdep : dep ≤ lnA ls so := hdr so (by rw [List.drop_eq_getElem_cons hil, hso]; exact List.mem_cons_self)
        generalize hLe : lnA ls so = L at *
        refine ⟨t, _, rfl, .inl (.inl ht2), rfl, _, _, rfl, _, _, rfl, rfl, ?_⟩
        have hxk : xs ls (o'.take i) ≤ 1048576 := by
          have h1 := xs_le hok hord'
          have h2 : xs ls o' = xs ls (o'.take i) + xs ls (o'.drop i) := by rw [← xs_app, List.take_append_drop]
          omega
        have hn1 := hnum.up hdep hL20
        have hn1b := Nat.le_trans hn1.le hxk
        refine q_asg (v := .int ((num * 2 ^ (L - dep) : Nat) : Int)) (ev_is (ev_op (ev_var rfl) (ev_sub (i := (L : Int)) (j := (dep : Int)) (ev_var rfl) (ev_var rfl)) (rv_shl ⟨by omega, by omega, nat_bd (Nat.le_trans hnum.le hxk)⟩)) ?_) fun H10 e10 => ?_
        · congr 1
          have : ((L : Int) - (dep : Int)).toNat = L - dep := by omega
          rw [this, Int.natCast_mul, Int.natCast_pow]
          rfl
        refine q_asg (v := .int (L : Int)) (ev_var rfl) fun H11 e11 => ?_
        have e911 := e10.trans e11
        refine q_setLL (j := so) (e911 p _ hp9) (el_call (ea2 (ev_var rfl) (ev_var rfl)) fun H1 e1 Q q E => ⟨num * 2 ^ (L - dep), L, rfl, by omega, fun p H2 hp e2 h2 => q p H2 hp e2 h2⟩) (ev_var rfl) (ev_var rfl) (by have := htf.1; rw [tab_len] at this; omega) fun r H12 hr e12 h12 => ?_
        have e912 := e911.trans e12
        have hrp : r ≠ p := fun z => by
          have := e911 p _ hp9
          rw [← z, hr] at this
          cases this
        have hr0 : H r = none := fresh_back (eh.trans e911) hr
        refine s_aug (a := ((num * 2 ^ (L - dep) : Nat) : Int)) (b := 1) rfl ev_c fun H13 e13 => ?_
        have hso2 : so ∉ o'.take i := fun z => by
          have h1 := hord'.nodup
          rw [← List.take_append_drop i o', List.nodup_append] at h1
          exact h1.2.2 so z so (by rw [List.drop_eq_getElem_cons hil, hso]; exact List.mem_cons_self) rfl
        have hput : Ex H (upd H12 p (.lst (vs.set so (.ref r)))) := Ex.mut (eh.trans e912) hp
        refine ⟨num * 2 ^ (L - dep) + 1, L, vs.set so (.ref r), _, _, rfl, hput.trans e13, e13 po _ (by rw [upd_ne hpop]; exact e912 po _ hz9), ((hpr9.ext e912).put (e912 p _ hp9)).ext e13, e13 p _ upd_same, ?_, ?_, fun s hs2 => ?_⟩
        · rw [htk]
          refine ((htf.ext e912).set hso2 hrp hr0 ?_).ext e13
          rw [h12, hn1.wd hLe]
        · rw [htk]
          exact hn1.add hLe
        · have h1 := hord'.pw
          rw [← List.take_append_drop i o', List.drop_eq_getElem_cons hil, hso] at h1
          have h2 := (List.pairwise_cons.mp (List.pairwise_append.mp h1).2.1).1 s hs2
          unfold Lx at h2
          omega
      · rintro σ H9 ⟨num, dep, vs, a, b, rfl, eh, hz9, hpr9, hp9, htf, hnum, hdr⟩
        rw [hzo, List.take_length] at htf
        exact s_ret (ev_var rfl) fun H10 e10 => q p vs H10 hp (eh.trans e10) (e10 p _ hp9) (htf.ext e10)
end
end K02
set_option Elab.async false
set_option linter.all false
set_option maxRecDepth 100000
set_option maxHeartbeats 4000000
namespace K02
open PySem PySem.Spec PyProof.Rows L2 StX GX KC Evl M01
section
variable {P : Program} {w : World} {K : PySem.W.Frag} {mg : Str → Option Value} {base : Heap}
theorem given_rep (n : Nat) : given n (fun _ => true) (fun _ => V.non) = List.replicate n .non := by
  unfold given
  rw [List.filter_eq_self.mpr fun _ _ => rfl]
  refine List.ext_getElem? fun k => ?_
  rw [List.getElem?_map]
  by_cases h : k < n
  · rw [List.getElem?_range h, List.getElem?_replicate, if_pos h]
    rfl
  · rw [List.getElem?_eq_none (by rw [List.length_range]; omega), List.getElem?_eq_none (by rw [List.length_replicate]; omega)]
    rfl
def spLawWords (K : PySem.W.Frag) : Sp := fun vs H Q _ => ∃ (l : Addr) (ls : List Int), vs = [.ref l] ∧ SqL K H l (ls.map V.int) ∧ Lok ls ∧ ls.length ≤ 100 ∧ kraft ls ≤ 1048576 ∧ ∀ o, IsOrd ls o → RetW (tabOf ls o) H Q
theorem ok_law_words {f : Addr} {fd : FuncData} {k : Nat} (F : Fun K "_law_words" "_law_words" s_law_words f fd) (B : Bs mg) : FnOk P w K mg base CX0 (k + 1) f fd ["lengths"] (spLawWords K) := by
  refine F.ok sc_law_words (fun vs H Q E h => ?_) (fun cdv A outer s H vs Q E hr h => ?_)
  · obtain ⟨l, ls, rfl, _⟩ := h
    rfl
  · obtain ⟨l, ls, rfl, hs, hok, hn, hkr, q⟩ := h
    refine ⟨_, (pss_cons (ps_setLc (i := 1) rfl sc_law_words.nd rfl rfl (sw_true rfl rfl rfl (by decide +kernel)) (pi_list (pv 0)) (blkOk_by (own := [("length", 2)]) (N := ["lengths", "table", "length", "value", "width", "k", "j"]) (sc := defScope s_law_words) (by decide +kernel)) (fun _ _ _ _ _ => (pg_name (i := 2) sc_law_words.nd rfl (Or.inl rfl))) (fun _ _ _ _ _ => pts_nil) (fun _ _ _ _ _ => pe_non))
      (pss_cons (ps_set (i := 3) sc_law_words.nd rfl (Or.inr rfl) pe_int)
      (pss_cons (ps_set (i := 4) sc_law_words.nd rfl (Or.inl rfl) pe_int)
      (pss_cons (ps_for PassesOwn.never rfl (pi_range2 (by rfl) B.range (pa_cons pe_int (pa_cons pe_int pa_nil))) (pg_name (i := 2) sc_law_words.nd rfl (Or.inr rfl)) (pss_one (ps_for PassesOwn.never rfl (pi_range1 (by rfl) B.range (pa_cons (pe_callB call_len_seq (by rfl) B.len PySem.boot_len (pa_cons (pv 0) pa_nil)) pa_nil)) (pg_name (i := 5) sc_law_words.nd rfl (Or.inl rfl)) (pss_one (ps_if (pt_cmpR op_eq (pe_ix ix_list (pv 0) (pv 5) (fun _ _ => rfl)) (pv 2) (nomark _)) (pss_cons (ps_set (i := 3) sc_law_words.nd rfl (Or.inr rfl) (pe_op op_mul (pv 3) (pe_op op_shl pe_int (pe_op op_sub (pv 2) (pv 4)))))
      (pss_cons (ps_set (i := 4) sc_law_words.nd rfl (Or.inl rfl) (pv 2))
      (pss_cons (ps_asg (pe_lc rfl sc_law_words.nd (pi_range1 (by rfl) B.range (pa_cons (pv 2) pa_nil)) (blkOk_by (own := [("j", 6)]) (N := ["lengths", "table", "length", "value", "width", "k", "j"]) (sc := defScope s_law_words) (by decide +kernel)) (fun _ _ _ _ _ => (pg_name (i := 6) sc_law_words.nd rfl (Or.inl rfl))) (fun _ _ _ _ _ => pts_nil) (fun _ _ _ _ _ => (pe_op op_mod (pe_op op_fdiv (pv 3) (pe_op op_shl pe_int (pe_op op_sub (pe_op op_sub (pv 2) pe_int) (pv 6)))) pe_int))) (pg_sub (pv 1) (pv 5) set_list))
      (pss_one (ps_set (i := 3) sc_law_words.nd rfl (Or.inr rfl) (pe_op op_add (pv 3) pe_int)))))) pss_nil)))))
      (pss_one (ps_ret (pv 1))))))), ?_⟩
    have hxl : (ls.map V.int).length = ls.length := List.length_map _
    refine q_asgL (el_lcL (fun _ => true) (fun _ => V.non) (ev_var rfl) hs (by omega) (fun x => rfl) (fun i x H1 e hi => et_yes) (fun i x H1 e hi _ => ev_c)) fun p H1 hp e1 h1 => ?_
    rw [given_rep, hxl] at h1
    refine q_asg ev_c fun H2 e2 => ?_
    refine q_asg ev_c fun H3 e3 => ?_
    have e03 := (e1.trans e2).trans e3
    have hp3 := (e2.trans e3) p _ h1
    refine q_forR2 (lo := 1) (n := 21) (ea2 ev_c ev_c) ⟨by decide, by decide, by decide, by decide⟩
      (fun i σ H' => ∃ (num dep : Nat) (vs : List V) (o : List Nat) (a b c : Option V), σ = [some (.ref l), some (.ref p), a, some (.int (num : Int)), some (.int (dep : Int)), b, c] ∧ Ex H H' ∧ H' p = some (.lst vs) ∧ TabF p H H' vs (tabOf ls o) ∧ Proc ls (i + 1) 0 o ∧ Num ls o num dep ∧ dep ≤ i + 1)
      (fun H4 e4 => ⟨0, 0, _, [], none, none, none, rfl, e03.trans e4, e4 p _ hp3, by rw [tab_nil]; exact TabF.none _, Proc.zero ls, ⟨by simp [xs], by omega⟩, by omega⟩) ?_ ?_
    · rintro i σ H' hi ⟨num, dep, vs, o, a, b, c, rfl, eh, hl, htf, hpr, hnum, hdp⟩
      refine s_forR1 (n := ((ls.map V.int).length : Int)) (ea1 (ev_len (ev_var rfl) (ex_l eh hs))) ⟨by omega, by omega⟩
        (fun k σ H4 => ∃ (num dep : Nat) (vs : List V) (o : List Nat) (b c : Option V), σ = [some (.ref l), some (.ref p), some (.int (1 + (i : Int))), some (.int (num : Int)), some (.int (dep : Int)), b, c] ∧ Ex H H4 ∧ H4 p = some (.lst vs) ∧ TabF p H H4 vs (tabOf ls o) ∧ Proc ls (i + 1) k o ∧ Num ls o num dep ∧ dep ≤ i + 1)
        (fun H4 e4 => ⟨num, dep, vs, o, b, c, rfl, eh.trans e4, e4 p _ hl, htf.ext e4, hpr, hnum, hdp⟩) ?_ ?_
      · rintro k σ H4 hk ⟨num, dep, vs, o, b, c, rfl, eh4, hl4, htf4, hpr4, hnum4, hdp4⟩
        have hs4 := ex_l eh4 hs
        have hkl : k < ls.length := by omega
        have hgk := ln_of hok hkl
        refine s_when (et_test (ev_eq (i := ls.getD k 0) (j := 1 + (i : Int)) (ev_op (ev_var rfl) (ev_var rfl) (rv_ixL hs4 (atI_at rfl hkl))) (ev_var rfl))) (fun hb H5 e5 => ?_) (fun hb H5 e5 => ?_)
        · have hb' : ls.getD k 0 = 1 + (i : Int) := of_decide_eq_true hb
          have hLk : lnA ls k = i + 1 := by rw [hgk] at hb'; omega
          obtain ⟨hpr5, hko⟩ := hpr4.add hLk (by omega) hkl
          have hxk : xs ls o ≤ 1048576 := by
            have := xs_le2 hok hpr4.pw fun s hs => by have := (hpr4.mem s).mp hs; exact ⟨this.1, this.2.1⟩
            omega
          have hL20 : i + 1 ≤ 20 := by omega
          have hn1 := hnum4.up hdp4 hL20
          have hn1b := Nat.le_trans hn1.le hxk
          have hnb := nat_bd (Nat.le_trans hnum4.le hxk)
          refine q_asg (v := .int ((num * 2 ^ (i + 1 - dep) : Nat) : Int)) (ev_is (ev_op (ev_var rfl) (ev_op ev_c (ev_sub (i := 1 + (i : Int)) (j := (dep : Int)) (ev_var rfl) (ev_var rfl)) (rv_shl ⟨by omega, by omega, by decide⟩)) (rv_mul (by omega))) ?_) fun H6 e6 => ?_
          · congr 1
            have : (1 + (i : Int) - (dep : Int)).toNat = i + 1 - dep := by omega
            rw [this, Int.one_mul, Int.natCast_mul, Int.natCast_pow]
            rfl
          refine q_asg (v := .int (1 + (i : Int))) (ev_var rfl) fun H7 e7 => ?_
          generalize hn2 : num * 2 ^ (i + 1 - dep) = n2 at *
          have e57 := (e5.trans e6).trans e7
          have hbits : (wd ls o k).map V.int = given (1 + (i : Int)).toNat (fun _ => true) (fun j => V.int ((n2 / 2 ^ (i + 1 - 1 - j) % 2 : Nat) : Int)) := by
            rw [hn1.wd hLk]
            unfold given bitsL
            rw [List.filter_eq_self.mpr fun _ _ => rfl, List.map_map]
            have : (1 + (i : Int)).toNat = i + 1 := by omega
            rw [this]
            rfl
          refine q_setLL (j := k) (e57 p _ hl4) (ys := (wd ls o k).map V.int) ?_ (ev_var rfl) (ev_var rfl) (by have := htf4.1; rw [tab_len] at this; omega) fun r H8 hr e8 h8 => ?_
          · rw [hbits]
            refine el_lcR1 (fun _ => true) _ (ea1 (ev_var rfl)) ⟨by omega, by omega⟩ (fun x => rfl) (fun j H1 e hj => et_yes) (fun j H1 e hj _ => ?_)
            have hpp : ∀ y : Fin 21, (0 : Int) < 1 * 2 ^ y.val ∧ (1 : Int) * 2 ^ y.val < 1073741824 := by decide
            have ej : (1 + (i : Int) - 1 - (j : Int)).toNat = i + 1 - 1 - j := by omega
            have hpj := hpp ⟨i + 1 - 1 - j, by omega⟩
            refine ev_is (ev_op (ev_op (ev_var (v := .int (n2 : Int)) rfl) (ev_op ev_c (ev_sub (ev_sub (i := 1 + (i : Int)) (ev_var rfl) ev_c) (ev_var (v := .int (j : Int)) rfl)) (rv_shl ⟨by omega, by omega, by decide⟩)) (rv_div (by rw [ej]; exact hpj.1) (by rw [ej]; exact hpj.2))) ev_c (rv_mod (by decide))) ?_
            rw [ej, Int.one_mul]
            congr 1
          · refine s_asg (v := .int ((n2 + 1 : Nat) : Int)) (ev_is (ev_add (i := (n2 : Int)) (ev_var rfl) ev_c) rfl) fun H9 e9 => ?_
            have e58 := e57.trans e8
            have hrp : r ≠ p := fun z => by
              have := e57 p _ hl4
              rw [← z, hr] at this
              cases this
            have hr0 : H r = none := fresh_back (eh4.trans e57) hr
            have hput : Ex H (upd H8 p (.lst (vs.set k (.ref r)))) := Ex.mut (eh4.trans e58) hp
            refine ⟨n2 + 1, i + 1, vs.set k (.ref r), o ++ [k], _, _, by rw [show ((i + 1 : Nat) : Int) = 1 + (i : Int) by omega]; rfl, hput.trans e9, e9 p _ upd_same, ((htf4.ext e58).set hko hrp hr0 h8).ext e9, hpr5, hn1.add hLk, Nat.le_refl _⟩
        · have hb' : ¬ ls.getD k 0 = 1 + (i : Int) := of_decide_eq_false hb
          have hLk : lnA ls k ≠ i + 1 := by rw [hgk] at hb'; omega
          exact ⟨num, dep, vs, o, _, _, rfl, eh4.trans e5, e5 p _ hl4, htf4.ext e5, hpr4.skip hLk, hnum4, hdp4⟩
      · rintro σ H4 ⟨num, dep, vs, o, b, c, rfl, eh4, hl4, htf4, hpr4, hnum4, hdp4⟩
        have hz : ((ls.map V.int).length : Int).toNat = ls.length := by omega
        rw [hz] at hpr4
        exact ⟨num, dep, vs, o, _, _, _, rfl, eh4, hl4, htf4, hpr4.next, hnum4, by omega⟩
    · rintro σ H' ⟨num, dep, vs, o, a, b, c, rfl, eh, hl, htf, hpr, hnum, hdp⟩
      have hord := Proc.whole hok (show Proc ls 21 0 o from hpr)
      exact s_ret (ev_var rfl) fun H10 e10 => q o hord p vs H10 hp (eh.trans e10) (e10 p _ hl) (htf.ext e10)
end
end K02
set_option linter.all false
/-! Reading words of a prefix code: nodes of a tree, a plain scan. -/
namespace M02
def Bit (p : List Int) : Prop := ∀ b ∈ p, b = 0 ∨ b = 1
def node (p : List Int) : Int := p.foldl (fun n b => 2 * n + b) 1
theorem node_snoc (p : List Int) (b : Int) : node (p ++ [b]) = 2 * node p + b := by
  unfold node
  rw [List.foldl_append]
  rfl
theorem snoc_of {p : List Int} (h : p ≠ []) : ∃ q b, p = q ++ [b] := ⟨p.dropLast, p.getLast h, (List.dropLast_concat_getLast h).symm⟩
theorem Bit.left {p q : List Int} (h : Bit (p ++ q)) : Bit p := fun b hb => h b (List.mem_append_left _ hb)
theorem Bit.last {p : List Int} {b : Int} (h : Bit (p ++ [b])) : b = 0 ∨ b = 1 := h b (List.mem_append_right _ (List.mem_singleton.mpr rfl))
theorem Bit.take {p : List Int} (h : Bit p) (n : Nat) : Bit (p.take n) := fun b hb => h b (List.mem_of_mem_take hb)
theorem Bit.drop {p : List Int} (h : Bit p) (n : Nat) : Bit (p.drop n) := fun b hb => h b (List.mem_of_mem_drop hb)
theorem node_pos : ∀ (n : Nat) (p : List Int), p.length = n → Bit p → 1 ≤ node p
  | 0, p, h, _ => by
    have : p = [] := List.length_eq_zero_iff.mp h
    subst this
    decide
  | n + 1, p, h, hb => by
    obtain ⟨q, b, rfl⟩ := snoc_of (p := p) (fun z => by rw [z] at h; simp at h)
    have h1 := node_pos n q (by simpa using h) hb.left
    have h2 := hb.last
    rw [node_snoc]
    omega
theorem node_inj : ∀ (n : Nat) (p q : List Int), p.length = n → Bit p → Bit q → node p = node q → p = q
  | 0, p, q, h, hp, hq, e => by
    have : p = [] := List.length_eq_zero_iff.mp h
    subst this
    by_cases z : q = []
    · exact z.symm
    · obtain ⟨q1, b, rfl⟩ := snoc_of z
      have h1 := node_pos _ q1 rfl hq.left
      have h2 := hq.last
      rw [node_snoc] at e
      have e1 : node [] = 1 := rfl
      omega
  | n + 1, p, q, h, hp, hq, e => by
    obtain ⟨p1, b, rfl⟩ := snoc_of (p := p) (fun z => by rw [z] at h; simp at h)
    have hp1 := node_pos _ p1 rfl hp.left
    have hb := hp.last
    by_cases z : q = []
    · subst z
      rw [node_snoc] at e
      have e1 : node [] = 1 := rfl
      omega
    · obtain ⟨q1, c, rfl⟩ := snoc_of z
      have hc := hq.last
      rw [node_snoc, node_snoc] at e
      have e1 : b = c := by omega
      have e2 : node p1 = node q1 := by omega
      rw [node_inj n p1 q1 (by simpa using h) hp.left hq.left e2, e1]
abbrev Tab := List (Option (List Int))
/-- the table of a prefix code -/
structure Wds (tab : Tab) : Prop where
  bit : ∀ (k : Nat) w, tab[k]? = some (some w) → Bit w
  ne : ∀ (k : Nat) w, tab[k]? = some (some w) → w ≠ []
  free : ∀ (a b : Nat) wa wb, a ≠ b → tab[a]? = some (some wa) → tab[b]? = some (some wb) → ¬ wa <+: wb
/-- what the tree says of the node of p, when the first n symbols are in -/
structure Tm (tab : Tab) (n : Nat) (m : Int → Option (Option Nat)) : Prop where
  word : ∀ (k : Nat) p, k < n → tab[k]? = some (some p) → m (node p) = some (some k)
  inner : ∀ p, Bit p → (p = [] ∨ ∃ (k : Nat) (w : List Int), k < n ∧ tab[k]? = some (some w) ∧ p <+: w ∧ p ≠ w) → m (node p) = some none
  out : ∀ p, Bit p → p ≠ [] → (∀ (k : Nat) w, k < n → tab[k]? = some (some w) → ¬ p <+: w) → m (node p) = none
theorem Tm.zero (tab : Tab) : Tm tab 0 fun x => if x = 1 then some none else none := by
  refine ⟨fun k p h => absurd h (Nat.not_lt_zero k), fun p hp h => ?_, fun p hp hn h => ?_⟩
  · rcases h with rfl | ⟨k, w, hk, _⟩
    · rfl
    · exact absurd hk (Nat.not_lt_zero k)
  · rw [if_neg]
    intro z
    exact hn (node_inj _ p [] rfl hp (fun b hb => absurd hb List.not_mem_nil) (z.trans rfl))
theorem Tm.skip {tab : Tab} {n : Nat} {m : Int → Option (Option Nat)} (h : Tm tab n m) (e : tab[n]? = some none) : Tm tab (n + 1) m := by
  refine ⟨fun k p hk hw => ?_, fun p hp hh => ?_, fun p hp hn hh => h.out p hp hn fun k w hk hw => hh k w (by omega) hw⟩
  · by_cases z : k = n
    · subst z; rw [e] at hw; cases hw
    · exact h.word k p (by omega) hw
  · refine h.inner p hp ?_
    rcases hh with hh | ⟨k, w, hk, hw, h1, h2⟩
    · exact .inl hh
    · by_cases z : k = n
      · subst z; rw [e] at hw; cases hw
      · exact .inr ⟨k, w, by omega, hw, h1, h2⟩
/-- while the word w of symbol n goes in: its first j bits have their nodes -/
structure Tj (tab : Tab) (n : Nat) (w : List Int) (j : Nat) (m : Int → Option (Option Nat)) : Prop where
  word : ∀ (k : Nat) p, k < n → tab[k]? = some (some p) → m (node p) = some (some k)
  inner : ∀ p, Bit p → (p = [] ∨ (∃ (k : Nat) (v : List Int), k < n ∧ tab[k]? = some (some v) ∧ p <+: v ∧ p ≠ v) ∨ (p <+: w ∧ p.length ≤ j)) → m (node p) = some none
  out : ∀ p, Bit p → p ≠ [] → (∀ (k : Nat) v, k < n → tab[k]? = some (some v) → ¬ p <+: v) → ¬ (p <+: w ∧ p.length ≤ j) → m (node p) = none
theorem Tj.zero {tab : Tab} {n : Nat} {m : Int → Option (Option Nat)} {w : List Int} (h : Tm tab n m) : Tj tab n w 0 m := by
  refine ⟨h.word, fun p hp hh => h.inner p hp ?_, fun p hp hn hh _ => h.out p hp hn hh⟩
  rcases hh with hh | hh | ⟨_, hh⟩
  · exact .inl hh
  · exact .inr hh
  · exact .inl (List.length_eq_zero_iff.mp (by omega))
def put (m : Int → Option (Option Nat)) (x : Int) (v : Option Nat) : Int → Option (Option Nat) := fun y => if y = x then some v else m y
theorem pre_take {p w : List Int} (h : p <+: w) : p = w.take p.length := (List.prefix_iff_eq_take.mp h)
theorem Tj.step {tab : Tab} {n : Nat} {m : Int → Option (Option Nat)} {w : List Int} {j : Nat} (W : Wds tab) (hw : tab[n]? = some (some w)) (h : Tj tab n w j m) (hj : j < w.length) : Tj tab n w (j + 1) (put m (node (w.take (j + 1))) none) := by
  have hbw := W.bit n w hw
  have hbt := hbw.take (j + 1)
  have same : ∀ p, Bit p → node p = node (w.take (j + 1)) → p = w.take (j + 1) := fun p hp e => node_inj _ p _ rfl hp hbt e
  have lt : (w.take (j + 1)).length = j + 1 := by rw [List.length_take]; omega
  refine ⟨fun k p hk hp => ?_, fun p hp hh => ?_, fun p hp hn hh hh2 => ?_⟩
  · unfold put
    rw [if_neg]
    · exact h.word k p hk hp
    · intro z
      have e := same p (W.bit k p hp) z
      exact W.free k n p w (by omega) hp hw (by rw [e]; exact List.take_prefix _ _)
  · unfold put
    by_cases z : node p = node (w.take (j + 1))
    · rw [if_pos z]
    · rw [if_neg z]
      refine h.inner p hp ?_
      rcases hh with hh | hh | ⟨h1, h2⟩
      · exact .inl hh
      · exact .inr (.inl hh)
      · refine .inr (.inr ⟨h1, ?_⟩)
        by_cases q : p.length = j + 1
        · exact absurd (by rw [pre_take h1, q]) z
        · omega
  · unfold put
    rw [if_neg]
    · exact h.out p hp hn hh fun z => hh2 ⟨z.1, by omega⟩
    · intro z
      have e := same p hp z
      exact hh2 ⟨by rw [e]; exact List.take_prefix _ _, by rw [e, lt]; omega⟩
theorem Tj.done {tab : Tab} {n : Nat} {m : Int → Option (Option Nat)} {w : List Int} (W : Wds tab) (hw : tab[n]? = some (some w)) (h : Tj tab n w w.length m) : Tm tab (n + 1) (put m (node w) (some n)) := by
  have hbw := W.bit n w hw
  have same : ∀ p, Bit p → node p = node w → p = w := fun p hp e => node_inj _ p _ rfl hp hbw e
  refine ⟨fun k p hk hp => ?_, fun p hp hh => ?_, fun p hp hn hh => ?_⟩
  · unfold put
    by_cases z : k = n
    · subst z
      rw [hw] at hp
      have : w = p := by simpa using hp
      rw [this, if_pos rfl]
    · rw [if_neg]
      · exact h.word k p (by omega) hp
      · intro q
        have e := same p (W.bit k p hp) q
        subst e
        exact W.free k n p p z hp hw (List.prefix_refl _)
  · unfold put
    rw [if_neg]
    · refine h.inner p hp ?_
      rcases hh with hh | ⟨k, v, hk, hv, h1, h2⟩
      · exact .inl hh
      · by_cases z : k = n
        · subst z
          rw [hw] at hv
          have : w = v := by simpa using hv
          subst this
          exact .inr (.inr ⟨h1, h1.length_le⟩)
        · exact .inr (.inl ⟨k, v, by omega, hv, h1, h2⟩)
    · intro q
      have e := same p hp q
      subst e
      rcases hh with hh | ⟨k, v, hk, hv, h1, h2⟩
      · exact W.ne n p hw hh
      · by_cases z : k = n
        · subst z
          rw [hw] at hv
          exact h2 (by simpa using hv)
        · exact W.free n k p v (fun y => z y.symm) hw hv h1
  · unfold put
    rw [if_neg]
    · exact h.out p hp hn (fun k v hk hv => hh k v (by omega) hv) fun z => hh n w (by omega) hw z.1
    · intro q
      have e := same p hp q
      subst e
      exact hh n p (by omega) hw (List.prefix_refl _)
/-! ### the plain reading of one word -/
inductive Res where
  | ok (k place : Nat)
  | inv
  | trunc
def isPre (tab : Tab) (p : List Int) : Bool := tab.any fun o => match o with
  | some w => decide (w.take p.length = p)
  | none => false
def scan (tab : Tab) (bits : List Int) (at_ : Nat) : Nat → Nat → Res
  | 0, _ => .trunc
  | f + 1, m => match tab.findIdx? (fun o => decide (o = some ((bits.drop at_).take (m + 1)))) with
    | some k => .ok k (at_ + m + 1)
    | none => if isPre tab ((bits.drop at_).take (m + 1)) = true then scan tab bits at_ f (m + 1) else .inv
def read (tab : Tab) (bits : List Int) (at_ : Nat) : Res := scan tab bits at_ (bits.length - at_) 0
theorem isPre_iff {tab : Tab} {p : List Int} : isPre tab p = true ↔ ∃ (k : Nat) (w : List Int), tab[k]? = some (some w) ∧ p <+: w := by
  unfold isPre
  rw [List.any_eq_true]
  constructor
  · rintro ⟨o, ho, h⟩
    cases o with
    | none => cases h
    | some w =>
      obtain ⟨k, hk⟩ := List.mem_iff_getElem?.mp ho
      have h' : w.take p.length = p := of_decide_eq_true h
      exact ⟨k, w, hk, by rw [← h']; exact List.take_prefix _ _⟩
  · rintro ⟨k, w, hk, h⟩
    exact ⟨some w, List.mem_of_getElem? hk, decide_eq_true (pre_take h).symm⟩
theorem idx_some {tab : Tab} {p : List Int} {k : Nat} (h : tab.findIdx? (fun o => decide (o = some p)) = some k) : tab[k]? = some (some p) := by
  obtain ⟨hk, h1, _⟩ := List.findIdx?_eq_some_iff_getElem.mp h
  rw [List.getElem?_eq_getElem hk]
  exact congrArg some (of_decide_eq_true h1)
theorem idx_none {tab : Tab} {p : List Int} (h : tab.findIdx? (fun o => decide (o = some p)) = none) : ∀ k : Nat, tab[k]? ≠ some (some p) := fun k z => by
  have := List.findIdx?_eq_none_iff.mp h _ (List.mem_of_getElem? z)
  simp at this
theorem idx_of {tab : Tab} {p : List Int} {k : Nat} (W : Wds tab) (h : tab[k]? = some (some p)) : tab.findIdx? (fun o => decide (o = some p)) = some k := by
  cases e : tab.findIdx? (fun o => decide (o = some p)) with
  | none => exact absurd h (idx_none e k)
  | some j =>
    have h2 := idx_some e
    by_cases z : j = k
    · rw [z]
    · exact absurd (List.prefix_refl p) (W.free j k p p z h2 h)
/-- a word that stands at the place is read -/
theorem read_word {tab : Tab} {bits w : List Int} {at_ k : Nat} (W : Wds tab) (hw : tab[k]? = some (some w)) (hat : w <+: bits.drop at_) : read tab bits at_ = .ok k (at_ + w.length) := by
  have hne := W.ne k w hw
  have hlen : 0 < w.length := List.length_pos_iff.mpr hne
  have hle := hat.length_le
  rw [List.length_drop] at hle
  have key : ∀ d m f, m + d + 1 = w.length → bits.length - at_ = f + m → scan tab bits at_ f m = .ok k (at_ + w.length) := fun d => by
    induction d with
    | zero =>
      intro m f hm hf
      obtain ⟨f, rfl⟩ : ∃ f', f = f' + 1 := ⟨f - 1, by omega⟩
      have ep : (bits.drop at_).take (m + 1) = w := by
        rw [show m + 1 = w.length by omega]
        exact (pre_take hat).symm
      unfold scan
      rw [ep, idx_of W hw]
      show Res.ok k (at_ + m + 1) = _
      congr 1
      omega
    | succ d ih =>
      intro m f hm hf
      obtain ⟨f, rfl⟩ : ∃ f', f = f' + 1 := ⟨f - 1, by omega⟩
      have ep : (bits.drop at_).take (m + 1) = w.take (m + 1) := by
        have h2 := pre_take hat
        rw [h2, List.take_take]
        congr 1
        omega
      have hn : tab.findIdx? (fun o => decide (o = some (w.take (m + 1)))) = none := by
        cases e : tab.findIdx? (fun o => decide (o = some (w.take (m + 1)))) with
        | none => rfl
        | some j =>
          have h2 := idx_some e
          by_cases z : j = k
          · subst z
            rw [hw] at h2
            have h3 : w = w.take (m + 1) := by simpa using h2
            have h4 := congrArg List.length h3
            rw [List.length_take] at h4
            omega
          · exact absurd (List.take_prefix (m + 1) w) (W.free j k _ w z h2 hw)
      unfold scan
      rw [ep, hn]
      have hp : isPre tab (w.take (m + 1)) = true := isPre_iff.mpr ⟨k, w, hw, List.take_prefix _ _⟩
      show (if isPre tab (w.take (m + 1)) = true then _ else _) = _
      rw [if_pos hp]
      exact ih (m + 1) f (by omega) (by omega)
  exact key (w.length - 1) 0 (bits.length - at_) (by omega) (by omega)
end M02
set_option Elab.async false
set_option linter.all false
set_option maxRecDepth 100000
set_option maxHeartbeats 4000000
/-! Own exceptions whose __init__ reads self.__class__.__name__: the two attributes. -/
namespace KX
open PySem PySem.W PySem.Calls PyProof.Rows Builtin Builtin.ObjectAttr Builtin.Getset_descriptor
section
variable {prog : Program} {w : World} {A : Around} {E : Value → Shared → Prop} {s : Shared} {K : Frag} {R : Result → Shared → Prop} {C : Addr}
theorem nam_args (d tp : Value) (C : Addr) : descrGetArgs ⟨[d, .ref C, tp], []⟩ = pure (d, some (.ref C), given tp) := by first | rfl | kernel_rfl
/-- the getter of a class's name, where the name is kept -/
theorem nam_get {tp v : Value} {o : Obj} (X : K.In s.heap) (hk : K.lookup C = some o) (hs : o.slots[2]? = some (some v)) (tC : typeIn K (.ref C) = some (.type "type")) (h : R (.ok (.ret v)) s) :
    codeAny (model prog w) A (.call (.builtin "getset_descriptor.__get__") ⟨[.builtin "type.__name__", .ref C, tp], []⟩) R s := by
  obtain ⟨hh, g, dr, t, os⟩ := s
  have T0 : Looks (model prog w) hh (typeOf (.ref C)) (.type "type") := looks_typeIn X tC
  have T1 : Looks (model prog w) hh (isSubtype (.type "type") (.type "type")) true := Looks.of_pure (by rw [isSubtype_type] <;> kernel_rfl)
  refine codeAny_call_builtin KF.slot_gs.plain KF.entry_gs (KF.slot_gs.check _ _ _ _ _ _ _ _ ktyn_type (KF.args_gs _ _ _) ?_)
  unfold Builtin.«getset_descriptor.__get__» descrGet
  rw [nam_args]
  refine wpAny_bind (wpAny_pure ?_)
  unfold descrGetter descrCheckInstance descrNameAndClass isInstance
  simp only [ktyn_owner]
  repeat lk
  refine ⟨Code.quiet_builtin _ (by decide +kernel), codeAny_builtin ktyn_entry ?_⟩
  unfold Builtin.«type.__name__»
  dsimp only
  unfold keptObject slotAt
  dsimp only
  have ho := X _ _ hk
  refine wpAny_bind (wpAny_bind (wpAny_loadPart ho (wpAny_pure ?_)))
  rw [hs]
  first
    | exact wpAny_bind (wpAny_pure (wpAny_pure h))
    | exact wpAny_pure (wpAny_pure h)
    | exact wpAny_bind (wpAny_bind (wpAny_pure h))
    | (show wpAny _ _ (ret v >>= _) _ _ _; exact wpAny_bind (wpAny_pure (wpAny_pure h)))
/-- e.__class__, e an exception of an own class -/
theorem exc_cls {x : Addr} {ox : Obj} {od : Option Obj} {expr : Bool} {gt : Option Value} {Q : Value → Shared → Prop} (X : K.In s.heap) (I : InstAt s.heap x ox C od) (g1 : findIn K (.ref C) "__getattribute__" = some (some (.builtin "BaseException.__getattribute__")))
    (g2 : findIn K (.ref C) "__getattr__" = some gt) (g3 : subIn K (.ref C) (.type "BaseException") = some true) (g4 : findObj K C od "__class__" = some (.bind (.builtin "getset_descriptor.__get__") (.builtin "object.__class__"))) (g5 : mroIn K C (.type "object") = some true)
    (q : Q (.ref C) { s with toks := s.toks + 1 }) : wpAny (model prog w) A (getAttr (.ref x) "__class__" expr) Q E s := by
  obtain ⟨hh, gg, dd, tt, oo⟩ := s
  have a0 := I.type (M := model prog w)
  have a3 := looks_find (M := model prog w) X I g4
  have sub : Looks (model prog w) hh (isInstance (.ref x) (.type "BaseException")) true := a0.andThen (looks_subIn X g3)
  have nb : (Value.builtin "BaseException.__getattribute__" == Value.builtin "object.__getattribute__") = false := by decide +kernel
  have n1 : (onTheHeap (Value.ref C) && Value.builtin "BaseException.__getattribute__" == Value.builtin "object.__getattribute__") = false := (congrArg (onTheHeap (Value.ref C) && ·) nb).trans (Bool.and_false _)
  have n0 : (expr && onTheHeap (Value.builtin "BaseException.__getattribute__")) = false := by cases expr <;> rfl
  unfold getAttr getAttrBy
  refine wpAny_bind (wpAny_mkText (wpAny_holding (wpAny_bind (a0.at (wpAny_bind ((looks_findIn X g1).at ?_)))))); show wpAny _ _ (if (onTheHeap (Value.ref C) && Value.builtin "BaseException.__getattribute__" == Value.builtin "object.__getattribute__") = true then _ else _) _ _ _
  rw [n1, if_neg Bool.false_ne_true]; unfold getAttrByItsOwn hookBefore
  refine wpAny_bind ?_; rw [if_pos (show onTheHeap (Value.ref C) = true from rfl)]
  refine (looks_findIn X g2).at (wpAny_bind (wpAny_attempt (wpAny_holding ?_))); unfold callGetattribute
  rw [n0, if_neg Bool.false_ne_true]; unfold boundAndCalled
  rw [PySem.F.excAttr_ValueError.ga.bind (.ref x)]; refine wpAny_bind (wpAny_pure ?_); show wpAny _ _ (call (.builtin "BaseException.__getattribute__") [.ref x, .str "__class__" tt]) _ _ _
  refine wpAny_call (codeAny_call_builtin PySem.F.excAttr_ValueError.ga.plain PySem.F.entry_bexc_ga (@PySem.W.check_slot (model prog w) _ _ ⟨hh, gg, dd, tt + 1, oo⟩ "BaseException.__getattribute__" "BaseException" "__getattribute__" (.ref x) [.str "__class__" tt] [] _ (by decide +kernel) (by decide +kernel) sub (PySem.F.args_bexc_ga (.ref x) (.str "__class__" tt)) ?_))
  unfold Builtin.«object.__getattribute__»; refine wpAny_bind (wpAny_of_eq (a := ((Value.ref x : Value), [Value.str "__class__" tt])) (by first | rfl | (simp only [slotArgs]; rfl)) (wpAny_bind (wpAny_pure (wpAny_bind (a0.at (wpAny_bind (a3.at ?_)))))))
  refine wpAny_bind (wpAny_holding (wpAny_call (class_get (s := ⟨hh, gg, dd, tt + 1, oo⟩) (ox := ox) (od := od) X I g5 ?_))); refine wpAny_pure ?_
  show wpAny _ _ (handedOut (.ref C)) _ _ _
  rw [handedOut_of (show handedIn (.ref C) = true from rfl)]
  first
    | exact wpAny_pure q
    | exact wpAny_pure (wpAny_pure q)
end
open L2
/-- what the written part says of a class's name -/
structure NamK (K : PySem.W.Frag) (C : Addr) (nm : Str) : Prop where
  ob : ∃ (o : Obj) (tk : Tok), K.lookup C = some o ∧ o.slots[2]? = some (some (.str nm tk))
  ty : PySem.W.typeIn K (.ref C) = some (.type "type")
  rd : PySem.W.readsIn K C (.type "type") = true
  fd : PySem.W.findCls K (.ref C) (.type "type") "__name__" = some (.get (.builtin "getset_descriptor.__get__") (.builtin "type.__name__") (.ref C) (.type "type"))
def tECls (K : PySem.W.Frag) (te : TE) : TE := fun σ H Q => te σ H fun x H1 => ∃ (a C dx : Addr) (fs : List (Str × V)), x = .ref a ∧ ExcC K C ∧ H1 a = some (exo a C (some dx)) ∧ H1 dx = some (exd dx fs) ∧ Q (.ref C) H1
def tCNam (K : PySem.W.Frag) (te : TE) : TE := fun σ H Q => te σ H fun x H1 => ∃ (C : Addr) (nm : Str), x = .ref C ∧ NamK K C nm ∧ Q (.str nm) H1
/-- BaseException.__init__ over an exception that has its dict -/
theorem init_dict {prog : Program} {w : World} {A : Around} {R : Result → Shared → Prop} {h : Heap} {g : Array GenState} {d : Drawn} {t : Nat} {os : OsState} {nm q : Str} {C N : Addr} {bs bm bmB : List Value} {hdct : Bool} {sn : List Str} {sub : List Value} {ab : Bool} {col : Option Bool} {dd : Option Addr} {k0 k1 k2 k3 k5 : Option Value} {B newId initId : String}
    (F : ExcBaseFacts B newId initId bmB) (hT : ∀ X : String, bm.contains (.type X) = bmB.contains (.type X)) {e t0 : Addr} {od : Option Addr} {rest : List Value} (hC : h.get? C = some (excClassObj nm q C N bs bm hdct sn sub ab col dd k0 k1 k2 k3 k5 newId))
    (he : h.get? e = some ({ cls := .ref C, dict := od, data := .fields #[.ref t0, .none, .none, .none, .bool false, .none] } : Obj)) (hr : rest.length ≤ sizeLine)
    (hq : ∀ h' (t1 : Addr), (∀ b o, b ≠ e → h.get? b = some o → h'.get? b = some o) → h'.get? e = some ({ cls := .ref C, dict := od, data := .fields #[.ref t1, .none, .none, .none, .bool false, .none] } : Obj) → R (.ok (.ret .none)) ⟨h', g, d, t, os⟩) :
    codeAny (model prog w) A (.call (.builtin initId) ⟨.ref e :: rest, []⟩) R ⟨h, g, d, t, os⟩ := by
  refine codeAny_call_builtin F.init.plain F.initEntry (PySem.HandSPX.check_init_own F hT hC he rfl ?_)
  wp_walk
  refine hq _ h.objs.size (fun b o hb ho => ?_) ?_
  · rw [Heap.get?_update_other _ _ (fun z => hb z.symm), Heap.get?_push_of_some _ ho]
  · rw [Heap.get?_update_self _ (Heap.get?_push_of_some _ he) rfl]; rfl
section
variable {X : Cx} {pins : List (Addr × Obj)} {σ : L2.St} {H : Hp} {s : Shared} {A : Around} {E : Value → Shared → Prop} {C a : Addr}
theorem init_okD {us : List Value} {od : Option Addr} {Q : Value → Shared → Prop} (T : OexC X.K C) (I : Inv X pins σ H s) (e : H a = some (exo a C od)) (hl : us.length ≤ sizeLine) (h : ∀ s', Inv X pins σ H s' → Q .none s') :
    wpAny (model X.prog X.w) A (call (.builtin "ValueError.__init__") (.ref a :: us)) Q E s := by
  obtain ⟨nm, q, N, bs, bm, sn, sub, ab, col, dd, k0, k1, k2, k3, k5, hC, hbm⟩ := T.cls
  obtain ⟨t1, ho⟩ := exo_at I.hok e
  obtain ⟨hp, g, d, t, os⟩ := s
  refine wpAny_call (init_dict F.excBase_ValueError (fun Y => PySem.HandSPX.refsVE_contains Y bm hbm) (I.kIn _ _ hC) ho hl fun h' t2 k hx => ?_)
  have J := I.write (t' := t) (x := a) (e := a) (o := exo a C od) (by rw [e]; exact True.intro) (.inl rfl) k ⟨_, hx⟩ (exo_ok hx)
  have eu : upd H a (exo a C od) = H := GX.upd_id e
  rw [eu] at J
  exact h _ J
end
section
variable {X : Cx} {e : Expr} {te : TE} {pos : Pos}
/-- ValueError.__init__(self, ..), self with or without its dict -/
def tVeD (K : PySem.W.Frag) (ta : TA) : TE := fun σ H Q => ta σ H fun vs H1 => ∃ (a C : Addr) (od : Option Addr) (ws : List V), vs = .ref a :: ws ∧ ws.length ≤ 1000 ∧ OexC K C ∧ H1 a = some (exo a C od) ∧ Q .non H1
theorem pe_veD {es : List Expr} {ta : TA} {p1 p2 : Pos} {pl : Sem Bool} (hg : Gl X "ValueError") (hm : X.mg "ValueError" = none) (vV : PySem.W.findCls X.K (.type "ValueError") (.type "type") "__init__" = some (.val (.builtin "ValueError.__init__"))) (ha : PA X (e :: es) ta)
    (hc : eval (.Call (.Attribute (.Name "ValueError" p1) "__init__" p2) (e :: es) [] pos) X.env = (eval (.Name "ValueError" p1) X.env >>= fun ov => standAt p2.atName >>= fun _ => holding [ov] (getMethod ov "__init__" pl) >>= fun r => callWith pos r.1 r.2 (backTo pos (starEach (e :: es) X.env)) (backToKw pos (keywordEach [] X.env))) := by rfl)
    (he : starEach (e :: es) X.env = (false, eval e X.env) :: starEach es X.env := by rfl) (hpl : (backTo pos (starEach es X.env)).any (·.1) = false := by rfl) :
    PE X (.Call (.Attribute (.Name "ValueError" p1) "__init__" p2) (e :: es) [] pos) (tVeD X.K ta) := by
  refine ⟨fun pins s σ H Q I h => ?_⟩
  refine PySem.W.methodCall_KW (ld_blt I hg hm PyProof.Rows.Boot.«ValueError» ?_ (by decide) (by decide)) hc
  obtain ⟨m, fr⟩ := I.fr
  refine PySem.W.method_type fr I.ok.mod.kin PySem.OEX.typ_VE (by decide +kernel) vV (by decide +kernel) ?_
  show wpAny _ _ (callWith pos (Value.builtin "ValueError.__init__") [] (backTo pos (starEach (e :: es) X.env)) []) _ _ _
  refine PyProof.Rows.callWith_method1 (thn (ha.run pos pins _ σ H _ (I.tok _) h) fun us s1 ⟨vs, H1, I1, r1, a, C, od, ws, ev, hl, T, ea, q⟩ => ?_) he hpl
  subst ev
  cases r1 with
  | @cons _ u0 _ ur ra rr =>
    obtain rfl : u0 = Value.ref a := ra
    exact init_okD T I1 ea (by rw [← Paired.length rr, sizeLine_eq]; omega) fun s' J => ⟨.non, H1, J, rfl, q⟩
end
section
variable {X : Cx} {e : Expr} {te : TE} {pos : Pos}
theorem pe_cnam (he : PE X e te) (hb : attributeBase e "__name__" X.env (eval e X.env) = eval e X.env := by rfl) : PE X (.Attribute e "__name__" pos) (tCNam X.K te) := by
  refine ⟨fun pins s σ H Q I h => ?_⟩
  refine attr_of hb (thn (he.run pins s σ H _ I h) fun u s1 ⟨x, H1, I1, rx, C, nm, ex, N, q⟩ => ?_)
  subst ex
  obtain rfl : u = Value.ref C := rx
  obtain ⟨o, tk, k1, k2⟩ := N.ob
  refine PySem.W.cls_bind I1.kIn N.rd N.fd ?_
  have I2 := I1.tok (s1.toks + 1)
  refine wpAny_call (nam_get (s := { s1 with toks := s1.toks + 1 }) I2.kIn k1 k2 N.ty ?_)
  exact PySem.W.handed_on rfl ⟨.str nm, H1, I2, ⟨tk, rfl⟩, q⟩
theorem pe_ecls (he : PE X e te) (hb : attributeBase e "__class__" X.env (eval e X.env) = eval e X.env := by rfl) : PE X (.Attribute e "__class__" pos) (tECls X.K te) := by
  refine ⟨fun pins s σ H Q I h => ?_⟩
  refine attr_of hb (thn (he.run pins s σ H _ I h) fun u s1 ⟨x, H1, I1, rx, a, C, dx, fs, ex, T, ea, ed, q⟩ => ?_)
  subst ex
  obtain rfl : u = Value.ref a := rx
  obtain ⟨t1, ho⟩ := exo_at I1.hok ea
  obtain ⟨mA, hns, rel⟩ := exd_at I1.hok ed
  obtain ⟨oD, _, _, hoD, _, _⟩ := hns.count (within_of rel)
  have J : PySem.W.InstAt s1.heap a { cls := .ref C, dict := some dx, data := .fields #[.ref t1, .none, .none, .none, .bool false, .none] } C (some oD) := ⟨ho, rfl, rfl, hoD⟩
  obtain ⟨cd, hc, _⟩ := PySem.W.any_some T.hd
  exact exc_cls I1.kIn J T.hg T.hk T.hs (PySem.W.findObj_dataE (by rw [hc] <;> rfl) T.ha T.hn T.ht) T.hm ⟨.ref C, H1, I1.tok _, rfl, q⟩
end
end KX
set_option Elab.async false
set_option linter.all false
set_option maxRecDepth 100000
set_option maxHeartbeats 4000000
namespace K02
open PySem PySem.Spec PyProof.Rows L2 StX GX KC Evl M01 M02
structure GT (mg : Str → Option Value) (tk : Tok) : Prop where
  g_ROOT : mg "ROOT" = some (.int 1 tk)
theorem ent_mem {ls : List Int} {o : List Nat} {k : Nat} {w : List Int} (h : (tabOf ls o)[k]? = some (some w)) : k ∈ o ∧ w = wd ls (upTo o k) k ∧ k < ls.length := by
  have hk : k < ls.length := by
    have := (List.getElem?_eq_some_iff.mp h).1
    rwa [tab_len] at this
  rw [tab_at hk] at h
  have h' := Option.some.inj h
  unfold ent at h'
  by_cases z : k ∈ o
  · rw [if_pos z] at h'
    exact ⟨z, (Option.some.inj h').symm, hk⟩
  · rw [if_neg z] at h'
    cases h'
theorem bits_bit (x l : Nat) : Bit (bitsL x l) := fun b hb => by
  obtain ⟨j, _, rfl⟩ := List.mem_map.mp hb
  omega
theorem wds {ls : List Int} {o : List Nat} (hl : Lok ls) (h : IsOrd ls o) (hk : kraft ls ≤ 1048576) : Wds (tabOf ls o) := by
  refine ⟨fun k w hw => ?_, fun k w hw => ?_, fun a b wa wb hab ha hb hp => ?_⟩
  · obtain ⟨_, rfl, _⟩ := ent_mem hw
    exact bits_bit _ _
  · obtain ⟨hm, rfl, _⟩ := ent_mem hw
    intro z
    have h1 : (wd ls (upTo o k) k).length = lnA ls k := bits_len _ _
    rw [z] at h1
    have := ((h.mem k).mp hm).2
    simp at h1
    omega
  · obtain ⟨hma, rfl, _⟩ := ent_mem ha
    obtain ⟨hmb, rfl, _⟩ := ent_mem hb
    have h1 : (wd ls (upTo o a) a).length = lnA ls a := bits_len _ _
    have h2 := pre_take hp
    rw [h1] at h2
    exact M01.free hl h hk hma hmb hab h2.symm
theorem wd_len {ls : List Int} {o : List Nat} (hl : Lok ls) {k : Nat} {w : List Int} (h : (tabOf ls o)[k]? = some (some w)) : w.length ≤ 20 := by
  obtain ⟨_, rfl, _⟩ := ent_mem h
  have h1 : (wd ls (upTo o k) k).length = lnA ls k := bits_len _ _
  rw [h1]
  exact ln_le hl k
/-! the tree's dict -/
def oV : Option Nat → V
  | none => .non
  | some k => .int (k : Int)
def MpR (kvs : List (Key × V)) (m : Int → Option (Option Nat)) : Prop := ∀ x : Int, valV kvs (.inl x) = (m x).map oV
theorem MpR.put {kvs : List (Key × V)} {m : Int → Option (Option Nat)} (h : MpR kvs m) (x : Int) (v : Option Nat) : MpR (putK kvs (.inl x) (oV v)) (put m x v) := fun y => by
  rw [valV_put]
  unfold M02.put
  by_cases z : y = x
  · subst z
    rw [if_pos rfl, if_pos rfl] <;> rfl
  · rw [if_neg (fun q => z (Sum.inl.inj q)), if_neg z]
    exact h y
theorem InV.oth {p q : Addr} {H0 H : Hp} {v : V} {o : Option (List Int)} {u x : HO} (hq : H0 q = some u) (h : InV p H0 H v o) : InV p H0 (upd H q x) v o := by
  cases o with
  | none => exact h
  | some bs =>
    obtain ⟨r, h1, h2, h3, h4⟩ := h
    exact ⟨r, h1, h2, h3, by rw [upd_ne (fun z => by rw [z, hq] at h3; cases h3)]; exact h4⟩
theorem TabF.oth {p q : Addr} {H0 H : Hp} {vs : List V} {tab : List (Option (List Int))} {u x : HO} (hq : H0 q = some u) (h : TabF p H0 H vs tab) : TabF p H0 (upd H q x) vs tab := ⟨h.1, fun k v o h1 h2 => (h.2 k v o h1 h2).oth hq⟩
section
variable {P : Program} {w : World} {K : PySem.W.Frag} {mg : Str → Option Value} {base : Heap}
/-- d[y] = v -/
theorem s_dput {σ : L2.St} {H : Hp} {td ty tv : TE} {D : Ends} {d : Addr} {kvs : List (Key × V)} {x : Int} {v : V} (hd : H d = some (.dK kvs)) (hz : kvs.length < 100000) (h1 : Ev tv σ H v) (h2 : Ev td σ H (.ref d)) (h3 : Ev ty σ H (.int x)) (k : ∀ H1, Ex H H1 → D.nx σ (upd H1 d (.dK (putK kvs (.inl x) v)))) :
    sDPut td ty tv D σ H := h1 H (Ex.refl H) _ fun H1 e1 => h2 H1 e1 _ fun H2 e2 => h3 H2 (e1.trans e2) _ fun H3 e3 =>
  ⟨d, _, rfl, DPut.k (k := .inl x) (((e1.trans e2).trans e3) d _ hd) (sz_lt hz), k H3 ((e1.trans e2).trans e3)⟩
def spTree (K : PySem.W.Frag) (Pt : Addr) : Sp := fun vs H Q _ => ∃ (l : Addr) (ls : List Int) (o : List Nat), vs = [.ref l] ∧ SqL K H l (ls.map V.int) ∧ Lok ls ∧ ls.length ≤ 100 ∧ kraft ls ≤ 1048576 ∧ H Pt = some (TabX Pt) ∧ IsOrd ls o ∧
  ∀ p kvs m H2, H p = none → Ex H H2 → H2 p = some (.dK kvs) → MpR kvs m → Tm (tabOf ls o) ls.length m → Q (.ref p) H2
theorem ok_word_tree {f : Addr} {fd : FuncData} {k : Nat} {tk : Tok} {Pt : Addr} (F : Fun K "word_tree" "word_tree" s_word_tree f fd) (T : GT mg tk) (B : Bs mg) (C_words : Cal P w K mg base "words" 7 ["lengths"] (spWords K Pt)) : FnOk P w K mg base CX0 (k + 8) f fd ["lengths"] (spTree K Pt) := by
  refine F.ok sc_word_tree (fun vs H Q E h => ?_) (fun cdv A outer s H vs Q E hr h => ?_)
  · obtain ⟨l, ls, o, rfl, _⟩ := h
    rfl
  · obtain ⟨l, ls, o, rfl, hs, hok, hn, hkr, htab, hord, q⟩ := h
    have hu : (A.deeper (envOfC "word_tree" (defScope s_word_tree) s.heap.objs.size f cdv)).units + 1 < cLine := by
      have := hr.un
      omega
    refine ⟨_, (pss_cons (ps_set (i := 1) sc_word_tree.nd rfl (Or.inl rfl) (pe_disp (pps_cons (pe_glob (v := .int 1) (by rfl) T.g_ROOT ⟨_, rfl⟩) pe_non pps_nil) rfl rfl (fun z => nomatch z) (by show 1 ≤ 15; decide)))
      (pss_cons (ps_for PassesOwn.never rfl (pi_enum (by rfl) B.enumerate (pa_cons (pe_callC C_words (hr.mono (by omega)) (by rfl) (pa_cons (pv 0) pa_nil)) pa_nil)) (pg_tup rfl (pgs_cons (pg_name (i := 2) sc_word_tree.nd rfl (Or.inl rfl)) (pgs_cons (pg_name (i := 3) sc_word_tree.nd rfl (Or.inl rfl)) pgs_nil))) (pss_one (ps_if (pt_cmpR op_notN (pv 3) pe_non (nomark _)) (pss_cons (ps_set (i := 4) sc_word_tree.nd rfl (Or.inl rfl) (pe_glob (v := .int 1) (by rfl) T.g_ROOT ⟨_, rfl⟩))
      (pss_cons (ps_for PassesOwn.never rfl (pi_list (pv 3)) (pg_name (i := 5) sc_word_tree.nd rfl (Or.inl rfl)) (pss_cons (ps_set (i := 4) sc_word_tree.nd rfl (Or.inl rfl) (pe_op op_add (pe_op op_mul pe_int (pv 4)) (pv 5)))
      (pss_one (ps_dput hu (pv 1) (pv 4) pe_non rfl))))
      (pss_one (ps_dput hu (pv 1) (pv 4) (pv 2) rfl)))) pss_nil)))
      (pss_one (ps_ret (pv 1))))), ?_⟩
    have W := wds hok hord hkr
    -- tree = {ROOT: None}
    refine fun p hp => ⟨upd_same, [(.inl 1, .non)], rfl, by show 1 ≤ 15; decide, ?_⟩
    have hov : upd (upd H p (.dK [])) p (.dK (mergeK [] [(Sum.inl 1, V.non)])) = upd H p (.dK [(.inl 1, .non)]) := by
      funext b
      by_cases e : b = p
      · rw [e, upd_same, upd_same]
        rfl
      · rw [upd_ne e, upd_ne e, upd_ne e]
    rw [hov]
    have e1 : Ex H (upd H p (.dK [(.inl 1, .non)])) := Ex.new hp
    generalize hH1 : upd H p (.dK [(.inl 1, .non)]) = H1 at *
    have hp1 : H1 p = some (.dK [(.inl 1, .non)]) := by rw [← hH1, upd_same]
    have hm0 : MpR [(.inl 1, .non)] (fun x => if x = 1 then some none else none) := fun x => by
      show valV [((Sum.inl 1 : Key), V.non)] (.inl x) = _
      by_cases z : x = 1
      · subst z
        rfl
      · show _ = Option.map oV (if x = 1 then some none else none)
        rw [if_neg z, valV_neg (fun q => z (Sum.inl.inj q).symm)]
        rfl
    -- for symbol, word in enumerate(words(lengths))
    refine ⟨_, rfl, l, ls, o, rfl, ex_l e1 hs, hok, hn, hkr, e1 Pt _ htab, hord, fun pw vw H2 hpw e2 h2 htf => ?_⟩
    have hvl : vw.length = ls.length := by rw [htf.1, tab_len]
    have hpwp : pw ≠ p := fun z => by rw [z, hp1] at hpw; cases hpw
    refine ⟨pw, vw, rfl, sq_of h2, fun i m σ H' => m + i = ls.length ∧ ∃ (kvs : List (Key × V)) (mp : Int → Option (Option Nat)) (a b c d : Option V), σ = [some (.ref l), some (.ref p), a, b, c, d] ∧ Ex H H' ∧ H' pw = some (.lst vw) ∧ TabF pw H1 H' vw (tabOf ls o) ∧ H' p = some (.dK kvs) ∧ MpR kvs mp ∧ Tm (tabOf ls o) i mp ∧ kvs.length ≤ 1 + i * 21,
      ⟨ls.length, by omega, _, _, none, none, none, none, rfl, e1.trans e2, h2, htf, e2 p _ hp1, hm0, Tm.zero _, by simp⟩, ?_⟩
    rintro i m σ H' ⟨hm, kvs, mp, a, b, c, d, rfl, eh, hw, htf', hd, hmp, htm, hkl⟩
    by_cases hi : i < ls.length
    · right
      obtain ⟨v, hv⟩ : ∃ v, vw[i]? = some v := ⟨_, List.getElem?_eq_getElem (by omega)⟩
      refine ⟨⟨vw, v, sq_of hw, hv⟩, fun σ H' => (m - 1) + (i + 1) = ls.length ∧ ∃ (kvs : List (Key × V)) (mp : Int → Option (Option Nat)) (a b c d : Option V), σ = [some (.ref l), some (.ref p), a, b, c, d] ∧ Ex H H' ∧ H' pw = some (.lst vw) ∧ TabF pw H1 H' vw (tabOf ls o) ∧ H' p = some (.dK kvs) ∧ MpR kvs mp ∧ Tm (tabOf ls o) (i + 1) mp ∧ kvs.length ≤ 1 + (i + 1) * 21,
        fun σ H' q => ⟨m - 1, by omega, q⟩, ?_⟩
      rintro x H5 ⟨t, v2, rfl, ht, rfl, hv2⟩
      have ev := Option.some.inj (hv.symm.trans (hv2 _ (sq_of hw)))
      subst ev
      have e5 : Ex H' (upd H' t (.tup [.int (i : Int), v])) := Ex.new ht
      refine ⟨t, _, rfl, .inl (.inl upd_same), rfl, _, _, rfl, _, _, rfl, rfl, ?_⟩
      generalize hH5 : upd H' t (.tup [.int (i : Int), v]) = H5 at *
      have hent := htf'.2 i v _ hv (tab_at hi)
      refine s_when (b := !decide (v = .non)) (et_test (ev_op (ev_var rfl) ev_c (rv_val fun H1 _ Q q => ⟨rfl, q⟩))) (fun hb H6 e6 => ?_) (fun hb H6 e6 => ?_)
      · obtain ⟨bs, r, hbs, rfl⟩ : ∃ bs r, ent ls o i = some bs ∧ v = .ref r := by
          cases he : ent ls o i with
          | none =>
            rw [he] at hent
            have z : v = .non := hent
            rw [z] at hb
            cases hb
          | some bs =>
            rw [he] at hent
            obtain ⟨r, z, _⟩ := hent
            exact ⟨bs, r, rfl, z⟩
        rw [hbs] at hent
        obtain ⟨r2, er, hrpw, hr1, hrl⟩ := hent
        cases er
        have htw : (tabOf ls o)[i]? = some (some bs) := by rw [tab_at hi, hbs]
        have hb20 := wd_len hok htw
        have hrp : r ≠ p := fun z => by rw [z, hp1] at hr1; cases hr1
        refine q_asg (v := .int 1) ev_c fun H7 e7 => ?_
        have e57 := (e5.trans e6).trans e7
        have hr7 := e57 r _ hrl
        refine q_forL (ev_var rfl) (sq_of hr7) (fun j σ H8 => ∃ (kvs : List (Key × V)) (mp : Int → Option (Option Nat)) (d : Option V), σ = [some (.ref l), some (.ref p), some (.int (i : Int)), some (.ref r), some (.int (node (bs.take j))), d] ∧ Ex H H8 ∧ H8 pw = some (.lst vw) ∧ TabF pw H1 H8 vw (tabOf ls o) ∧ H8 p = some (.dK kvs) ∧ MpR kvs mp ∧ Tj (tabOf ls o) i bs j mp ∧ kvs.length ≤ 1 + i * 21 + j ∧ H8 r = some (.lst (bs.map V.int)))
          (fun H8 e8 => ⟨kvs, mp, _, rfl, (eh.trans e57).trans e8, (e57.trans e8) pw _ hw, htf'.ext (e57.trans e8), (e57.trans e8) p _ hd, hmp, Tj.zero htm, by omega, e8 r _ hr7⟩)
          (fun j σ H8 _ hP => by
            obtain ⟨_, _, _, _, _, _, _, _, _, _, _, z⟩ := hP
            exact sq_of z) ?_ ?_
        · rintro j x σ H8 hj ⟨kvs, mp, d, rfl, eh8, hw8, htf8, hd8, hmp8, htj, hkl8, hr8⟩
          have hjl : j < bs.length := by
            have := (List.getElem?_eq_some_iff.mp hj).1
            rwa [List.length_map] at this
          have hx : x = .int (bs.getD j 0) := by
            rw [int_at hjl] at hj
            exact (Option.some.inj hj).symm
          subst hx
          have htk : bs.take (j + 1) = bs.take j ++ [bs.getD j 0] := by
            rw [List.getD_eq_getElem?_getD, List.getElem?_eq_getElem hjl]
            exact (List.take_append_getElem hjl).symm
          have hnode : node (bs.take (j + 1)) = 2 * node (bs.take j) + bs.getD j 0 := by rw [htk, node_snoc]
          refine q_asg (v := .int (node (bs.take (j + 1)))) (ev_is (ev_add (ev_op ev_c (ev_var rfl) (rv_mul (by decide))) (ev_var rfl)) (by rw [hnode])) fun H9 e9 => ?_
          refine s_dput (e9 p _ hd8) (by omega) ev_c (ev_var rfl) (ev_var rfl) fun H10 e10 => ?_
          have e810 := e9.trans e10
          refine ⟨_, _, _, rfl, Ex.mut (eh8.trans e810) hp, by rw [upd_ne hpwp]; exact e810 pw _ hw8, (htf8.ext e810).oth hp1, upd_same, hmp8.put (node (bs.take (j + 1))) none, htj.step W htw hjl, ?_, by rw [upd_ne hrp]; exact e810 r _ hr8⟩
          have := length_putK kvs (Sum.inl (node (bs.take (j + 1)))) V.non
          omega
        · rintro σ H8 ⟨kvs, mp, d, rfl, eh8, hw8, htf8, hd8, hmp8, htj, hkl8, hr8⟩
          rw [List.length_map] at htj hkl8
          have htl : bs.take (bs.map V.int).length = bs := by rw [List.length_map, List.take_length]
          rw [htl]
          refine s_dput (v := .int (i : Int)) hd8 (by omega) (ev_var rfl) (ev_var rfl) (ev_var rfl) fun H9 e9 => ?_
          refine ⟨by omega, _, _, _, _, _, _, rfl, Ex.mut (eh8.trans e9) hp, by rw [upd_ne hpwp]; exact e9 pw _ hw8, (htf8.ext e9).oth hp1, upd_same, hmp8.put (node bs) (some i), htj.done W htw, ?_⟩
          have := length_putK kvs (Sum.inl (node bs)) (V.int (i : Int))
          omega
      · have hvn : v = .non := by simpa using hb
        have htn : (tabOf ls o)[i]? = some none := by
          rw [tab_at hi]
          cases he : ent ls o i with
          | none => rfl
          | some bs =>
            rw [he, hvn] at hent
            obtain ⟨r, z, _⟩ := hent
            cases z
        have e56 := e5.trans e6
        exact ⟨by omega, kvs, mp, _, _, _, _, rfl, eh.trans e56, e56 pw _ hw, htf'.ext e56, e56 p _ hd, hmp, htm.skip htn, by omega⟩
    · left
      have hin : i = ls.length := by omega
      subst hin
      exact ⟨⟨vw, sq_of hw, by omega⟩, s_ret (ev_var rfl) fun H6 e6 => q p kvs mp H6 hp (eh.trans e6) (e6 p _ hd) hmp htm⟩
end
end K02
set_option Elab.async false
set_option linter.all false
set_option maxRecDepth 100000
set_option maxHeartbeats 4000000
namespace K02
open PySem PySem.Spec PyProof.Rows L2 StX GX KC Evl M01 M02 KX
/-- what the written part says of an own error class and its fields -/
structure ErrK (K : PySem.W.Frag) (C : Addr) (nm : Str) : Prop where
  oc : OexC K C
  ec : L2.ExcC K C
  nk : NamK K C nm
  f1 : PySem.W.findIn K (.ref C) "place" = some none
  f2 : PySem.W.findIn K (.ref C) "name" = some none
def flds (nm : Str) (i : Int) : List (Str × V) := [("name", .str nm), ("place", .int i)]
def spInit (K : PySem.W.Frag) : Sp := fun vs H Q _ => ∃ (a C : Addr) (i : Int) (nm : Str), vs = [.ref a, .int i] ∧ H a = some (exo a C none) ∧ ErrK K C nm ∧ i.natAbs < 2 ^ 100 ∧
  ∀ dx H2, H dx = none → dx ≠ a → H2 a = some (exo a C (some dx)) → H2 dx = some (exd dx (flds nm i)) → (∀ b, b ≠ a → b ≠ dx → H2 b = H b) → Q .non H2
abbrev s_init : Stmt := inClass (topS 1) 0
theorem sc_init : FnScope ["self", "place"] ["self", "place"] (defScope s_init) := ⟨rfl, rfl, rfl, by decide +kernel, rfl, by decide +kernel, by decide +kernel⟩
theorem log_bd {n : Nat} (h : n < 2 ^ 100) : n.log2 < 1920 := by
  by_cases z : n = 0
  · subst z; decide
  · have := (Nat.log2_lt z).mpr h
    omega
theorem ofString_len (s : String) : (Str.ofString s).length = s.length := by
  rw [Str.ofString_eq_toList]
  show (s.toList.map Char.toNat).toArray.size = _
  rw [List.size_toArray, List.length_map, String.length_toList]
theorem text_fits {i : Int} (h : i.natAbs < 2 ^ 100) : (Str.empty ++ Str.ofString "at place " ++ Str.ofString (toString i)).length ≤ sizeLine := by
  have h1 := int_text_length_le (a := i) (k := 1920) (by decide) (log_bd h)
  have h2 := ofString_len (toString i)
  show (((#[] : Array Nat) ++ (Str.ofString "at place ").cps) ++ (Str.ofString (toString i)).cps).size ≤ _
  rw [Array.size_append, Array.size_append]
  have h3 : (Str.ofString (toString i)).cps.size = (toString i).length := h2
  have h4 : (Str.ofString "at place ").cps.size = 9 := by decide
  have h5 : 10000 ≤ sizeLine := by decide
  rw [h3, h4]
  show 0 + 9 + _ ≤ _
  omega
section
variable {P : Program} {w : World} {K : PySem.W.Frag} {mg : Str → Option Value} {base : Heap}
theorem ok_init {f : Addr} {fd : FuncData} {k : Nat} (F : Fun K "__init__" "KraftroomError.__init__" s_init f fd) (hV : mg "ValueError" = none) (vV : PySem.W.findCls K (.type "ValueError") (.type "type") "__init__" = some (.val (.builtin "ValueError.__init__"))) : FnOk P w K mg base CX0 (k + 1) f fd ["self", "place"] (spInit K) := by
  refine F.ok sc_init (fun vs H Q E h => ?_) (fun cdv A outer s H vs Q E hr h => ?_)
  · obtain ⟨a, C, i, nm, rfl, _⟩ := h
    rfl
  · obtain ⟨a, C, i, nm, rfl, ha, ⟨T, EC, N, n1, n2⟩, hi, q⟩ := h
    refine ⟨_, pss_cons (ps_ost (pv 0) (pv 1)) (pss_cons (ps_ost (pv 0) (pe_cnam (pe_ecls (pv 0)))) (pss_one (ps_expr (pe_veD (by rfl) hV vV (pa_cons (pv 0) (pa_cons (pe_joined (.cons pe_str (.cons (pe_fmt (pv 1)) .nil))) pa_nil)))))), ?_⟩
    refine ⟨_, rfl, _, rfl, a, C, rfl, T, n1, .inl ⟨ha, fun dx hdx hne => ?_⟩⟩
    have hda : ∀ {H' : Hp} {o : HO}, (upd (upd H dx o) a (exo a C (some dx))) dx = some o := fun {H' o} => by rw [upd_ne hne, upd_same]
    refine ⟨_, rfl, a, C, dx, _, rfl, EC, upd_same, hda (H' := H), C, nm, rfl, N, _, rfl, a, C, rfl, T, n2, .inr ⟨dx, _, upd_same, hda (H' := H), by show 1 ≤ 900; decide, ?_⟩⟩
    refine ⟨_, rfl, _, rfl, by decide, _, rfl, .inr ⟨i, rfl, log_bd hi, _, rfl, ?_, a, C, some dx, _, rfl, by show 1 ≤ 1000; decide, T, ?_, ?_⟩⟩
    · exact text_fits hi
    · rw [upd_ne (fun z => hne z.symm), upd_same]
    · refine q dx _ hdx hne ?_ upd_same fun b hb hb2 => ?_
      · rw [upd_ne (fun z => hne z.symm), upd_same]
      · rw [upd_ne hb2, upd_ne hb, upd_ne hb2]
/-- an own error class of the text, its __init__ -/
structure ErrG (P : Program) (w : World) (K : PySem.W.Frag) (mg : Str → Option Value) (base : Heap) (nm : Str) (C fI : Addr) (fd : FuncData) : Prop where
  er : ErrK K C nm
  iC : PySem.W.findIn K (.ref C) "__init__" = some (some (.ref fI))
  tI : PySem.W.typeIn K (.ref fI) = some (.type "function")
  g : mg nm = some (.ref C)
  ok : FnOk P w K mg base CX0 1 fI fd ["self", "place"] (spInit K)
  bd : Binds K fd ["self", "place"] []
def ErrOut (C : Addr) (nm : Str) (i : Int) (H : Hp) (E : XK) : Prop := ∀ (d : Addr) H2, H d = none → Ex H H2 → H2 d = some (.xd (flds nm i)) → E (.ref C) (some d) H2
theorem s_mk {σ : L2.St} {H : Hp} {te : TE} {C : Addr} {nm : Str} {i : Int} {W : XK} (T : ErrK K C nm) (h : Ev te σ H (.int i)) (hi : i.natAbs < 2 ^ 100) (k : ErrOut C nm i H W) : tMkO C (spInit K) [] (tCons te tNil) σ H W :=
  h H (Ex.refl H) _ fun H1 e1 => ⟨by show 1 ≤ 1000; decide, fun a ha => ⟨a, C, i, nm, rfl, upd_same, T, hi, fun dx H2 hdx hne h1 h2 hr => by
    have hd1 : H1 dx = none := by rw [upd_ne hne] at hdx; exact hdx
    refine ⟨rfl, dx, _, h1, h2, hd1, k dx _ (fresh_back e1 hd1) (fun x o hx => ?_) upd_same⟩
    have hx1 := e1 x o hx
    have n1 : x ≠ a := fun z => by rw [z, ha] at hx1; cases hx1
    have n2 : x ≠ dx := fun z => by rw [z, hd1] at hx1; cases hx1
    rw [upd_ne n2, del_ne n1, hr x n1 n2, upd_ne n1]
    exact hx1⟩⟩
/-! reading one word -/
theorem ev_dget {σ : L2.St} {H : Hp} {td ty : TE} {d : Addr} {kvs : List (Key × V)} {x : Int} {v : V} (h1 : Ev td σ H (.ref d)) (h2 : Ev ty σ H (.int x)) (hd : H d = some (.dK kvs)) (hv : valV kvs (.inl x) = some v) : Ev (tDGet td ty) σ H v := fun H1 e Q q =>
  h1 H1 e _ fun H2 e2 => h2 H2 (e.trans e2) _ fun H3 e3 => ⟨d, v, rfl, by have g := DGet.k (k := .inl x) (((e.trans e2).trans e3) d _ hd); rw [hv] at g; exact g, q H3 (e2.trans e3)⟩
theorem et_dnotin {σ : L2.St} {H : Hp} {td ty : TE} {d : Addr} {kvs : List (Key × V)} {x : Int} {o : Option V} (h2 : Ev ty σ H (.int x)) (h1 : Ev td σ H (.ref d)) (hd : H d = some (.dK kvs)) (hv : valV kvs (.inl x) = o) : Ev (tDNotIn ty td) σ H (.bl (!o.isSome)) := fun H1 e Q q =>
  h2 H1 e _ fun H2 e2 => h1 H2 (e.trans e2) _ fun H3 e3 => ⟨d, o, rfl, by have g := DGet.k (k := .inl x) (((e.trans e2).trans e3) d _ hd); rw [hv] at g; exact g, q H3 (e2.trans e3)⟩
structure TreeAt (K : PySem.W.Frag) (tab : Tab) (d : Addr) (H : Hp) : Prop where
  ex : ∃ kvs m, H d = some (.dK kvs) ∧ MpR kvs m ∧ Tm tab tab.length m
  wd : Wds tab
def OutW (CI CT : Addr) (tab : Tab) (bits : List Int) (at_ : Nat) (H : Hp) (Q : VK) (E : XK) : Prop := match M02.read tab bits at_ with
  | .ok k pl => ∀ p H2, H p = none → Ex H H2 → H2 p = some (.tup [.int (k : Int), .int (pl : Int)]) → Q (.ref p) H2
  | .inv => ErrOut CI "InvalidWord" at_ H E
  | .trunc => ErrOut CT "Truncated" bits.length H E
def spReadWord (K : PySem.W.Frag) (CI CT : Addr) : Sp := fun vs H Q E => ∃ (d l : Addr) (bits : List Int) (at_ : Nat) (tab : Tab), vs = [.ref d, .ref l, .int (at_ : Int)] ∧ TreeAt K tab d H ∧ SqL K H l (bits.map V.int) ∧ Bit bits ∧ bits.length ≤ 10000 ∧ at_ ≤ bits.length ∧ OutW CI CT tab bits at_ H Q E
theorem ok_read_word {f CI CT fI : Addr} {fd fdI : FuncData} {k : Nat} {tk : Tok} (F : Fun K "read_word" "read_word" s_read_word f fd) (T : GT mg tk) (B : Bs mg) (G_InvalidWord : ErrG P w K mg base "InvalidWord" CI fI fdI) (G_Truncated : ErrG P w K mg base "Truncated" CT fI fdI) : FnOk P w K mg base (L2.CX P w) (k + 3) f fd ["tree", "bits", "at"] (spReadWord K CI CT) := by
  refine F.okX sc_read_word (fun vs H Q E h => ?_) (fun cdv A outer s H vs Q E hr h => ?_)
  · obtain ⟨d, l, bits, at_, tab, rfl, _⟩ := h
    rfl
  · obtain ⟨d, l, bits, at_, tab, rfl, ⟨⟨kvs, m, hd, hmp, htm⟩, W⟩, hs, hb, hlen, hat, q⟩ := h
    have hu : (A.deeper (envOfC "read_word" (defScope s_read_word) s.heap.objs.size f cdv)).units + 1 < cLine := by
      have := hr.un
      omega
    refine ⟨_, (pss_cons (ps_set (i := 3) sc_read_word.nd rfl (Or.inl rfl) (pe_glob (v := .int 1) (by rfl) T.g_ROOT ⟨_, rfl⟩))
      (pss_cons (ps_set (i := 4) sc_read_word.nd rfl (Or.inl rfl) (pv 2))
      (pss_cons (ps_while (passes_of rfl) (pt_cmpR op_isN (pe_dget hu (pv 0) (pv 3) (fun _ _ => rfl)) pe_non (nomark _)) (pss_cons (ps_if (pt_cmpR op_ge (pv 4) (pe_callB call_len_seq (by rfl) B.len PySem.boot_len (pa_cons (pv 1) pa_nil)) (nomark _)) (pss_one (ps_raise rfl (takes_of rfl rfl rfl rfl) (pmk_oex G_Truncated.er.oc G_Truncated.iC G_Truncated.tI G_Truncated.ok (hr.mono (by omega)) G_Truncated.bd .nil pass0 (by rfl) G_Truncated.g (pa_cons (pe_callB call_len_seq (by rfl) B.len PySem.boot_len (pa_cons (pv 1) pa_nil)) pa_nil)))) pss_nil)
      (pss_cons (ps_set (i := 3) sc_read_word.nd rfl (Or.inl rfl) (pe_op op_add (pe_op op_mul pe_int (pv 3)) (pe_ix ix_list (pv 1) (pv 4) (fun _ _ => rfl))))
      (pss_cons (ps_if (pt_cmp (pc_dnotin hu (pv 3) (pv 0))) (pss_one (ps_raise rfl (takes_of rfl rfl rfl rfl) (pmk_oex G_InvalidWord.er.oc G_InvalidWord.iC G_InvalidWord.tI G_InvalidWord.ok (hr.mono (by omega)) G_InvalidWord.bd .nil pass0 (by rfl) G_InvalidWord.g (pa_cons (pv 2) pa_nil)))) pss_nil)
      (pss_one (ps_aug (i := 4) sc_read_word.nd rfl (Or.inl rfl) pe_int ip_add))))))
      (pss_one (ps_ret (pe_tup (pa_cons (pe_dget hu (pv 0) (pv 3) (fun _ _ => rfl)) (pa_cons (pv 4) pa_nil)))))))), ?_⟩
    have W' := W
    refine q_asg (v := .int 1) ev_c fun H1 e1 => ?_
    refine q_asg (ev_var rfl) fun H2 e2 => ?_
    have e02 := e1.trans e2
    -- p: the bits that are read, a node that is no leaf; what is left is the scan's
    refine q_while (fun t σ H' => ∃ j : Nat, t = bits.length - at_ - j + 1 ∧ j ≤ bits.length - at_ ∧ σ = [some (.ref d), some (.ref l), some (.int (at_ : Int)), some (.int (node ((bits.drop at_).take j))), some (.int ((at_ + j : Nat) : Int))] ∧ Ex H H' ∧
      ((valV kvs (.inl (node ((bits.drop at_).take j))) = some .non ∧ M02.read tab bits at_ = M02.scan tab bits at_ (bits.length - at_ - j) j) ∨ ∃ s : Nat, valV kvs (.inl (node ((bits.drop at_).take j))) = some (.int (s : Int)) ∧ M02.read tab bits at_ = .ok s (at_ + j))) (bits.length - at_ - 0 + 1)
      ⟨0, rfl, Nat.zero_le _, rfl, e02, .inl ⟨?_, rfl⟩⟩ ?_
    · rw [hmp]
      have := htm.inner [] (fun b hb => absurd hb List.not_mem_nil) (.inl rfl)
      rw [show node (List.take 0 (bits.drop at_)) = node [] from rfl, this]
      rfl
    rintro t σ H' ⟨j, rfl, hj, rfl, eh, hcase⟩
    have hd' := eh d _ hd
    have hs' := ex_l eh hs
    rcases hcase with ⟨hv, hsc⟩ | ⟨sy, hv, hsc⟩
    · -- a node that is no leaf
      refine ⟨true, et_is (et_test (ev_op (ev_dget (ev_var rfl) (ev_var rfl) hd' hv) ev_c (rv_val (z := .bl (decide (V.non = .non))) fun H1 _ Q q => ⟨rfl, q⟩))) rfl, fun _ H3 e3 => ?_, fun z => by cases z⟩
      have e03 := eh.trans e3
      have hd3 := e03 d _ hd
      have hs3 := ex_l e03 hs
      have hlb : ((bits.map V.int).length : Int) = (bits.length : Int) := by rw [List.length_map]
      refine ⟨fun σ2 H2 => ∃ t', t' < bits.length - at_ - j + 1 ∧ ∃ j : Nat, t' = bits.length - at_ - j + 1 ∧ j ≤ bits.length - at_ ∧ σ2 = [some (.ref d), some (.ref l), some (.int (at_ : Int)), some (.int (node ((bits.drop at_).take j))), some (.int ((at_ + j : Nat) : Int))] ∧ Ex H H2 ∧
        ((valV kvs (.inl (node ((bits.drop at_).take j))) = some .non ∧ M02.read tab bits at_ = M02.scan tab bits at_ (bits.length - at_ - j) j) ∨ ∃ s : Nat, valV kvs (.inl (node ((bits.drop at_).take j))) = some (.int (s : Int)) ∧ M02.read tab bits at_ = .ok s (at_ + j)), fun σ2 H2 h => h, ?_⟩
      refine q_when (et_test (ev_op (ev_var rfl) (ev_len (ev_var rfl) hs3) rv_I0)) (fun hb1 H4 e4 => ?_) (fun hb1 H4 e4 => ?_)
      · -- the bits end
        have h1 : ((at_ + j : Nat) : Int) ≥ ((bits.map V.int).length : Int) := of_decide_eq_true hb1
        have hz : bits.length - at_ - j = 0 := by omega
        have e04 := e03.trans e4
        refine s_mk G_Truncated.er (ev_len (ev_var rfl) (ex_l e04 hs)) (by rw [List.length_map]; omega) fun dx H5 hdx e5 h5 => ?_
        unfold OutW at q
        rw [hsc, hz] at q
        refine q dx H5 (fresh_back e04 hdx) (e04.trans e5) ?_
        rw [h5, hlb]
      · have h1 : ¬ ((at_ + j : Nat) : Int) ≥ ((bits.map V.int).length : Int) := of_decide_eq_false hb1
        have hjl : at_ + j < bits.length := by omega
        have e04 := e03.trans e4
        have hs4 := ex_l e04 hs
        have hjd : j < (bits.drop at_).length := by rw [List.length_drop]; omega
        have htk : (bits.drop at_).take (j + 1) = (bits.drop at_).take j ++ [bits.getD (at_ + j) 0] := by
          rw [List.take_succ_eq_append_getElem hjd, List.getElem_drop, List.getD_eq_getElem?_getD, List.getElem?_eq_getElem hjl]
          rfl
        have hnode : node ((bits.drop at_).take (j + 1)) = 2 * node ((bits.drop at_).take j) + bits.getD (at_ + j) 0 := by rw [htk, node_snoc]
        refine q_asg (v := .int (node ((bits.drop at_).take (j + 1)))) (ev_is (ev_add (ev_op ev_c (ev_var rfl) (rv_mul (by decide))) (ev_op (ev_var rfl) (ev_var rfl) (rv_ixL hs4 (atI_at rfl hjl)))) (by rw [hnode])) fun H5 e5 => ?_
        have e05 := e04.trans e5
        have hbit : Bit ((bits.drop at_).take (j + 1)) := (hb.drop at_).take (j + 1)
        have hne : (bits.drop at_).take (j + 1) ≠ [] := by rw [htk]; simp
        have hf : bits.length - at_ - j = (bits.length - at_ - (j + 1)) + 1 := by omega
        have hvx := hmp (node ((bits.drop at_).take (j + 1)))
        rw [hf] at hsc
        unfold M02.scan at hsc
        generalize hp' : (bits.drop at_).take (j + 1) = p' at *
        cases hidx : tab.findIdx? (fun o => decide (o = some p')) with
        | some sy =>
          rw [hidx] at hsc
          have hw := idx_some hidx
          have hsl : sy < tab.length := (List.getElem?_eq_some_iff.mp hw).1
          rw [htm.word sy p' hsl hw] at hvx
          refine q_when (b := false) (et_is (et_B (et_dnotin (ev_var rfl) (ev_var rfl) (e05 d _ hd) hvx)) rfl) (fun z => by cases z) fun _ H6 e6 => ?_
          refine s_aug (a := ((at_ + j : Nat) : Int)) (b := 1) rfl ev_c fun H7 e7 => ?_
          refine ⟨_, by omega, j + 1, rfl, by omega, by rw [hp']; rfl, (e05.trans e6).trans e7, .inr ⟨sy, ?_, hsc⟩⟩
          rw [hp']
          exact hvx
        | none =>
          rw [hidx] at hsc
          by_cases hpre : isPre tab p' = true
          · have hsc' : M02.read tab bits at_ = M02.scan tab bits at_ (bits.length - at_ - (j + 1)) (j + 1) := by
              rw [hsc]
              show (if isPre tab p' = true then _ else _) = _
              rw [if_pos hpre]
            obtain ⟨k2, w2, hw2, hpw⟩ := isPre_iff.mp hpre
            have hk2 : k2 < tab.length := (List.getElem?_eq_some_iff.mp hw2).1
            have hin := htm.inner p' hbit (.inr ⟨k2, w2, hk2, hw2, hpw, fun z => idx_none hidx k2 (by rw [hw2, z])⟩)
            rw [hin] at hvx
            refine q_when (b := false) (et_is (et_B (et_dnotin (ev_var rfl) (ev_var rfl) (e05 d _ hd) hvx)) rfl) (fun z => by cases z) fun _ H6 e6 => ?_
            refine s_aug (a := ((at_ + j : Nat) : Int)) (b := 1) rfl ev_c fun H7 e7 => ?_
            refine ⟨_, by omega, j + 1, rfl, by omega, by rw [hp']; rfl, (e05.trans e6).trans e7, .inl ⟨?_, hsc'⟩⟩
            rw [hp']
            exact hvx
          · have hsc' : M02.read tab bits at_ = .inv := by
              rw [hsc]
              show (if isPre tab p' = true then _ else _) = _
              rw [if_neg hpre]
            have hout := htm.out p' hbit hne fun k2 w2 _ hw2 hpw => hpre (isPre_iff.mpr ⟨k2, w2, hw2, hpw⟩)
            rw [hout] at hvx
            refine q_when (b := true) (et_is (et_B (et_dnotin (ev_var rfl) (ev_var rfl) (e05 d _ hd) hvx)) rfl) (fun _ H6 e6 => ?_) (fun z => by cases z)
            have e06 := e05.trans e6
            refine s_mk G_InvalidWord.er (ev_var rfl) (by omega) fun dx H7 hdx e7 h7 => ?_
            unfold OutW at q
            rw [hsc'] at q
            exact q dx H7 (fresh_back e06 hdx) (e06.trans e7) h7
    · -- a leaf
      refine ⟨false, et_is (et_test (ev_op (ev_dget (ev_var rfl) (ev_var rfl) hd' hv) ev_c (rv_val (z := .bl (decide (V.int (sy : Int) = .non))) fun H1 _ Q q => ⟨rfl, q⟩))) (by simp), (fun z => by cases z), fun _ H3 e3 => ?_⟩
      have e03 := eh.trans e3
      unfold OutW at q
      rw [hsc] at q
      exact s_retU (eu_tup (ea2 (ev_dget (ev_var rfl) (ev_var rfl) (e03 d _ hd) hv) (ev_var rfl)) (by show 2 ≤ 100000; decide)) fun p H4 hp e4 h4 => q p H4 (fresh_back e03 hp) (e03.trans e4) h4
end
end K02
set_option Elab.async false
set_option linter.all false
set_option maxRecDepth 100000
set_option maxHeartbeats 4000000
/-! try with several 'except C as e' that take all that comes. -/
namespace KX
open PySem PySem.Spec PyProof.Rows L2
def endsAs (i : Nat) (D : Ends) : Ends := { nx := fun σ H => D.nx (σ.set i none) H, rt := D.rt, bk := fun σ H => D.bk (σ.set i none) H, ct := fun σ H => D.ct (σ.set i none) H }
abbrev Cl := Value × Nat × (Addr → Value → Option Addr → TS)
def wAsAll (K : PySem.W.Frag) (D : Ends) : List Cl → WX
  | [] => fun _ _ _ _ => False
  | (c, i, ts) :: r => fun cls d σ H => ∃ b, PySem.W.exmOne K cls c = some b ∧ (b = true → ∀ a, H a = none → ts a cls d (endsAs i D) (σ.set i (some (.ref a))) H) ∧ (b = false → wAsAll K D r cls d σ H)
inductive ClOk (X : Cx) : List ExceptHandler → List Cl → Prop
  | nil : ClOk X [] []
  | cons {x n : Str} {c : Value} {i : Nat} {ts : Addr → Value → Option Addr → TS} {b₀ : Stmt} {su : List Stmt} {np p : Pos} {hs : List ExceptHandler} {l : List Cl} (hc : Names X x c) (hi : X.N[i]? = some n) (hn : X.env.kindOf n = some .local)
      (hb : ∀ (a : Addr) (oe : Obj) (cls : Value) (d : Option Addr) (pn : List (Addr × Obj)), Zc cls d oe → (∃ vs, oe.data = .fields vs) → PSs (X.suite a ((a, oe) :: pn)) (b₀ :: su) (ts a cls d)) (r : ClOk X hs l) : ClOk X (.ExceptHandler (some (.Name x np)) (some n) (b₀ :: su) p :: hs) ((c, i, ts) :: l)
section
variable {X : Cx} {body : List Stmt} {h₀ : ExceptHandler} {hds : List ExceptHandler} {l : List Cl} {pos : Pos} {tb : WX → TS}
theorem ps_try_all (hst : X.stack = X.env :: X.outer) (hfm : X.env.frame = some X.env.locals) (hN : X.N.Nodup) (hb : ∀ (W : WX) (pn : List (Addr × Obj)) (xe : Value → Shared → Prop), Takes (X.tr pn xe) W → PassesOwn (model X.prog X.w) X.A X.env xe → PSs (X.tr pn xe) body (tb W)) (hh : ClOk X (h₀ :: hds) l) :
    PS X (.Try body (h₀ :: hds) [] [] pos) (fun D σ H => tb (wAsAll X.K D l) D σ H) := by
  refine ⟨fun pins s σ H D I h => wpAny_Try_except ?_⟩
  have okX := I.ok
  have frX : X.A.frames = some (X.env :: X.outer) := okX.frames.trans (congrArg some hst)
  refine wpAny_mono ((hb (wAsAll X.K D l) (X.pn ++ pins) (fun e t₁ => wpAny (model X.prog X.w) X.A (noteFrame e X.env) (fun _ t₂ => wpAny (model X.prog X.w) X.A (setFlight e none) (fun _ t₃ => wpAny (model X.prog X.w) X.A (handleBy e X.env (h₀ :: hds)) (SP X pins D) X.xe t₃) X.xe t₂) X.xe t₁) (fun u t xx => ?_) PassesOwn.looking).run [] s σ H D (I.toTry _) h) (fun f t ht => ?_) fun _ _ z => z
  · obtain ⟨a, B, sI, pins1, σ1, H1, cls, d, rfl, J0, nb, up, sky, na, os, ag, w⟩ := xx
    have J : Inv X pins σ1 H1 sI := J0.ofTry okX
    refine Sky.land Zc.steady frX hfm (by rw [← hst] <;> exact sky) fun h3 fl3 up3 => ?_
    have J3 : Inv X pins σ1 H1 { t with heap := h3 } := J.landed nb fl3.1 (up.trans up3) os ag
    obtain ⟨oe, vs, he, hz, hd⟩ := fl3.there
    have nfr : a ∉ frs (X.env :: X.outer) := fun hm => by
      obtain ⟨_, o, eo, no⟩ := fl3.2.2.1.mem hm
      exact no vs ((congrArg Obj.data (Option.some.inj (eo.symm.trans he))).trans hd)
    have nL : a ≠ X.env.locals := fun z => nfr (List.mem_filterMap.mpr ⟨X.env, List.mem_cons_self, hfm.trans (congrArg some z.symm)⟩)
    have nF : a ∉ X.fs := fun hm => let ⟨e, m, q⟩ := List.mem_filterMap.mp hm; nfr (List.mem_filterMap.mpr ⟨e, List.mem_cons_of_mem _ m, q⟩)
    have S3 := J3.suite he hd na nL nF
    have LT : PySem.W.Looks (model X.prog X.w) h3 (typeOf (.ref a)) cls := fun A Q E s k q => wpAny_typeOf_ref (k _ _ he) (hz.1 ▸ q)
    have go : ∀ {hs : List ExceptHandler} {l1 : List Cl}, ClOk X hs l1 → wAsAll X.K D l1 cls d σ1 H1 → wpAny (model X.prog X.w) X.A (handleBy (.ref a) X.env hs) (SP X pins D) X.xe { t with heap := h3 } := by
      intro hs l1 hk
      induction hk with
      | nil => exact fun z => False.elim z
      | @cons x n c i ts b₀ su np p hs2 l2 hc hi hn hsu r ih =>
        rintro ⟨b, hb1, yes, no⟩
        refine wpAny_handleBy_cons (codeAny_handlers_test ?_) (fun q => nomatch q)
        have nm : ∀ {Q : Value → Shared → Prop} {E : Value → Shared → Prop}, Q c { t with heap := h3 } → wpAny (model X.prog X.w) (X.A.mark (some (.ref a))) (eval (.Name x np) X.env) Q E { t with heap := h3 } := fun {Q E} q => match hc with
          | ⟨hg, hdb, .inl hm⟩ => ld_glob (X := X.suite a ((a, oe) :: (X.pn ++ pins))) S3 hg hm q hdb
          | ⟨hg, hdb, .inr ⟨hm, hv, hnn⟩⟩ => ld_blt (X := X.suite a ((a, oe) :: (X.pn ++ pins))) S3 hg hm hv q hnn hdb
        refine nm ((PySem.W.exm_one (M := model X.prog X.w) J3.kIn LT hb1).here ?_)
        cases b with
        | false =>
          show wpAny _ X.A (handleBy (.ref a) X.env hs2) _ _ _
          exact ih (no rfl)
        | true =>
          refine codeAny_handlers_suite_as (HandSPX.lands_againZ fl3 fun h4 fl4 up4 => ?_)
          have J4 : Inv X pins σ1 H1 { t with heap := h4 } := J.landed nb fl4.1 ((up.trans up3).trans up4) os ag
          obtain ⟨oe4, vs4, he4, hz4, hd4⟩ := fl4.there
          refine store_ok (X := X.suite a ((a, oe4) :: (X.pn ++ pins))) (v := .ref a) (J4.suite he4 hd4 na nL nF) hN hi (.inl hn) rfl (fun s5 S5 => ?_) (.inr hn)
          refine wpAny_mono ((hsu a oe4 cls d (X.pn ++ pins) hz4 ⟨_, hd4⟩).run [] s5 _ H1 _ S5 (yes rfl a na)) (fun f s6 hsp => ?_) fun _ _ z => z.elim
          have fin : ∀ {σ6 : L2.St} {H6 : Hp} {Q : Shared → Prop}, Inv (X.suite a ((a, oe4) :: (X.pn ++ pins))) [] σ6 H6 s6 → (∀ s7, Inv X pins (σ6.set i none) H6 s7 → Q s7) → wpAny (model X.prog X.w) X.A (do bindName X.env n .none; unbindBehindTheSuite X.env n p) (fun _ s7 => Q s7) X.xe s6 := fun S6 hq => gone_ok (S6.unsuite okX) hN hi hn hq
          match f, hsp with
          | .next, ⟨_, _, S6, q6⟩ => exact fin S6 fun _ J7 => ⟨_, _, J7, q6⟩
          | .brk, ⟨_, _, S6, q6⟩ => exact fin S6 fun _ J7 => ⟨_, _, J7, q6⟩
          | .cont, ⟨_, _, S6, q6⟩ => exact fin S6 fun _ J7 => ⟨_, _, J7, q6⟩
          | .ret u, ⟨_, _, _, S6, r6, q6⟩ => exact fin S6 fun _ J7 => ⟨_, _, _, J7, r6, q6⟩
    exact go hh w
  · match f, ht with
    | .next, ⟨_, _, J, q⟩ => exact wpAny_execs_nil ⟨_, _, J.ofTry okX, q⟩
    | .brk, ⟨_, _, J, q⟩ => exact ⟨_, _, J.ofTry okX, q⟩
    | .cont, ⟨_, _, J, q⟩ => exact ⟨_, _, J.ofTry okX, q⟩
    | .ret u, ⟨_, _, _, J, r, q⟩ => exact ⟨_, _, _, J.ofTry okX, r, q⟩
end
end KX
set_option Elab.async false
set_option linter.all false
set_option maxRecDepth 100000
set_option maxHeartbeats 4000000
namespace K02
open PySem PySem.Spec PyProof.Rows L2 StX GX KC Evl M01 M02 KX
structure CalX (P : Program) (w : World) (K : PySem.W.Frag) (mg : Str → Option Value) (base : Heap) (nm : Str) (k : Nat) (ps : List Str) (sp : Sp) : Prop where
  out : ∃ f fd, mg nm = some (.ref f) ∧ PySem.W.keepIn K (.ref f) = true ∧ Binds K fd ps [] ∧ FnOk P w K mg base (L2.CX P w) k f fd ps sp
theorem pe_callX {X : Cx} {nm : Str} {k : Nat} {ps : List Str} {sp : Sp} {E : XK} {p pos : Pos} {e : Expr} {es : List Expr} {t : TA} (C : CalX X.prog X.w X.K X.mg X.base nm k ps sp) (hr : Room k X.A) (hg : Gl X nm) (hx : Passes (L2.CX X.prog X.w) X E) (ha : PA X (e :: es) t)
    (hdb : (nm == ("__debug__" : Str)) = false := by decide) (he : starEach (e :: es) X.env = (false, eval e X.env) :: starEach es X.env := by rfl) (hpl : (backTo pos (starEach es X.env)).any (·.1) = false := by rfl) :
    PE X (.Call (.Name nm p) (e :: es) [] pos) (tCall sp [] E t) := by
  obtain ⟨f, fd, h1, h2, h3, h4⟩ := C.out
  exact pe_call h4 hr hg h1 h2 h3 .nil hx ha hdb he hpl
inductive ResN where
  | ok (msg : List Nat) (place : Nat)
  | inv (at_ : Nat)
  | trunc
def readN (tab : Tab) (bits : List Int) : Nat → Nat → List Nat → ResN
  | 0, at_, acc => .ok acc at_
  | n + 1, at_, acc => match M02.read tab bits at_ with
    | .ok k pl => readN tab bits n pl (acc ++ [k])
    | .inv => .inv at_
    | .trunc => .trunc
theorem readN_succ (tab : Tab) (bits : List Int) (n a : Nat) (acc : List Nat) : readN tab bits (n + 1) a acc = match M02.read tab bits a with
    | .ok k pl => readN tab bits n pl (acc ++ [k])
    | .inv => .inv a
    | .trunc => .trunc := rfl
theorem scan_le {tab : Tab} {bits : List Int} {at_ : Nat} : ∀ (f m k pl : Nat), M02.scan tab bits at_ f m = .ok k pl → pl ≤ at_ + m + f
  | 0, m, k, pl, h => by cases h
  | f + 1, m, k, pl, h => by
    unfold M02.scan at h
    split at h
    · cases h
      omega
    · split at h
      · have := scan_le f (m + 1) k pl h
        omega
      · cases h
theorem read_le {tab : Tab} {bits : List Int} {at_ k pl : Nat} (hat : at_ ≤ bits.length) (h : M02.read tab bits at_ = .ok k pl) : pl ≤ bits.length := by
  have := scan_le _ _ _ _ h
  omega
def natsD (a : List Nat) : PyData := .list ((a.map fun (k : Nat) => (k : Int)).map PyData.int)
def nats (a : List Nat) : List V := (a.map fun (k : Nat) => (k : Int)).map V.int
def resD (len : Nat) : ResN → PyData
  | .ok msg pl => .tuple [natsD msg, .int (pl : Int)]
  | .inv a => .tuple [.str "InvalidWord", .int (a : Int)]
  | .trunc => .tuple [.str "Truncated", .int (len : Int)]
theorem TreeAt.ext {K : PySem.W.Frag} {tab : Tab} {d : Addr} {H H' : Hp} (e : Ex H H') (h : TreeAt K tab d H) : TreeAt K tab d H' := by
  obtain ⟨⟨kvs, m, h1, h2, h3⟩, W⟩ := h
  exact ⟨⟨kvs, m, e d _ h1, h2, h3⟩, W⟩
def OutN (K : PySem.W.Frag) (CI CT : Addr) (len : Nat) (r : ResN) (H : Hp) (Q : VK) (E : XK) : Prop := match r with
  | .ok msg pl => RetD K (.tuple [natsD msg, .int (pl : Int)]) H Q
  | .inv a => ErrOut CI "InvalidWord" a H E
  | .trunc => ErrOut CT "Truncated" len H E
section
variable {P : Program} {w : World} {K : PySem.W.Frag} {mg : Str → Option Value} {base : Heap}
def spReadSyms (K : PySem.W.Frag) (Pt CI CT : Addr) : Sp := fun vs H Q E => ∃ (l0 l : Addr) (ls bits : List Int) (at_ count : Nat) (o : List Nat), vs = [.ref l0, .ref l, .int (at_ : Int), .int (count : Int)] ∧ SqL K H l0 (ls.map V.int) ∧ Lok ls ∧ ls.length ≤ 100 ∧ kraft ls ≤ 1048576 ∧ H Pt = some (TabX Pt) ∧ IsOrd ls o ∧
  SqL K H l (bits.map V.int) ∧ Bit bits ∧ bits.length ≤ 10000 ∧ at_ ≤ bits.length ∧ count ≤ 1000 ∧ OutN K CI CT bits.length (readN (tabOf ls o) bits count at_ []) H Q E
theorem ok_read_symbols {f CI CT Pt : Addr} {fd : FuncData} {k : Nat} (F : Fun K "read_symbols" "read_symbols" s_read_symbols f fd) (B : Bs mg) (C_word_tree : Cal P w K mg base "word_tree" 8 ["lengths"] (spTree K Pt)) (C_read_word : CalX P w K mg base "read_word" 3 ["tree", "bits", "at"] (spReadWord K CI CT)) :
    FnOk P w K mg base (L2.CX P w) (k + 9) f fd ["lengths", "bits", "at", "count"] (spReadSyms K Pt CI CT) := by
  refine F.okX sc_read_symbols (fun vs H Q E h => ?_) (fun cdv A outer s H vs Q E hr h => ?_)
  · obtain ⟨l0, l, ls, bits, at_, count, o, rfl, _⟩ := h
    rfl
  · obtain ⟨l0, l, ls, bits, at_, count, o, rfl, hs0, hok, hn, hkr, htab, hord, hs, hb, hlen, hat, hcount, q⟩ := h
    refine ⟨_, (pss_cons (ps_set (i := 4) sc_read_symbols.nd rfl (Or.inl rfl) (pe_callC C_word_tree (hr.mono (by omega)) (by rfl) (pa_cons (pv 0) pa_nil)))
      (pss_cons (ps_set (i := 5) sc_read_symbols.nd rfl (Or.inl rfl) (pe_lst pa_nil))
      (pss_cons (ps_set (i := 6) sc_read_symbols.nd rfl (Or.inl rfl) (pv 2))
      (pss_cons (ps_for (passes_of rfl) rfl (pi_range1 (by rfl) B.range (pa_cons (pv 3) pa_nil)) (pg_name (i := 7) sc_read_symbols.nd rfl (Or.inl rfl)) (pss_cons (ps_asg (pe_callX C_read_word (hr.mono (by omega)) (by rfl) (passes_call (takes_of rfl rfl rfl rfl) (fun _ _ _ _ h => h)) (pa_cons (pv 4) (pa_cons (pv 1) (pa_cons (pv 6) pa_nil)))) (pg_tup rfl (pgs_cons (pg_name (i := 8) sc_read_symbols.nd rfl (Or.inl rfl)) (pgs_cons (pg_name (i := 6) sc_read_symbols.nd rfl (Or.inl rfl)) pgs_nil))))
      (pss_one (ps_expr (pe_bm PySem.F.plainAttrs_list PySem.F.slot_list_append PySem.F.type_list_append mt_append (pv 5) (pa_cons (pv 8) pa_nil))))))
      (pss_one (ps_ret (pe_tup (pa_cons (pv 5) (pa_cons (pv 6) pa_nil))))))))), ?_⟩
    have W := wds hok hord hkr
    refine ⟨_, rfl, l0, ls, o, rfl, hs0, hok, hn, hkr, htab, hord, fun pt kvs m Ht hpt et hd hmp htm => ?_⟩
    have hT : TreeAt K (tabOf ls o) pt Ht := ⟨⟨kvs, m, hd, hmp, by rw [tab_len]; exact htm⟩, W⟩
    refine q_asgL (el_lst ea_nil (by decide)) fun pm H2 hpm e2 h2 => ?_
    refine q_asg (ev_var rfl) fun H3 e3 => ?_
    generalize htb : tabOf ls o = tab at *
    refine q_forR1 (n := (count : Int)) (ea1 (ev_var rfl)) ⟨by omega, by omega⟩
      (fun i σ H' => ∃ (msg : List Nat) (pl : Nat) (a b : Option V), σ = [some (.ref l0), some (.ref l), some (.int (at_ : Int)), some (.int (count : Int)), some (.ref pt), some (.ref pm), some (.int (pl : Int)), a, b] ∧ Ex Ht H' ∧ H' pm = some (.lst (nats msg)) ∧ pl ≤ bits.length ∧ msg.length = i ∧ readN tab bits count at_ [] = readN tab bits (count - i) pl msg)
      (fun H4 e4 => ⟨[], at_, none, none, rfl, (e2.trans e3).trans e4, (e3.trans e4) pm _ h2, hat, rfl, rfl⟩) ?_ ?_
    · rintro i σ H' hi ⟨msg, pl, a, b, rfl, eh, hl, hpl, hml, hrd⟩
      have hci : count - i = (count - (i + 1)) + 1 := by omega
      rw [hci, readN_succ] at hrd
      refine ⟨_, rfl, _, rfl, _, rfl, pt, l, bits, pl, tab, rfl, hT.ext eh, ex_l (et.trans eh) hs, hb, hlen, hpl, ?_⟩
      unfold OutW
      cases hr1 : M02.read tab bits pl with
      | ok k pl2 =>
        rw [hr1] at hrd
        have hpl2 := read_le hpl hr1
        refine fun p H5 hp e5 h5 => ⟨p, _, rfl, .inl (.inl h5), rfl, _, _, rfl, _, _, rfl, rfl, ?_⟩
        have e55 := eh.trans e5
        refine s_app (e5 pm _ hl) (ev_var rfl) (ev_var rfl) (by unfold nats; rw [List.length_map, List.length_map]; omega) fun H6 e6 => ?_
        refine ⟨msg ++ [k], pl2, _, _, rfl, Ex.mut (e55.trans e6) hpm, ?_, hpl2, by simp [hml], hrd⟩
        rw [upd_same]
        unfold nats
        rw [List.map_append, List.map_append]
        rfl
      | inv =>
        rw [hr1] at hrd
        have hrd' : readN tab bits count at_ [] = .inv pl := hrd
        rw [hrd'] at q
        exact fun d H5 hdn e5 h5 => q d H5 (fresh_back (et.trans eh) hdn) ((et.trans eh).trans e5) h5
      | trunc =>
        rw [hr1] at hrd
        have hrd' : readN tab bits count at_ [] = .trunc := hrd
        rw [hrd'] at q
        exact fun d H5 hdn e5 h5 => q d H5 (fresh_back (et.trans eh) hdn) ((et.trans eh).trans e5) h5
    · rintro σ H' ⟨msg, pl, a, b, rfl, eh, hl, hpl, hml, hrd⟩
      have hz : count - ((count : Int)).toNat = 0 := by omega
      rw [hz] at hrd
      have hrd' : readN tab bits count at_ [] = .ok msg pl := hrd
      rw [hrd'] at q
      exact s_retD (ed_tup (eda_cons (ed_at (ev_var rfl) (dp_listI (sq_of hl))) (eda_cons (ed_int (ev_var rfl)) eda_nil)) (by show 2 ≤ 100000; decide)) fun v H5 e5 hv => q v H5 ((et.trans eh).trans e5) hv
/-! the law's reading by the program -/
def spTold (K : PySem.W.Frag) (Pt : Addr) : Sp := fun vs H Q _ => ∃ (l0 l : Addr) (ls bits : List Int) (at_ count : Nat) (o : List Nat), vs = [.ref l0, .ref l, .int (at_ : Int), .int (count : Int)] ∧ SqL K H l0 (ls.map V.int) ∧ Lok ls ∧ ls.length ≤ 100 ∧ kraft ls ≤ 1048576 ∧ H Pt = some (TabX Pt) ∧ IsOrd ls o ∧
  SqL K H l (bits.map V.int) ∧ Bit bits ∧ bits.length ≤ 10000 ∧ at_ ≤ bits.length ∧ count ≤ 1000 ∧ RetD K (resD bits.length (readN (tabOf ls o) bits count at_ [])) H Q
theorem s_caught {σ : L2.St} {H : Hp} {D : Ends} {a C d : Addr} {nm : Str} {i : Int} (hσ : σ[4]? = some (some (.ref a))) (hd : H d = some (.xd (flds nm i))) (q : RetD K (.tuple [.str nm, .int i]) H D.rt) : tRet (tTup (tCons (tXf a (.ref C) (some d) C "name" (tVar 4)) (tCons (tXf a (.ref C) (some d) C "place" (tVar 4)) tNil))) D σ H := by
  refine ⟨_, hσ, rfl, rfl, d, _, _, rfl, hd, rfl, _, hσ, rfl, rfl, d, _, _, rfl, hd, rfl, by show 2 ≤ sizeLine; decide, fun p hp => q _ _ (Ex.new hp) ?_⟩
  exact .tup (.inl (.inl upd_same)) (.cons (.str nm) (.cons (.int i) .nil))
theorem ok_told {f CI CT Pt : Addr} {fd : FuncData} {k : Nat} (F : Fun K "_law_told" "_law_told" s_law_told f fd) (hI : mg "InvalidWord" = some (.ref CI)) (hT : mg "Truncated" = some (.ref CT)) (EI : ErrK K CI "InvalidWord") (ET : ErrK K CT "Truncated")
    (x1 : PySem.W.exmOne K (.ref CI) (.ref CI) = some true) (x2 : PySem.W.exmOne K (.ref CT) (.ref CI) = some false) (x3 : PySem.W.exmOne K (.ref CT) (.ref CT) = some true) (C_read_symbols : CalX P w K mg base "read_symbols" 9 ["lengths", "bits", "at", "count"] (spReadSyms K Pt CI CT)) :
    FnOk P w K mg base CX0 (k + 10) f fd ["lengths", "bits", "at", "count"] (spTold K Pt) := by
  obtain ⟨f1, fd1, g1, g2, g3, g4⟩ := C_read_symbols.out
  have XI : XfC K CI := ⟨EI.ec.hg, EI.ec.hk, EI.ec.hs, EI.ec.hd⟩
  have XT : XfC K CT := ⟨ET.ec.hg, ET.ec.hk, ET.ec.hs, ET.ec.hd⟩
  refine F.ok sc_law_told (fun vs H Q E h => ?_) (fun cdv A outer s H vs Q E hr h => ?_)
  · obtain ⟨l0, l, ls, bits, at_, count, o, rfl, _⟩ := h
    rfl
  · obtain ⟨l0, l, ls, bits, at_, count, o, rfl, hs0, hok, hn, hkr, htab, hord, hs, hb, hlen, hat, hcount, q⟩ := h
    refine ⟨_, pss_one (ps_try_all (tb := fun W => tRet (tCallS (spReadSyms K Pt CI CT) (WE W) (tCons (tVar 0) (tCons (tVar 1) (tCons (tVar 2) (tCons (tVar 3) tNil)))))) rfl rfl sc_law_told.nd
      (fun W pn xe tk _ => pss_one (ps_ret (by exact (pe_callS g4 (hr.mono (by omega)) rfl g1 g2 g3 (fun σ => L2.passAt tk σ) (by exact (pa_cons (pv 0) (pa_cons (pv 1) (pa_cons (pv 2) (pa_cons (pv 3) pa_nil)))))))))
      (.cons (ts := fun a cls d => tRet (tTup (tCons (tXf a cls d CI "name" (tVar 4)) (tCons (tXf a cls d CI "place" (tVar 4)) tNil)))) (i := 4) ⟨rfl, by decide, Or.inl hI⟩ rfl rfl (fun a oe cls d pn hz hf => pss_one (ps_ret (pe_tup (pa_cons (pe_xf XI EI.f2 hz hf (pv 4)) (pa_cons (pe_xf XI EI.f1 hz hf (pv 4)) pa_nil)))))
      (.cons (ts := fun a cls d => tRet (tTup (tCons (tXf a cls d CT "name" (tVar 4)) (tCons (tXf a cls d CT "place" (tVar 4)) tNil)))) (i := 4) ⟨rfl, by decide, Or.inl hT⟩ rfl rfl (fun a oe cls d pn hz hf => pss_one (ps_ret (pe_tup (pa_cons (pe_xf XT ET.f2 hz hf (pv 4)) (pa_cons (pe_xf XT ET.f1 hz hf (pv 4)) pa_nil))))) .nil))), ?_⟩
    refine ⟨_, rfl, _, rfl, _, rfl, _, rfl, l0, l, ls, bits, at_, count, o, rfl, hs0, hok, hn, hkr, htab, hord, hs, hb, hlen, hat, hcount, ?_⟩
    unfold OutN
    cases hr1 : readN (tabOf ls o) bits count at_ [] with
    | ok msg pl =>
      rw [hr1] at q
      exact fun v H2 e2 hv => q v H2 e2 hv
    | inv a =>
      rw [hr1] at q
      refine fun d H2 hd e2 h2 => ⟨true, x1, fun _ x hx => s_caught rfl h2 fun v H3 e3 hv => q v H3 (e2.trans e3) hv, fun z => by cases z⟩
    | trunc =>
      rw [hr1] at q
      refine fun d H2 hd e2 h2 => ⟨false, x2, (fun z => by cases z), fun _ => ⟨true, x3, fun _ x hx => s_caught rfl h2 fun v H3 e3 hv => q v H3 (e2.trans e3) hv, fun z => by cases z⟩⟩
end
end K02
set_option Elab.async false
set_option linter.all false
set_option maxRecDepth 100000
set_option maxHeartbeats 4000000
namespace K02
open PySem PySem.Spec PyProof.Rows L2 StX GX KC Evl M01 M02 KX
theorem sl_listK {X : Cx} {K : PySem.W.Frag} (h : X.K = K) : SlR X (rSlL K) := by
  subst h
  exact sl_list
theorem len_seqK {X : Cx} {K : PySem.W.Frag} (h : X.K = K) : CallR X (.builtin "len") (Evl.rLenS K) := by
  subst h
  exact call_len_seq
theorem op_eqDK {X : Cx} {K : PySem.W.Frag} (hu : X.A.units + 64 < cLine) (h : X.K = K) : OpR X (compareOp .Eq) (rEqD K) := by
  subst h
  exact op_eqD hu
theorem cutV_to (xs : List V) (n : Nat) : cutV xs none (some (n : Int)) = xs.take n := by
  unfold cutV
  rw [HT.sIx_none, HT.sIx_nat, List.drop_zero, Nat.sub_zero]
  by_cases h : n ≤ xs.length
  · rw [Nat.min_eq_left h]
  · rw [Nat.min_eq_right (by omega), List.take_of_length_le (Nat.le_refl _), List.take_of_length_le (by omega)]
theorem cutV_mid (xs : List V) {a b : Nat} (h1 : a ≤ b) (h2 : b ≤ xs.length) : cutV xs (some (a : Int)) (some (b : Int)) = (xs.drop a).take (b - a) := by
  unfold cutV
  have e1 : min a xs.length = a := by omega
  have e2 : min b xs.length = b := by omega
  rw [HT.sIx_nat, HT.sIx_nat, e1, e2]
def optD : Option (List Int) → PyData
  | none => .none
  | some bs => .list (bs.map PyData.int)
theorem optD_lay (x : Option (List Int)) : (optD x).canLay0 = true := by
  cases x with
  | none => simp [optD, PyData.canLay0]
  | some bs =>
    simp only [optD, PyData.canLay0]
    exact canLayAll0_map (fun a => by simp [PyData.canLay0]) bs
theorem optD_depth (x : Option (List Int)) : (optD x).depth ≤ 10 := by
  cases x with
  | none => simp [optD, PyData.depth]
  | some bs =>
    have := depthAll_map (f := PyData.int) (n := 1) (fun a => by simp [PyData.depth]) bs
    simp only [optD, PyData.depth]
    omega
theorem dp_tab {K : PySem.W.Frag} {p : Addr} {H0 H : Hp} : ∀ {vs : List V} {tab : List (Option (List Int))}, TabF p H0 H vs tab → DpAll K H vs (tab.map optD)
  | [], [], _ => .nil
  | [], _ :: _, h => absurd h.1 (by simp)
  | _ :: _, [], h => absurd h.1 (by simp)
  | v :: vs, o :: tab, h => by
    have h1 := h.2 0 v o rfl rfl
    have h2 : TabF p H0 H vs tab := ⟨by have := h.1; simpa using this, fun k v o a b => h.2 (k + 1) v o a b⟩
    refine .cons ?_ (dp_tab h2)
    cases o with
    | none =>
      have e : v = .non := h1
      subst e
      exact .non
    | some bs =>
      obtain ⟨r, rfl, _, _, hr⟩ := h1
      exact dp_listI (sq_of hr)
theorem eqv_optD (p : List Int) (o : Option (List Int)) : PyData.eqv (optD o) (.list (p.map PyData.int)) = decide (o = some p) := by
  cases o with
  | none => simp [optD, PyData.eqv]
  | some bs =>
    simp only [optD, PyData.eqv, eqvAll_ints]
    by_cases h : bs = p <;> simp [h]
theorem any_idx (tab : Tab) (p : List Int) : ((tab.map optD).any fun z => PyData.eqv z (.list (p.map PyData.int))) = (tab.findIdx? fun o => decide (o = some p)).isSome := by
  rw [List.any_map, List.findIdx?_isSome]
  congr 1
  funext o
  exact eqv_optD p o
section
variable {P : Program} {w : World} {K : PySem.W.Frag} {mg : Str → Option Value} {base : Heap} {σ : L2.St} {H : Hp} {ta tb tc te : TE} {t u : TT}
theorem et_andF {b : Bool} (h : EvT t σ H false) : EvT (tAnd t u) σ H false := et_is (et_and (b := b) h fun z => by cases z) rfl
theorem et_andT {b : Bool} (h : EvT t σ H true) (h2 : EvT u σ H b) : EvT (tAnd t u) σ H b := et_is (et_and h fun _ => h2) (by cases b <;> rfl)
theorem et_orF {b : Bool} (h : EvT t σ H false) (h2 : EvT u σ H b) : EvT (tOr t u) σ H b := et_is (et_or h fun _ => h2) (by cases b <;> rfl)
theorem ev_notN {x : V} (h1 : Ev ta σ H x) : Ev (tOp (fun x y H Q => y = .non ∧ Q (.bl (!decide (x = .non))) H) ta (tC .non)) σ H (.bl (!decide (x = .non))) := ev_op h1 ev_c (rv_val fun H1 _ Q q => ⟨rfl, q⟩)
theorem ev_isN {x : V} (h1 : Ev ta σ H x) : Ev (tOp (fun x y H Q => y = .non ∧ Q (.bl (decide (x = .non))) H) ta (tC .non)) σ H (.bl (decide (x = .non))) := ev_op h1 ev_c (rv_val fun H1 _ Q q => ⟨rfl, q⟩)
theorem ev_inD {d : PyData} {ds : List PyData} (h1 : EvD K ta σ H d) (h2 : EvD K tb σ H (.list ds)) (s1 : SeqAt.shaped d = true) (s2 : SeqAt.shaped (.list ds) = true) : Ev (tOp (rInD K) ta tb) σ H (.bl (ds.any fun z => PyData.eqv z d)) := fun H1 e Q q =>
  h1 H1 e _ fun v H2 e2 hv => h2 H2 (e.trans e2) _ fun u H3 e3 hu => ⟨d, ds, Dp.ext e3 _ _ hv, hu, s1, s2, q H3 (e2.trans e3)⟩
theorem ev_index {a : Addr} {xs : List V} {d z : PyData} {ds : List PyData} {j : Nat} (ha : Ev ta σ H (.ref a)) (hl : H a = some (.lst xs)) (hds : Dp K H (.ref a) (.list ds)) (hb : EvD K tb σ H d) (s1 : SeqAt.shaped (.list ds) = true) (s2 : SeqAt.shaped d = true) (hz : ds[j]? = some z) (he : PyData.eqv z d = true)
    (hno : ∀ (m : Nat) (z' : PyData), m < j → ds[m]? = some z' → PyData.eqv z' d = false) : Ev (tBM K "list" (rIndexD K) ta (tCons tb tNil)) σ H (.int (j : Int)) := fun H1 e Q q =>
  ha H1 e _ fun H2 e2 => ⟨Or.inl ⟨rfl, xs, sq_of ((e.trans e2) a _ hl)⟩, hb H2 (e.trans e2) _ fun y H3 e3 hy => ⟨a, y, d, ds, j, z, rfl, rfl, Dp.ext ((e.trans e2).trans e3) _ _ hds, hy, s1, s2, hz, he, hno, q H3 (e2.trans e3)⟩⟩
def preF (tab : Tab) (p : List Int) (k : Nat) : Bool := match tab[k]? with
  | some (some w) => decide (w.take p.length = p)
  | _ => false
theorem pre_len (tab : Tab) (p : List Int) (v : Nat → V) : decide (((given tab.length (preF tab p) v).length : Int) = 0) = !isPre tab p := by
  have key : ((given tab.length (preF tab p) v).length : Int) = 0 ↔ isPre tab p = false := by
    unfold given
    rw [List.length_map]
    constructor
    · intro h
      have h0 : (List.range tab.length).filter (preF tab p) = [] := List.length_eq_zero_iff.mp (by omega)
      cases hp : isPre tab p with
      | false => rfl
      | true =>
        obtain ⟨k, w, hk, hw⟩ := isPre_iff.mp hp
        have hkl : k < tab.length := (List.getElem?_eq_some_iff.mp hk).1
        have hm : k ∈ (List.range tab.length).filter (preF tab p) := List.mem_filter.mpr ⟨List.mem_range.mpr hkl, by unfold preF; rw [hk]; exact decide_eq_true (pre_take hw).symm⟩
        rw [h0] at hm
        cases hm
    · intro h
      have h0 : (List.range tab.length).filter (preF tab p) = [] := by
        rw [List.filter_eq_nil_iff]
        intro k hk z
        have hkl := List.mem_range.mp hk
        unfold preF at z
        cases ho : tab[k]? with
        | none => rw [ho] at z; cases z
        | some o =>
          cases o with
          | none => rw [ho] at z; cases z
          | some w =>
            rw [ho] at z
            have z' : w.take p.length = p := of_decide_eq_true z
            have hpw : p <+: w := by rw [← z']; exact List.take_prefix _ _
            have := isPre_iff.mpr ⟨k, w, ho, hpw⟩
            rw [h] at this
            cases this
      rw [h0]
      rfl
  cases hp : isPre tab p with
  | false => exact decide_eq_true (key.mpr hp)
  | true => exact decide_eq_false fun z => by rw [key.mp z] at hp; cases hp
/-- the law's plain reading -/
def spLawRead (K : PySem.W.Frag) : Sp := fun vs H Q _ => ∃ (lt l pd : Addr) (H0 : Hp) (vt : List V) (tab : Tab) (bits : List Int) (at_ count : Nat), vs = [.ref lt, .ref l, .int (at_ : Int), .int (count : Int)] ∧ H lt = some (.lst vt) ∧ TabF pd H0 H vt tab ∧ Wds tab ∧ tab.length ≤ 100 ∧
  SqL K H l (bits.map V.int) ∧ bits.length ≤ 10000 ∧ at_ ≤ bits.length ∧ count ≤ 1000 ∧ RetD K (resD bits.length (readN tab bits count at_ [])) H Q
theorem ok_law_read {f : Addr} {fd : FuncData} {k : Nat} (F : Fun K "_law_read" "_law_read" s_law_read f fd) (B : Bs mg) : FnOk P w K mg base CX0 (k + 2) f fd ["table", "bits", "at", "count"] (spLawRead K) := by
  refine F.ok sc_law_read (fun vs H Q E h => ?_) (fun cdv A outer s H vs Q E hr h => ?_)
  · obtain ⟨lt, l, pd, H0, vt, tab, bits, at_, count, rfl, _⟩ := h
    rfl
  · obtain ⟨lt, l, pd, H0, vt, tab, bits, at_, count, rfl, ht, htf, W, htl, hs, hlen, hat, hcount, q⟩ := h
    have hu65 : (A.deeper (envOfC "_law_read" (defScope s_law_read) s.heap.objs.size f cdv)).units + 65 < cLine := by
      have := hr.un
      omega
    have hu64 : (A.deeper (envOfC "_law_read" (defScope s_law_read) s.heap.objs.size f cdv)).units + 64 < cLine := by omega
    refine ⟨_, (pss_cons (ps_set (i := 4) sc_law_read.nd rfl (Or.inl rfl) (pe_lst pa_nil))
      (pss_cons (ps_for PassesOwn.never rfl (pi_range1 (by rfl) B.range (pa_cons (pv 3) pa_nil)) (pg_name (i := 5) sc_law_read.nd rfl (Or.inl rfl)) (pss_cons (ps_set (i := 6) sc_law_read.nd rfl (Or.inl rfl) pe_non)
      (pss_cons (ps_for PassesOwn.never rfl (pi_range2 (by rfl) B.range (pa_cons (pe_op op_add (pv 2) pe_int) (pa_cons (pe_op op_add (pe_callB call_len_seq (by rfl) B.len PySem.boot_len (pa_cons (pv 1) pa_nil)) pe_int) pa_nil))) (pg_name (i := 7) sc_law_read.nd rfl (Or.inl rfl)) (pss_cons (ps_set (i := 8) sc_law_read.nd rfl (Or.inr rfl) (pe_slice sl_list (pv 1) (po_some (pv 2)) (po_some (pv 7))))
      (pss_cons (ps_if (pt_cmpR (op_inD hu65) (pv 8) (pv 0) (by rfl)) (pss_cons (ps_set (i := 6) sc_law_read.nd rfl (Or.inl rfl) (pe_tup (pa_cons (pe_bm PySem.F.plainAttrs_list PySem.F.slot_list_index PySem.F.type_list_index (mt_indexD hu65) (pv 0) (pa_cons (pv 8) pa_nil)) (pa_cons (pv 7) pa_nil))))
      (pss_one ps_break)) pss_nil)
      (pss_one (ps_if (pt_cmpR op_eq (pe_callB call_len_seq (by rfl) B.len PySem.boot_len (pa_cons (pe_lc rfl sc_law_read.nd (pi_list (pv 0)) (blkOk_by (own := [("word", 9)]) (N := ["table", "bits", "at", "count", "message", "turn", "found", "stop", "part", "word"]) (sc := defScope s_law_read) (by decide +kernel)) (fun _ _ _ _ _ => (pg_name (i := 9) sc_law_read.nd rfl (Or.inl rfl))) (fun _ _ _ _ _ => (pts_one (PW.pt (pw_and (pt_cmpR op_notN (pv 9) pe_non (nomark _)) (pw_and1 (pt_cmpR (op_eqDK hu64 (K := K) rfl) (pe_slice (sl_listK (K := K) rfl) (pv 9) po_none (po_some (pe_callB (len_seqK (K := K) rfl) (by rfl) B.len PySem.boot_len (pa_cons (pv 8) pa_nil)))) (pv 8) (nomark _))))))) (fun _ _ _ _ _ => (pv 9))) pa_nil)) pe_int (nomark _)) (pss_one (ps_ret (pe_tup (pa_cons pe_str (pa_cons (pv 2) pa_nil))))) pss_nil)))))
      (pss_cons (ps_if (pt_cmpR op_isN (pv 6) pe_non (nomark _)) (pss_one (ps_ret (pe_tup (pa_cons pe_str (pa_cons (pe_callB call_len_seq (by rfl) B.len PySem.boot_len (pa_cons (pv 1) pa_nil)) pa_nil))))) pss_nil)
      (pss_cons (ps_expr (pe_bm PySem.F.plainAttrs_list PySem.F.slot_list_append PySem.F.type_list_append mt_append (pv 4) (pa_cons (pe_ix ix_tup (pv 6) pe_int (fun _ _ => rfl)) pa_nil)))
      (pss_one (ps_set (i := 2) sc_law_read.nd rfl (Or.inl rfl) (pe_ix ix_tup (pv 6) pe_int (fun _ _ => rfl)))))))))
      (pss_one (ps_ret (pe_tup (pa_cons (pv 4) (pa_cons (pv 2) pa_nil))))))), ?_⟩
    have shT : SeqAt.shaped (.list (tab.map optD)) = true := shaped_list (n := 10) (by decide) optD_lay optD_depth _
    refine q_asgL (el_lst ea_nil (by decide)) fun pm H1 hpm e1 h1 => ?_
    have hpm' : H pm = none := hpm
    refine q_forR1 (n := (count : Int)) (ea1 (ev_var rfl)) ⟨by omega, by omega⟩
      (fun i σ H' => ∃ (msg : List Nat) (pl : Nat) (a b c d e : Option V), σ = [some (.ref lt), some (.ref l), some (.int (pl : Int)), some (.int (count : Int)), some (.ref pm), a, b, c, d, e] ∧ Ex H H' ∧ H' pm = some (.lst (nats msg)) ∧ pl ≤ bits.length ∧ msg.length = i ∧ readN tab bits count at_ [] = readN tab bits (count - i) pl msg)
      (fun H2 e2 => ⟨[], at_, none, none, none, none, none, rfl, e1.trans e2, e2 pm _ h1, hat, rfl, rfl⟩) ?_ ?_
    · rintro i σ H' hi ⟨msg, pl, a, b, c, d, e, rfl, eh, hl, hpl, hml, hrd⟩
      have hci : count - i = (count - (i + 1)) + 1 := by omega
      rw [hci, readN_succ] at hrd
      refine q_asg ev_c fun H2 e2 => ?_
      have eh2 := eh.trans e2
      -- behind the loop: what was found
      refine q_forR2 (lo := (pl : Int) + 1) (n := (bits.length : Int) + 1) (ea2 (ev_add (ev_var rfl) ev_c) (ev_is (ev_add (ev_len (ev_var rfl) (ex_l eh2 hs)) ev_c) (by rw [List.length_map]))) ⟨by omega, by omega, by omega, by omega⟩
        (fun m σ H3 => ∃ (c d e : Option V), σ = [some (.ref lt), some (.ref l), some (.int (pl : Int)), some (.int (count : Int)), some (.ref pm), some (.int (i : Int)), some .non, c, d, e] ∧ Ex H2 H3 ∧ M02.read tab bits pl = M02.scan tab bits pl (bits.length - pl - m) m)
        (fun H3 e3 => ⟨c, d, e, rfl, e3, rfl⟩) ?_ ?_
      · rintro m σ H3 hm ⟨c, d, e, rfl, e3, hsc⟩
        have e03 := eh2.trans e3
        have hs3 := ex_l e03 hs
        have hf : bits.length - pl - m = (bits.length - pl - (m + 1)) + 1 := by omega
        rw [hf] at hsc
        unfold M02.scan at hsc
        have hcut : cutV (bits.map V.int) (some (pl : Int)) (some ((pl : Int) + 1 + (m : Int))) = ((bits.drop pl).take (m + 1)).map V.int := by
          have hz : (pl : Int) + 1 + (m : Int) = ((pl + (m + 1) : Nat) : Int) := by omega
          rw [hz, cutV_mid _ (by omega) (by rw [List.length_map]; omega), ← List.map_drop, ← List.map_take]
          congr 2
          omega
        have hsl : EvL (tSl (rSlL K) (tVar 1) (tPart (tVar 2)) (tPart (tVar 7))) [some (.ref lt), some (.ref l), some (.int (pl : Int)), some (.int (count : Int)), some (.ref pm), some (.int (i : Int)), some .non, some (.int ((pl : Int) + 1 + (m : Int))), d, e] H3 (((bits.drop pl).take (m + 1)).map V.int) := by
          rw [← hcut]
          exact el_sl (ev_var rfl) (eo_some (ev_var rfl)) (eo_some (ev_var rfl)) hs3
        generalize hp' : (bits.drop pl).take (m + 1) = p' at *
        refine q_asgL hsl fun pp H4 hpp e4 h4 => ?_
        have e04 := e03.trans e4
        have ht4 := e04 lt _ ht
        have hdT : Dp K H4 (.ref lt) (.list (tab.map optD)) := .lst (sq_of ht4) (dp_tab (htf.ext e04))
        have hdP : Dp K H4 (.ref pp) (.list (p'.map PyData.int)) := dp_listI (sq_of h4)
        have shP : SeqAt.shaped (.list (p'.map PyData.int)) = true := shaped_ints _
        have hin : EvT (tTest (tOp (rInD K) (tVar 8) (tVar 0))) [some (.ref lt), some (.ref l), some (.int (pl : Int)), some (.int (count : Int)), some (.ref pm), some (.int (i : Int)), some .non, some (.int ((pl : Int) + 1 + (m : Int))), some (.ref pp), e] H4 (tab.findIdx? fun o => decide (o = some p')).isSome := by
          rw [← any_idx]
          exact et_test (ev_inD (ed_at (ev_var rfl) hdP) (ed_at (ev_var rfl) hdT) shP shT)
        cases hidx : tab.findIdx? (fun o => decide (o = some p')) with
        | some sy =>
          rw [hidx] at hsc hin
          have hw := idx_some hidx
          have hrd1 : readN tab bits count at_ [] = readN tab bits (count - (i + 1)) (pl + m + 1) (msg ++ [sy]) := by rw [hrd, hsc]
          refine q_when hin (fun _ H5 e5 => ?_) (fun z => by cases z)
          have e45 := e04.trans e5
          refine q_asgU (eu_tup (ea2 (ev_index (ev_var rfl) (e45 lt _ ht) (Dp.ext e5 _ _ hdT) (ed_at (ev_var rfl) (Dp.ext e5 _ _ hdP)) shT shP (j := sy) (z := optD (some p')) (by rw [List.getElem?_map, hw]; rfl) (by rw [eqv_optD]; exact decide_eq_true rfl) fun k z hk hz => ?_) (ev_var rfl)) (by show 2 ≤ 100000; decide)) fun pf H6 hpf e6 h6 => ?_
          · rw [List.getElem?_map] at hz
            cases ho : tab[k]? with
            | none => rw [ho] at hz; cases hz
            | some o =>
              rw [ho] at hz
              have ez := Option.some.inj hz
              subst ez
              rw [eqv_optD]
              refine decide_eq_false fun z => ?_
              rw [z] at ho
              exact W.free k sy p' p' (by omega) ho hw (List.prefix_refl _)
          · -- break: behind the loop
            have e46 := e45.trans e6
            have hl6 := (((((e2.trans e3).trans e4).trans e5).trans e6)) pm _ hl
            have hst : (pl : Int) + 1 + (m : Int) = ((pl + m + 1 : Nat) : Int) := by omega
            rw [hst] at h6
            refine q_when (b := false) (et_is (et_test (ev_isN (ev_var (v := .ref pf) rfl))) rfl) (fun z => by cases z) fun _ H7 e7 => ?_
            have h7 := e7 pf _ h6
            refine q_app (e7 pm _ hl6) (ev_var rfl) (ev_op (ev_var rfl) ev_c (rv_ixT (st_of h7) (v := .int (sy : Int)) (atI_nat (j := 0) rfl))) (by unfold nats; rw [List.length_map, List.length_map]; omega) fun H8 e8 => ?_
            have e68 := ((eh.trans (((((e2.trans e3).trans e4).trans e5).trans e6))).trans e7).trans e8
            have hne : pf ≠ pm := fun z => by
              have := e8 pf _ h7
              rw [z, (e7.trans e8) pm _ hl6] at this
              cases this
            refine s_asg (ev_op (ev_var rfl) ev_c (rv_ixT (st_of (xs := [.int (sy : Int), .int ((pl + m + 1 : Nat) : Int)]) (by rw [upd_ne hne]; exact e8 pf _ h7)) (v := .int ((pl + m + 1 : Nat) : Int)) (atI_nat (j := 1) rfl))) fun H9 e9 => ?_
            refine ⟨msg ++ [sy], pl + m + 1, _, _, _, _, _, rfl, (Ex.mut e68 hpm').trans e9, e9 pm _ ?_, by omega, by simp [hml], hrd1⟩
            rw [upd_same]
            unfold nats
            rw [List.map_append, List.map_append]
            rfl
        | none =>
          rw [hidx] at hsc hin
          refine q_when hin (fun z => by cases z) fun _ H5 e5 => ?_
          have e45 := e04.trans e5
          have htf5 := htf.ext e45
          have hvl : vt.length = tab.length := htf.1
          have hpp5 := e5 pp _ h4
          refine s_when (b := !isPre tab p') (et_is (et_test (ev_eq (j := 0) (ev_lenN (K := K) (xs := given tab.length (preF tab p') fun k => vt.getD k .non) ?_) ev_c)) (pre_len tab p' _)) (fun hb H6 e6 => ?_) (fun hb H6 e6 => ?_)
          · rw [← hvl]
            refine el_lcL (K := K) _ _ (ev_var rfl) (sq_of (e45 lt _ ht)) (by omega) (fun x => rfl) (fun k x H7 e7 hk => ?_) (fun k x H7 e7 hk _ => ev_is (ev_var (v := x) rfl) (by rw [List.getD_eq_getElem?_getD, hk]; rfl))
            have hkl : k < tab.length := by rw [← hvl]; exact (List.getElem?_eq_some_iff.mp hk).1
            have hent := (htf5.ext e7).2 k x _ hk (List.getElem?_eq_getElem hkl)
            have hto : tab[k]? = some tab[k] := List.getElem?_eq_getElem hkl
            unfold preF
            rw [hto]
            cases ho : tab[k] with
            | none =>
              rw [ho] at hent
              have z : x = .non := hent
              subst z
              exact et_andF (b := false) (et_is (et_test (ev_notN (ev_var rfl))) rfl)
            | some w =>
              rw [ho] at hent
              obtain ⟨r, rfl, _, _, hr⟩ := hent
              refine et_andT (et_is (et_test (ev_notN (ev_var rfl))) rfl) ?_
              refine et_is (et_test (ev_eqD (d := .list ((w.take p'.length).map PyData.int)) (d2 := .list (p'.map PyData.int)) (ed_listI ?_) (ed_at (ev_var rfl) (dp_listI (sq_of (e7 pp _ hpp5)))) (shaped_ints _) (shaped_ints _))) ?_
              · have h1 := el_sl (K := K) (σ := [some (.ref lt), some (.ref l), some (.int (pl : Int)), some (.int (count : Int)), some (.ref pm), some (.int (i : Int)), some .non, some (.int ((pl : Int) + 1 + (m : Int))), some (.ref pp), some (.ref r)]) (hi := some ((p'.map V.int).length : Int)) (ev_var (i := 9) (v := .ref r) rfl) eo_none (eo_some (ev_len (K := K) (ev_var (i := 8) (v := .ref pp) rfl) (sq_of (e7 pp _ hpp5)))) (sq_of hr)
                rw [cutV_to, List.length_map, ← List.map_take] at h1
                exact h1
              · simp only [PyData.eqv]
                rw [eqvAll_ints]
          · have hpf : isPre tab p' = false := by simpa using hb
            have hsc' : M02.read tab bits pl = .inv := by
              rw [hsc]
              show (if isPre tab p' = true then _ else _) = _
              rw [hpf, if_neg Bool.false_ne_true]
            have hrd1 : readN tab bits count at_ [] = .inv pl := by rw [hrd, hsc']
            rw [hrd1] at q
            exact s_retD (d := .tuple [.str "InvalidWord", .int (pl : Int)]) (fun H1 e1 Q q => (eu_tup (ea2 (ev_c (v := .str "InvalidWord")) (ev_var (i := 2) (v := .int (pl : Int)) rfl)) (by show 2 ≤ 100000; decide)) H1 e1 Q fun p H2 _ e2 hp => q _ H2 e2 (.tup (.inl (.inl hp)) (.cons (.str _) (.cons (.int _) .nil)))) fun v H7 e7 hv => q v H7 ((e45.trans e6).trans e7) hv
          · have hpt : isPre tab p' = true := by simpa using hb
            refine ⟨_, _, _, rfl, (((e3.trans e4).trans e5).trans e6), ?_⟩
            rw [hsc]
            show (if isPre tab p' = true then _ else _) = _
            rw [if_pos hpt]
      · rintro σ H3 ⟨c, d, e, rfl, e3, hsc⟩
        have e03 := eh2.trans e3
        have hz : bits.length - pl - ((bits.length : Int) + 1 - ((pl : Int) + 1)).toNat = 0 := by omega
        rw [hz] at hsc
        have hrd1 : readN tab bits count at_ [] = .trunc := by rw [hrd, hsc]; rfl
        rw [hrd1] at q
        refine q_when (b := true) (et_is (et_test (ev_isN (ev_var (v := .non) rfl))) rfl) (fun _ H4 e4 => ?_) (fun z => by cases z)
        exact s_retD (d := .tuple [.str "Truncated", .int (bits.length : Int)]) (fun H1 e1 Q q => (eu_tup (ea2 (ev_c (v := .str "Truncated")) (ev_is (ev_len (K := K) (ev_var (i := 1) (v := .ref l) rfl) (ex_l (e03.trans e4) hs)) (by rw [List.length_map]))) (by show 2 ≤ 100000; decide)) H1 e1 Q fun p H2 _ e2 hp => q _ H2 e2 (.tup (.inl (.inl hp)) (.cons (.str _) (.cons (.int _) .nil)))) fun v H7 e7 hv => q v H7 ((e03.trans e4).trans e7) hv
    · rintro σ H' ⟨msg, pl, a, b, c, d, e, rfl, eh, hl, hpl, hml, hrd⟩
      have hz : count - ((count : Int)).toNat = 0 := by omega
      rw [hz] at hrd
      have hrd' : readN tab bits count at_ [] = .ok msg pl := hrd
      rw [hrd'] at q
      exact s_retD (ed_tup (eda_cons (ed_at (ev_var rfl) (dp_listI (sq_of hl))) (eda_cons (ed_int (ev_var rfl)) eda_nil)) (by show 2 ≤ 100000; decide)) fun v H5 e5 hv => q v H5 (eh.trans e5) hv
end
end K02
set_option Elab.async false
set_option linter.all false
set_option maxRecDepth 100000
set_option maxHeartbeats 4000000
namespace K02
open PySem PySem.Spec PyProof.Rows L2 StX GX KC Evl M01 M02 KX
/-! writing -/
def wOf (tab : Tab) (k : Nat) : List Int := match tab[k]? with
  | some (some w) => w
  | _ => []
def enc (tab : Tab) (msg : List Nat) : List Int := msg.flatMap (wOf tab)
theorem enc_snoc (tab : Tab) (a : List Nat) (k : Nat) : enc tab (a ++ [k]) = enc tab a ++ wOf tab k := by
  unfold enc
  rw [List.flatMap_append]
  simp
theorem enc_cons (tab : Tab) (a : List Nat) (k : Nat) : enc tab (k :: a) = wOf tab k ++ enc tab a := by
  unfold enc
  rw [List.flatMap_cons]
def Pres (tab : Tab) (msg : List Nat) : Prop := ∀ k ∈ msg, ∃ w, tab[k]? = some (some w)
theorem wOf_is {tab : Tab} {k : Nat} {w : List Int} (h : tab[k]? = some (some w)) : wOf tab k = w := by
  unfold wOf
  rw [h]
theorem enc_len {tab : Tab} {B : Nat} (hb : ∀ (k : Nat) w, tab[k]? = some (some w) → w.length ≤ B) : ∀ msg : List Nat, (enc tab msg).length ≤ msg.length * B
  | [] => by simp [enc]
  | k :: r => by
    have ih := enc_len hb r
    rw [enc_cons, List.length_append, List.length_cons, Nat.add_mul]
    have : (wOf tab k).length ≤ B := by
      unfold wOf
      split
      · rename_i w hw
        exact hb k w hw
      · simp
    omega
theorem enc_bit {tab : Tab} (W : Wds tab) (msg : List Nat) : Bit (enc tab msg) := fun b hb => by
  obtain ⟨k, _, h⟩ := List.mem_flatMap.mp hb
  unfold wOf at h
  split at h
  · rename_i w hw
    exact W.bit k w hw b h
  · simp at h
theorem readN_enc {tab : Tab} (W : Wds tab) {pre post : List Int} : ∀ (msg done : List Nat), Pres tab msg → readN tab (pre ++ enc tab done ++ enc tab msg ++ post) msg.length (pre.length + (enc tab done).length) done = .ok (done ++ msg) (pre.length + (enc tab done).length + (enc tab msg).length)
  | [], done, _ => by
    show ResN.ok _ _ = _
    simp [enc]
  | k :: r, done, h => by
    obtain ⟨w, hw⟩ := h k List.mem_cons_self
    have hpre : w <+: (pre ++ enc tab done ++ enc tab (k :: r) ++ post).drop (pre.length + (enc tab done).length) := by
      have e1 : pre ++ enc tab done ++ enc tab (k :: r) ++ post = (pre ++ enc tab done) ++ (w ++ (enc tab r ++ post)) := by
        rw [enc_cons, wOf_is hw]
        simp only [List.append_assoc]
      rw [e1, List.drop_append_of_le_length (by rw [List.length_append]; exact Nat.le_refl _), List.drop_of_length_le (by rw [List.length_append]; exact Nat.le_refl _), List.nil_append]
      exact List.prefix_append _ _
    have hrd := read_word W hw hpre
    rw [List.length_cons, readN_succ, hrd]
    have e2 : pre ++ enc tab done ++ enc tab (k :: r) ++ post = pre ++ enc tab (done ++ [k]) ++ enc tab r ++ post := by
      rw [enc_snoc, enc_cons]
      simp only [List.append_assoc]
    have e3 : pre.length + (enc tab done).length + w.length = pre.length + (enc tab (done ++ [k])).length := by
      rw [enc_snoc, wOf_is hw, List.length_append]
      omega
    show readN tab _ r.length _ (done ++ [k]) = _
    rw [e2, e3, readN_enc W r (done ++ [k]) fun j hj => h j (List.mem_cons_of_mem _ hj)]
    congr 1
    · simp
    · rw [enc_snoc, enc_cons, List.length_append, List.length_append]
      omega
section
variable {P : Program} {w : World} {K : PySem.W.Frag} {mg : Str → Option Value} {base : Heap}
def spWrite (K : PySem.W.Frag) (Pt : Addr) : Sp := fun vs H Q _ => ∃ (l0 lm : Addr) (ls : List Int) (o msg : List Nat), vs = [.ref l0, .ref lm] ∧ SqL K H l0 (ls.map V.int) ∧ Lok ls ∧ ls.length ≤ 100 ∧ kraft ls ≤ 1048576 ∧ H Pt = some (TabX Pt) ∧ IsOrd ls o ∧
  SqL K H lm (nats msg) ∧ Pres (tabOf ls o) msg ∧ msg.length ≤ 100 ∧ RetL ((enc (tabOf ls o) msg).map V.int) H Q
theorem ok_write_symbols {f Pt : Addr} {fd : FuncData} {k : Nat} (F : Fun K "write_symbols" "write_symbols" s_write_symbols f fd) (B : Bs mg) (C_words : Cal P w K mg base "words" 7 ["lengths"] (spWords K Pt)) : FnOk P w K mg base CX0 (k + 8) f fd ["lengths", "message"] (spWrite K Pt) := by
  refine F.ok sc_write_symbols (fun vs H Q E h => ?_) (fun cdv A outer s H vs Q E hr h => ?_)
  · obtain ⟨l0, lm, ls, o, msg, rfl, _⟩ := h
    rfl
  · obtain ⟨l0, lm, ls, o, msg, rfl, hs0, hok, hn, hkr, htab, hord, hsm, hpr, hml, q⟩ := h
    refine ⟨_, pss_cons (ps_set (i := 2) sc_write_symbols.nd rfl (Or.inr rfl) (pe_callC C_words (hr.mono (by omega)) (by rfl) (pa_cons (pv 0) pa_nil)))
      (pss_one (ps_ret (pe_lc2 (vs1 := [4]) (wi1 := iList K (tOp (rIxL K) (tVar 2) (tVar 3))) rfl sc_write_symbols.nd (pi_list (pv 1)) (blkOk_by (own := [("symbol", 3), ("bit", 4)]) (N := ["lengths", "message", "table", "symbol", "bit"]) (sc := defScope s_write_symbols) (by decide +kernel)) (by decide)
        (fun _ _ _ _ _ => (pg_name (i := 3) sc_write_symbols.nd rfl (Or.inl rfl))) (fun _ _ _ _ _ => pts_nil) (fun _ _ _ _ _ => pi_list (pe_ix (ix_listK (K := K) rfl) (pv 2) (pv 3) (fun _ _ => rfl))) (fun _ _ _ _ _ => (pg_name (i := 4) sc_write_symbols.nd rfl (Or.inl rfl))) (fun _ _ _ _ _ => pts_nil) (fun _ _ _ _ _ => (pv 4))))), ?_⟩
    have W := wds hok hord hkr
    refine ⟨_, rfl, l0, ls, o, rfl, hs0, hok, hn, hkr, htab, hord, fun pt vt Ht hpt et ht htf => ?_⟩
    have hml2 : (nats msg).length = msg.length := by unfold nats; rw [List.length_map, List.length_map]
    have hsm' := ex_l et hsm
    have hlw : ∀ (k : Nat) w, (tabOf ls o)[k]? = some (some w) → w.length ≤ 20 := fun k w h => wd_len hok h
    generalize htb : tabOf ls o = tab at *
    refine ⟨_, rfl, lm, rfl, ⟨_, hsm'⟩, fun D hD => ⟨fun i m H' => m + i = msg.length ∧ Ex Ht H' ∧ H' D = some (.lst ((enc tab (msg.take i)).map V.int)), ⟨msg.length, by omega, Ex.new hD, upd_same⟩, ?_⟩⟩
    rintro i m H' ⟨hm, e3, hl⟩
    by_cases hi : i < msg.length
    · right
      have hat : (nats msg)[i]? = some (.int ((msg.getD i 0 : Nat) : Int)) := by
        unfold nats
        rw [List.getElem?_map, List.getElem?_map, List.getElem?_eq_getElem hi, List.getD_eq_getElem?_getD, List.getElem?_eq_getElem hi]
        rfl
      have hmi : msg.getD i 0 = msg[i] := by rw [List.getD_eq_getElem?_getD, List.getElem?_eq_getElem hi] <;> rfl
      have htk : msg.take (i + 1) = msg.take i ++ [msg.getD i 0] := by rw [hmi]; exact (List.take_append_getElem hi).symm
      obtain ⟨w1, hw1⟩ := hpr _ (List.getElem_mem hi)
      rw [← hmi] at hw1
      refine ⟨⟨_, _, ex_l e3 hsm', hat⟩, fun H' => (m - 1) + (i + 1) = msg.length ∧ Ex Ht H' ∧ H' D = some (.lst ((enc tab (msg.take (i + 1))).map V.int)), fun H' q => ⟨m - 1, by omega, q⟩, ?_⟩
      rintro x H5 ⟨rfl, hx⟩
      have ex1 := (Option.some.inj (hat.symm.trans (hx _ (ex_l e3 hsm')))).symm
      subst ex1
      generalize hk1 : msg.getD i 0 = k1 at *
      have hkl : k1 < tab.length := (List.getElem?_eq_some_iff.mp hw1).1
      have hvl : vt.length = tab.length := htf.1
      have hvt : vt[k1]? = some vt[k1] := List.getElem?_eq_getElem (by omega)
      have hent := (htf.ext e3).2 k1 _ _ hvt hw1
      obtain ⟨r, hr1, _, _, hrl⟩ := hent
      rw [hr1] at hvt
      have hb20 := hlw _ _ hw1
      have hel := enc_len hlw (msg.take i)
      have htl : (msg.take i).length ≤ 100 := by rw [List.length_take]; omega
      refine ⟨rfl, tt_yes ?_⟩
      refine ⟨.ref pt, rfl, _, rfl, pt, vt, _, _, rfl, rfl, sq_of (e3 pt _ ht), atI_nat hvt, r, rfl, ⟨_, sq_of hrl⟩, fun j k H' => k + j = w1.length ∧ Ex Ht H' ∧ H' D = some (.lst ((enc tab (msg.take i) ++ w1.take j).map V.int)) ∧ H' r = some (.lst (w1.map V.int)) ∧ r ≠ D, ⟨w1.length, by omega, e3, by rw [List.take_zero, List.append_nil]; exact hl, hrl, fun z => ?_⟩, ?_⟩
      · have := htf.2 k1 _ _ (by rw [hvt]) hw1
        obtain ⟨r2, e2, _, _, h2⟩ := this
        cases e2
        rw [z, hD] at h2
        cases h2
      rintro j kk H6 ⟨hkk, e6, hl6, hr6, hrD⟩
      by_cases hj : j < w1.length
      · right
        have hwj : w1.getD j 0 = w1[j] := by rw [List.getD_eq_getElem?_getD, List.getElem?_eq_getElem hj] <;> rfl
        have htj : w1.take (j + 1) = w1.take j ++ [w1.getD j 0] := by rw [hwj]; exact (List.take_append_getElem hj).symm
        refine ⟨⟨_, _, sq_of hr6, int_at hj⟩, fun H' => (kk - 1) + (j + 1) = w1.length ∧ Ex Ht H' ∧ H' D = some (.lst ((enc tab (msg.take i) ++ w1.take (j + 1)).map V.int)) ∧ H' r = some (.lst (w1.map V.int)) ∧ r ≠ D, fun H' q => ⟨kk - 1, by omega, q⟩, ?_⟩
        rintro x H7 ⟨rfl, hx⟩
        have ex2 := (Option.some.inj ((int_at hj).symm.trans (hx _ (sq_of hr6)))).symm
        subst ex2
        refine ⟨rfl, tt_yes ⟨_, rfl, _, hl6, sz_lt (by rw [List.length_map, List.length_append, List.length_take]; omega), by omega, Ex.mut e6 hD, ?_, by rw [upd_ne hrD]; exact hr6, hrD⟩⟩
        rw [upd_same, htj, ← List.append_assoc, List.map_append (l₁ := enc tab (msg.take i) ++ w1.take j)]
        rfl
      · left
        have hjw : j = w1.length := by omega
        subst hjw
        refine ⟨⟨_, sq_of hr6, by rw [List.length_map]; exact Nat.le_refl _⟩, by omega, e6, ?_⟩
        rw [htk, enc_snoc, wOf_is hw1]
        rw [List.take_length] at hl6
        exact hl6
    · left
      have hin : i = msg.length := by omega
      subst hin
      rw [List.take_length] at hl
      exact ⟨⟨_, ex_l e3 hsm', by rw [hml2]; exact Nat.le_refl _⟩, q D H' (fresh_back et hD) (et.trans e3) hl⟩
end
end K02
set_option Elab.async false
set_option linter.all false
set_option maxRecDepth 100000
set_option maxHeartbeats 4000000
namespace K02
open PySem PySem.Spec PyProof.Rows L2 StX GX KC Evl M01 M02 KX
theorem resD_lay (len : Nat) (r : ResN) : (resD len r).canLay0 = true := by
  cases r with
  | ok msg pl =>
    simp only [resD, natsD, PyData.canLay0, PyData.canLayAll0, Bool.and_true, Bool.and_eq_true]
    exact canLayAll0_map (fun a => by simp [PyData.canLay0]) _
  | inv a =>
    simp [resD, PyData.canLay0, PyData.canLayAll0]
    decide +kernel
  | trunc =>
    simp [resD, PyData.canLay0, PyData.canLayAll0]
    decide +kernel
theorem resD_depth (len : Nat) (r : ResN) : (resD len r).depth ≤ 10 := by
  cases r with
  | ok msg pl =>
    have := depthAll_map (f := PyData.int) (n := 1) (fun a => by simp [PyData.depth]) (msg.map fun (k : Nat) => (k : Int))
    simp only [resD, natsD, PyData.depth, PyData.depthAll]
    omega
  | inv a => simp [resD, PyData.depth, PyData.depthAll]
  | trunc => simp [resD, PyData.depth, PyData.depthAll]
theorem resD_shaped (len : Nat) (r : ResN) : SeqAt.shaped (resD len r) = true := by
  show ((resD len r).canLay0 && decide ((resD len r).depth ≤ 64)) = true
  rw [resD_lay, decide_eq_true (by have := resD_depth len r; omega)]
  rfl
theorem resD_eqv (len : Nat) (r : ResN) : PyData.eqv (resD len r) (resD len r) = true := by
  cases r with
  | ok msg pl =>
    have := eqv_ints (msg.map fun (k : Nat) => (k : Int))
    simp only [resD, natsD, PyData.eqv, PyData.eqvAll, List.map_map] at *
    simp [this]
  | inv a => simp [resD, PyData.eqv, PyData.eqvAll]
  | trunc => simp [resD, PyData.eqv, PyData.eqvAll]
section
variable {P : Program} {w : World} {K : PySem.W.Frag} {mg : Str → Option Value} {base : Heap} {σ : L2.St} {H : Hp} {ta tb tc td te : TE} {t u : TT} {D : Ends} {tz : TS}
theorem el_call2L {sp : Sp} {E : XK} {xs zs : List V} {y : V} (h1 : EvL ta σ H xs) (h2 : Ev tb σ H y) (hs : ∀ p H1, Ex H H1 → H1 p = some (.lst xs) → SpL sp [.ref p, y] H1 zs) : EvL (tCall sp [] E (tCons ta (tCons tb tNil))) σ H zs := fun H1 e Q q =>
  h1 H1 e _ fun p H2 _ e2 hp => h2 H2 (e.trans e2) _ fun H3 e3 => hs p H3 ((e.trans e2).trans e3) (e3 p _ hp) H3 (Ex.refl _) Q (fun r H4 hr e4 h4 => q r H4 (fresh_back (e2.trans e3) hr) ((e2.trans e3).trans e4) h4) E
theorem ed_call4L {sp : Sp} {E : XK} {xs : List V} {x y z : V} {d : PyData} (h1 : EvL ta σ H xs) (h2 : Ev tb σ H x) (h3 : Ev tc σ H y) (h4 : Ev td σ H z) (hs : ∀ p H1, Ex H H1 → H1 p = some (.lst xs) → SpD K sp [.ref p, x, y, z] H1 d) :
    EvD K (tCall sp [] E (tCons ta (tCons tb (tCons tc (tCons td tNil))))) σ H d := fun H1 e Q q =>
  h1 H1 e _ fun p H2 _ e2 hp => h2 H2 (e.trans e2) _ fun H3 e3 => h3 H3 ((e.trans e2).trans e3) _ fun H4 e4 => h4 H4 (((e.trans e2).trans e3).trans e4) _ fun H5 e5 => by
    have e25 := ((e2.trans e3).trans e4).trans e5
    exact hs p H5 (e.trans e25) (((e3.trans e4).trans e5) p _ hp) H5 (Ex.refl _) Q (fun v H6 e6 hv => q v H6 (e25.trans e6) hv) E
theorem ed_call4LL {sp : Sp} {E : XK} {xs ys : List V} {y z : V} {d : PyData} (h1 : EvL ta σ H xs) (h2 : EvL tb σ H ys) (h3 : Ev tc σ H y) (h4 : Ev td σ H z) (hs : ∀ p r H1, Ex H H1 → H1 p = some (.lst xs) → H1 r = some (.lst ys) → SpD K sp [.ref p, .ref r, y, z] H1 d) :
    EvD K (tCall sp [] E (tCons ta (tCons tb (tCons tc (tCons td tNil))))) σ H d := fun H1 e Q q =>
  h1 H1 e _ fun p H2 _ e2 hp => h2 H2 (e.trans e2) _ fun r H3 _ e3 hr => h3 H3 ((e.trans e2).trans e3) _ fun H4 e4 => h4 H4 (((e.trans e2).trans e3).trans e4) _ fun H5 e5 => by
    have e25 := ((e2.trans e3).trans e4).trans e5
    exact hs p r H5 (e.trans e25) (((e3.trans e4).trans e5) p _ hp) ((e4.trans e5) r _ hr) H5 (Ex.refl _) Q (fun v H6 e6 hv => q v H6 (e25.trans e6) hv) E
theorem g_name {i : Nat} {v : V} {Q : L2.St → Hp → Prop} (h : Q (σ.set i (some v)) H) : gName i v σ H Q := h
/-- if t: x = a new list -/
theorem q_ifL {b : Bool} {i : Nat} {a : Addr} {xs ys : List V} (h : EvT t σ H b) (hσ : σ.set i (some (.ref a)) = σ) (ha : H a = some (.lst xs)) (h1 : b = true → EvL te σ H ys) (k : ∀ p zs H1, Ex H H1 → H1 p = some (.lst zs) → (zs = ys ∨ zs = xs) → tz D (σ.set i (some (.ref p))) H1) : tSeq (tIfS t (tAsg te (gName i)) tNext) tz D σ H :=
  q_when h (fun hb H1 e1 => s_asgL (D := { D with nx := tz D }) ((h1 hb).mono e1) fun p H2 _ e2 h2 => k p ys H2 (e1.trans e2) h2 (.inl rfl)) (fun _ H1 e1 => by
    have g := k a xs H1 e1 (e1 a _ ha) (.inr rfl)
    rw [hσ] at g
    exact g)
theorem ev_intOf {i : Int} (h : Ev ta σ H (.int i)) : Ev (tCB (fun xs H Q => (∃ i, xs = [.int i] ∧ Q (.int i) H) ∨ ∃ k, xs = [.bl k] ∧ Q (.int (if k then 1 else 0)) H) (tCons ta tNil)) σ H (.int i) := ev_cb (ea1 h) rc_int
/-- the ints of a slice -/
theorem cut_ints (ns : List Int) (lo hi : Option Int) : ∃ cs : List Int, cutV (ns.map V.int) lo hi = cs.map V.int ∧ cs.length ≤ ns.length := by
  refine ⟨(ns.drop (HT.sIx (ns.map V.int).length 0 lo)).take (HT.sIx (ns.map V.int).length (ns.map V.int).length hi - HT.sIx (ns.map V.int).length 0 lo), ?_, ?_⟩
  · unfold cutV
    rw [List.map_take, List.map_drop]
  · rw [List.length_take, List.length_drop]
    omega
theorem givenL (cs : List Int) (g : Int → Int) : given (cs.map V.int).length (fun _ => true) (fun i => V.int (g (cs.getD i 0))) = (cs.map g).map V.int := by
  unfold given
  rw [List.filter_eq_self.mpr fun _ _ => rfl, List.length_map]
  refine List.ext_getElem? fun j => ?_
  rw [List.getElem?_map, List.getElem?_map, List.getElem?_map]
  by_cases hj : j < cs.length
  · rw [List.getElem?_range hj, List.getElem?_eq_getElem hj, Option.map_some, Option.map_some, List.getD_eq_getElem?_getD, List.getElem?_eq_getElem hj]
    rfl
  · rw [List.getElem?_eq_none (by rw [List.length_range]; omega), List.getElem?_eq_none (by omega)]
    rfl
/-- [g(c) for c in a slice] -/
theorem el_lcS {tl : TE} {j : Nat} {vs : List Nat} {cs : List Int} (g : Int → Int) (h : EvL tl σ H (cs.map V.int)) (hz : cs.length ≤ 1000) (hw : ∀ x, wipe ((wipe σ vs).set j (some x)) vs = wipe σ vs)
    (he : ∀ (c : Int) H1, Ex H H1 → Ev te ((wipe σ vs).set j (some (.int c))) H1 (.int (g c))) : EvL (tLc (iList K tl) (gName j) tYes te vs) σ H ((cs.map g).map V.int) := by
  rw [← givenL]
  refine el_lcNL _ _ h (by rw [List.length_map]; omega) hw (fun i x H1 e hi => et_yes) (fun i x H1 e hi _ => ?_)
  have hil : i < cs.length := by
    have := (List.getElem?_eq_some_iff.mp hi).1
    rwa [List.length_map] at this
  rw [int_at hil] at hi
  have hx := Option.some.inj hi
  subst hx
  exact he _ H1 e
def spLaw (K : PySem.W.Frag) (P0 : Addr) : Sp := fun vs H Q _ => ∃ (a : Addr) (ns : List Int), vs = [.ref a] ∧ SqL K H a (ns.map V.int) ∧ ns.length ≤ 63 ∧ H P0 = some (TabX P0) ∧ ∀ H2, Ex H H2 → Q (.bl true) H2
theorem sp_told {Pt : Addr} {H : Hp} {l0 l : Addr} {ls bits : List Int} {at_ count : Nat} {o : List Nat} {x y : Int} (ex : x = (at_ : Int)) (ey : y = (count : Int)) (hs0 : SqL K H l0 (ls.map V.int)) (hok : Lok ls) (hn : ls.length ≤ 100) (hkr : kraft ls ≤ 1048576) (htab : H Pt = some (TabX Pt)) (hord : IsOrd ls o)
    (hs : SqL K H l (bits.map V.int)) (hb : Bit bits) (hlen : bits.length ≤ 10000) (hat : at_ ≤ bits.length) (hc : count ≤ 1000) : SpD K (spTold K Pt) [.ref l0, .ref l, .int x, .int y] H (resD bits.length (readN (tabOf ls o) bits count at_ [])) := fun H1 e1 Q q E =>
  ⟨l0, l, ls, bits, at_, count, o, by rw [ex, ey], ex_l e1 hs0, hok, hn, hkr, e1 Pt _ htab, hord, ex_l e1 hs, hb, hlen, hat, hc, q⟩
theorem ok_law {f P0 : Addr} {fd : FuncData} {k : Nat} (F : Fun K "law" "law" s_law f fd) (B : Bs mg)
    (C_law_cell : Cal P w K mg base "_law_cell" 1 ["script", "k"] (spCell K)) (C_law_lengths : Cal P w K mg base "_law_lengths" 2 ["script", "first", "many"] (spLengths K))
    (C_law_fitting : Cal P w K mg base "_law_fitting" 1 ["lengths"] (spFit K)) (C_law_words : Cal P w K mg base "_law_words" 1 ["lengths"] (spLawWords K)) (C_write_symbols : Cal P w K mg base "write_symbols" 8 ["lengths", "message"] (spWrite K P0))
    (C_law_told : Cal P w K mg base "_law_told" 10 ["lengths", "bits", "at", "count"] (spTold K P0)) (C_law_read : Cal P w K mg base "_law_read" 2 ["table", "bits", "at", "count"] (spLawRead K)) : FnOk P w K mg base CX0 (k + 11) f fd ["script"] (spLaw K P0) := by
  refine F.ok sc_law (fun vs H Q E h => ?_) (fun cdv A outer s H vs Q E hr h => ?_)
  · obtain ⟨a, ns, rfl, _⟩ := h
    rfl
  · obtain ⟨a, ns, rfl, hs, hn, t0, q⟩ := h
    have hu64 : (A.deeper (envOfC "law" (defScope s_law) s.heap.objs.size f cdv)).units + 64 < cLine := by
      have := hr.un
      omega
    refine ⟨_, (pss_cons (ps_set (i := 1) sc_law.nd rfl (Or.inl rfl) (pe_op op_add pe_int (pe_op op_mod (pe_callC C_law_cell (hr.mono (by omega)) (by rfl) (pa_cons (pv 0) (pa_cons pe_int pa_nil))) pe_int)))
      (pss_cons (ps_set (i := 2) sc_law.nd rfl (Or.inl rfl) (pe_callC C_law_fitting (hr.mono (by omega)) (by rfl) (pa_cons (pe_callC C_law_lengths (hr.mono (by omega)) (by rfl) (pa_cons (pv 0) (pa_cons pe_int (pa_cons (pv 1) pa_nil)))) pa_nil)))
      (pss_cons (ps_set (i := 3) sc_law.nd rfl (Or.inr rfl) (pe_callC C_law_words (hr.mono (by omega)) (by rfl) (pa_cons (pv 2) pa_nil)))
      (pss_cons (ps_set (i := 4) sc_law.nd rfl (Or.inr rfl) (pe_lc rfl sc_law.nd (pi_range1 (by rfl) B.range (pa_cons (pv 1) pa_nil)) (blkOk_by (own := [("k", 5)]) (N := ["script", "many", "lengths", "table", "present", "k", "message", "cell", "bits", "symbol", "given", "before", "behind", "whole", "handed", "found", "at", "count"]) (sc := defScope s_law) (by decide +kernel)) (fun _ _ _ _ _ => (pg_name (i := 5) sc_law.nd rfl (Or.inl rfl))) (fun _ _ _ _ _ => (pts_one (pt_cmpR op_notN (pe_ix (ix_listK (K := K) rfl) (pv 3) (pv 5) (fun _ _ => rfl)) pe_non (nomark _)))) (fun _ _ _ _ _ => (pv 5))))
      (pss_cons (ps_setLc (i := 6) rfl sc_law.nd rfl rfl (sw_true rfl rfl rfl (by decide +kernel)) (pi_list (pe_slice sl_list (pv 0) (po_some pe_int) (po_some pe_int))) (blkOk_by (own := [("cell", 7)]) (N := ["script", "many", "lengths", "table", "present", "k", "message", "cell", "bits", "symbol", "given", "before", "behind", "whole", "handed", "found", "at", "count"]) (sc := defScope s_law) (by decide +kernel)) (fun _ _ _ _ _ => (pg_name (i := 7) sc_law.nd rfl (Or.inl rfl))) (fun _ _ _ _ _ => pts_nil) (fun _ _ _ _ _ => (pe_ix (ix_listK (K := K) rfl) (pv 4) (pe_op op_mod (pe_callTy call_int1 (by rfl) B.int (by decide +kernel) (pa_cons (pv 7) pa_nil)) (pe_callB (len_seqK (K := K) rfl) (by rfl) B.len PySem.boot_len (pa_cons (pv 4) pa_nil))) (fun _ _ => rfl))))
      (pss_cons (ps_set (i := 8) sc_law.nd rfl (Or.inl rfl) (pe_lst pa_nil))
      (pss_cons (ps_for PassesOwn.never rfl (pi_list (pv 6)) (pg_name (i := 9) sc_law.nd rfl (Or.inl rfl)) (pss_one (ps_set (i := 8) sc_law.nd rfl (Or.inl rfl) (pe_op op_cat (pv 8) (pe_ix ix_list (pv 3) (pv 9) (fun _ _ => rfl))))))
      (pss_cons (ps_set (i := 10) sc_law.nd rfl (Or.inl rfl) (pe_callTy call_list_of (by rfl) B.list (by decide +kernel) (pa_cons (pv 6) pa_nil)))
      (pss_cons (ps_if (PW.pt (pw_or (pt_cmpR (op_neD hu64) (pe_callC C_write_symbols (hr.mono (by omega)) (by rfl) (pa_cons (pe_callTy call_list_of (by rfl) B.list (by decide +kernel) (pa_cons (pv 2) pa_nil)) (pa_cons (pv 10) pa_nil))) (pv 8) (nomark _)) (pw_or1 (pt_cmpR (op_neD hu64) (pv 10) (pv 6) (nomark _))))) (pss_one (ps_ret pe_bl)) pss_nil)
      (pss_cons (ps_setLc (i := 11) rfl sc_law.nd rfl rfl (sw_true rfl rfl rfl (by decide +kernel)) (pi_list (pe_slice sl_list (pv 0) (po_some pe_int) (po_some pe_int))) (blkOk_by (own := [("cell", 7)]) (N := ["script", "many", "lengths", "table", "present", "k", "message", "cell", "bits", "symbol", "given", "before", "behind", "whole", "handed", "found", "at", "count"]) (sc := defScope s_law) (by decide +kernel)) (fun _ _ _ _ _ => (pg_name (i := 7) sc_law.nd rfl (Or.inl rfl))) (fun _ _ _ _ _ => pts_nil) (fun _ _ _ _ _ => (pe_op op_mod (pe_callTy call_int1 (by rfl) B.int (by decide +kernel) (pa_cons (pv 7) pa_nil)) pe_int)))
      (pss_cons (ps_setLc (i := 12) rfl sc_law.nd rfl rfl (sw_true rfl rfl rfl (by decide +kernel)) (pi_list (pe_slice sl_list (pv 0) (po_some pe_int) (po_some pe_int))) (blkOk_by (own := [("cell", 7)]) (N := ["script", "many", "lengths", "table", "present", "k", "message", "cell", "bits", "symbol", "given", "before", "behind", "whole", "handed", "found", "at", "count"]) (sc := defScope s_law) (by decide +kernel)) (fun _ _ _ _ _ => (pg_name (i := 7) sc_law.nd rfl (Or.inl rfl))) (fun _ _ _ _ _ => pts_nil) (fun _ _ _ _ _ => (pe_op op_mod (pe_op op_fdiv (pe_callTy call_int1 (by rfl) B.int (by decide +kernel) (pa_cons (pv 7) pa_nil)) pe_int) pe_int)))
      (pss_cons (ps_set (i := 13) sc_law.nd rfl (Or.inl rfl) (pe_op op_cat (pe_op op_cat (pv 11) (pv 8)) (pv 12)))
      (pss_cons (ps_set (i := 14) sc_law.nd rfl (Or.inl rfl) (pe_callTy call_list_of (by rfl) B.list (by decide +kernel) (pa_cons (pv 13) pa_nil)))
      (pss_cons (ps_set (i := 15) sc_law.nd rfl (Or.inl rfl) (pe_callC C_law_told (hr.mono (by omega)) (by rfl) (pa_cons (pe_callTy call_list_of (by rfl) B.list (by decide +kernel) (pa_cons (pv 2) pa_nil)) (pa_cons (pv 14) (pa_cons (pe_callB call_len_seq (by rfl) B.len PySem.boot_len (pa_cons (pv 11) pa_nil)) (pa_cons (pe_callB call_len_seq (by rfl) B.len PySem.boot_len (pa_cons (pv 6) pa_nil)) pa_nil))))))
      (pss_cons (ps_if (PW.pt (pw_or (pt_cmpR (op_neD hu64) (pv 15) (pe_tup (pa_cons (pv 6) (pa_cons (pe_op op_add (pe_callB call_len_seq (by rfl) B.len PySem.boot_len (pa_cons (pv 11) pa_nil)) (pe_callB call_len_seq (by rfl) B.len PySem.boot_len (pa_cons (pv 8) pa_nil))) pa_nil))) (nomark _)) (pw_or1 (pt_cmpR (op_neD hu64) (pv 14) (pv 13) (nomark _))))) (pss_one (ps_ret pe_bl)) pss_nil)
      (pss_cons (ps_set (i := 7) sc_law.nd rfl (Or.inr rfl) (pe_callC C_law_cell (hr.mono (by omega)) (by rfl) (pa_cons (pv 0) (pa_cons pe_int pa_nil))))
      (pss_cons (ps_setLc (i := 13) rfl sc_law.nd rfl rfl (sw_true rfl rfl rfl (by decide +kernel)) (pi_range1 (by rfl) B.range (pa_cons (pe_op op_mod (pv 7) pe_int) pa_nil)) (blkOk_by (own := [("k", 5)]) (N := ["script", "many", "lengths", "table", "present", "k", "message", "cell", "bits", "symbol", "given", "before", "behind", "whole", "handed", "found", "at", "count"]) (sc := defScope s_law) (by decide +kernel)) (fun _ _ _ _ _ => (pg_name (i := 5) sc_law.nd rfl (Or.inl rfl))) (fun _ _ _ _ _ => pts_nil) (fun _ _ _ _ _ => (pe_op op_mod (pe_op op_fdivW (pv 7) (pe_op op_shl pe_int (pv 5))) pe_int)))
      (pss_cons (ps_if (pt_cmpR op_eq (pe_op op_mod (pv 7) pe_int) pe_int (nomark _)) (pss_one (ps_set (i := 13) sc_law.nd rfl (Or.inl rfl) (pe_slice sl_list (pv 8) po_none (po_some (pe_op op_mod (pe_op op_fdiv (pv 7) pe_int) (pe_op op_add (pe_callB call_len_seq (by rfl) B.len PySem.boot_len (pa_cons (pv 8) pa_nil)) pe_int)))))) pss_nil)
      (pss_cons (ps_set (i := 16) sc_law.nd rfl (Or.inl rfl) (pe_callB (call_min2 rfl) (by rfl) B.min (by decide +kernel) (pa_cons (pe_callB call_len_seq (by rfl) B.len PySem.boot_len (pa_cons (pv 13) pa_nil)) (pa_cons (pe_op op_mod (pe_op op_fdiv (pv 7) pe_int) pe_int) pa_nil))))
      (pss_cons (ps_set (i := 17) sc_law.nd rfl (Or.inl rfl) (pe_op op_mod (pe_callC C_law_cell (hr.mono (by omega)) (by rfl) (pa_cons (pv 0) (pa_cons pe_int pa_nil))) pe_int))
      (pss_one (ps_ret (pe_cmpR (op_eqD hu64) (pe_callC C_law_told (hr.mono (by omega)) (by rfl) (pa_cons (pe_callTy call_list_of (by rfl) B.list (by decide +kernel) (pa_cons (pv 2) pa_nil)) (pa_cons (pe_callTy call_list_of (by rfl) B.list (by decide +kernel) (pa_cons (pv 13) pa_nil)) (pa_cons (pv 16) (pa_cons (pv 17) pa_nil))))) (pe_callC C_law_read (hr.mono (by omega)) (by rfl) (pa_cons (pv 3) (pa_cons (pv 13) (pa_cons (pv 16) (pa_cons (pv 17) pa_nil))))) (nomark _)))))))))))))))))))))))), ?_⟩
    obtain ⟨n, hn1, hn24, en⟩ : ∃ n : Nat, 1 ≤ n ∧ n ≤ 24 ∧ 1 + cellOf ns 0 % 24 = (n : Int) := ⟨(1 + cellOf ns 0 % 24).toNat, by omega, by omega, by omega⟩
    refine q_asg (v := .int (n : Int)) (ev_is (ev_add ev_c (ev_op (ev_call (ea2 (ev_var rfl) ev_c) (spv_cell (j := 0) hs rfl)) ev_c (rv_mod (by decide)))) (by rw [en])) fun H1 e1 => ?_
    have hs1 := ex_l e1 hs
    -- lengths, table
    refine ⟨_, rfl, _, rfl, a, ns, 1, n, rfl, hs1, by omega, fun pl H2 hpl e2 h2 => ⟨pl, lensL ns 1 n, rfl, sq_of h2, lensL_ok _ _ _, by rw [lensL_len]; omega, by rw [lensL_len]; omega, fun pq H3 fs hpq e3 h3 hfit => ?_⟩⟩
    obtain ⟨f1, f2, f3, f4⟩ := hfit
    rw [lensL_len] at f1
    have hf100 : fs.length ≤ 100 := by omega
    have e03 := (e1.trans e2).trans e3
    refine ⟨_, rfl, pq, fs, rfl, sq_of h3, f2, hf100, f3, fun o hord pt vt H4 hpt e4 h4 htf => ?_⟩
    have e04 := e03.trans e4
    have W := wds f2 hord f3
    have htl : (tabOf fs o).length = n := by rw [tab_len, f1]
    have hvl : vt.length = n := by rw [htf.1, htl]
    have hq4 : SqL K H4 pq (fs.map V.int) := sq_of (e4 pq _ h3)
    -- present
    have hpresF : ∀ k, k < n → (∃ w, (tabOf fs o)[k]? = some (some w)) ∨ (tabOf fs o)[k]? = some none := fun k hk => by
      rw [tab_at (by omega)]
      cases ent fs o k with
      | none => exact .inr rfl
      | some w => exact .inl ⟨w, rfl⟩
    obtain ⟨pres, hpresD⟩ : ∃ pres : List Nat, pres = (List.range n).filter fun k => ((tabOf fs o)[k]?).join.isSome := ⟨_, rfl⟩
    have hpm : ∀ k ∈ pres, ∃ w, (tabOf fs o)[k]? = some (some w) := fun k hk => by
      rw [hpresD] at hk
      obtain ⟨h1, h2⟩ := List.mem_filter.mp hk
      rcases hpresF k (List.mem_range.mp h1) with h | h
      · exact h
      · rw [h] at h2; cases h2
    have hpne : 0 < pres.length := by
      obtain ⟨x, hx, hx0⟩ := f4
      obtain ⟨kx, hkx⟩ := List.mem_iff_getElem?.mp hx
      have hkl : kx < fs.length := (List.getElem?_eq_some_iff.mp hkx).1
      have hln : lnA fs kx = x.toNat := by
        unfold lnA
        rw [List.getD_eq_getElem?_getD, hkx]
        rfl
      have hko := (hord.mem kx).mpr ⟨hkl, by omega⟩
      refine List.length_pos_of_mem (a := kx) ?_
      rw [hpresD]
      refine List.mem_filter.mpr ⟨List.mem_range.mpr (by omega), ?_⟩
      rw [tab_at hkl]
      unfold ent
      rw [if_pos hko]
      rfl
    have hpl24 : pres.length ≤ 24 := by
      rw [hpresD]
      have := List.length_filter_le (fun k => ((tabOf fs o)[k]?).join.isSome) (List.range n)
      rw [List.length_range] at this
      omega
    have hpg : nats pres = given ((n : Int)).toNat (fun k => ((tabOf fs o)[k]?).join.isSome) (fun k => V.int (k : Int)) := by
      unfold nats given
      rw [hpresD, List.map_map, Int.toNat_natCast]
      rfl
    refine g_name ?_
    dsimp only
    refine q_asgL (xs := nats pres) ?_ fun pp H5 hpp e5 h5 => ?_
    · rw [hpg]
      refine el_lcR1 _ _ (ea1 (ev_var rfl)) ⟨by omega, by omega⟩ (fun x => rfl) (fun i H9 e9 hi => ?_) (fun i H9 e9 hi _ => ev_var rfl)
      have hin : i < n := by omega
      have hv : vt[i]? = some vt[i] := List.getElem?_eq_getElem (by omega)
      refine et_is (et_test (ev_notN (ev_op (ev_var rfl) (ev_var rfl) (rv_ixL (sq_of (e9 pt _ h4)) (atI_nat hv))))) ?_
      have hent := htf.2 i _ _ hv (tab_at (by omega))
      rw [tab_at (by omega)]
      cases he : ent fs o i with
      | none =>
        rw [he] at hent
        have z : vt[i] = .non := hent
        rw [z]
        rfl
      | some bs =>
        rw [he] at hent
        obtain ⟨r, z, _⟩ := hent
        rw [z]
        rfl
    -- message
    obtain ⟨cs, hcs, hcl⟩ := cut_ints ns (some 25) (some 45)
    obtain ⟨msg, hmsgD⟩ : ∃ msg : List Nat, msg = cs.map fun c => pres.getD (c % (pres.length : Int)).toNat 0 := ⟨_, rfl⟩
    have hmlen : msg.length ≤ 63 := by rw [hmsgD, List.length_map]; omega
    have hPres : Pres (tabOf fs o) msg := fun k hk => by
      rw [hmsgD] at hk
      obtain ⟨c, _, rfl⟩ := List.mem_map.mp hk
      have h1 := Int.emod_nonneg c (show (pres.length : Int) ≠ 0 by omega)
      have h2 := Int.emod_lt_of_pos c (show 0 < (pres.length : Int) by omega)
      have h3 : (c % (pres.length : Int)).toNat < pres.length := by omega
      rw [List.getD_eq_getElem?_getD, List.getElem?_eq_getElem h3]
      exact hpm _ (List.getElem_mem h3)
    have e05 := e04.trans e5
    have hs5 := ex_l e05 hs
    have hmsgN : nats msg = (cs.map fun c => ((pres.getD (c % (pres.length : Int)).toNat 0 : Nat) : Int)).map V.int := by
      rw [hmsgD]
      simp only [nats, List.map_map]
      rfl
    refine q_asgL (xs := nats msg) ?_ fun pmsg H6 hpmsg e6 h6 => ?_
    · rw [hmsgN]
      refine el_lcS (K := K) (fun c => ((pres.getD (c % (pres.length : Int)).toNat 0 : Nat) : Int)) (by rw [← hcs]; exact el_sl (ev_var rfl) (eo_some ev_c) (eo_some ev_c) hs5) (by omega) (fun x => rfl) fun c H9 e9 => ?_
      have h1 := Int.emod_nonneg c (show (pres.length : Int) ≠ 0 by omega)
      have h2 := Int.emod_lt_of_pos c (show 0 < (pres.length : Int) by omega)
      have hnl : (nats pres).length = pres.length := by unfold nats; rw [List.length_map, List.length_map]
      refine ev_op (ev_var rfl) (ev_op (ev_intOf (ev_var rfl)) (ev_is (ev_len (K := K) (ev_var rfl) (sq_of (e9 pp _ h5))) (by rw [hnl])) (rv_mod (by omega))) (rv_ixL (sq_of (e9 pp _ h5)) ?_)
      refine at_of (j := (c % (pres.length : Int)).toNat) (by omega) ?_
      unfold nats
      have h3 : (c % (pres.length : Int)).toNat < pres.length := by omega
      rw [List.getElem?_map, List.getElem?_map, List.getElem?_eq_getElem h3, List.getD_eq_getElem?_getD, List.getElem?_eq_getElem h3]
      rfl
    have e46 := e5.trans e6
    have e06 := e05.trans e6
    have hlw : ∀ (k : Nat) w, (tabOf fs o)[k]? = some (some w) → w.length ≤ 20 := fun k w h => wd_len f2 h
    have hencl : (enc (tabOf fs o) msg).length ≤ 1300 := by have := enc_len hlw msg; omega
    -- bits
    refine q_asgL (el_lst ea_nil (by decide)) fun pb0 H7 hpb0 e7 h7 => ?_
    have hmsgL : (nats msg).length = msg.length := by unfold nats; rw [List.length_map, List.length_map]
    refine q_forL (ev_var rfl) (ex_l e7 (sq_of h6)) (fun i σ H' => ∃ (pb : Addr) (c : Option V), σ = [some (.ref a), some (.int (n : Int)), some (.ref pq), some (.ref pt), some (.ref pp), none, some (.ref pmsg), none, some (.ref pb), c, none, none, none, none, none, none, none, none] ∧ Ex H7 H' ∧ H' pb = some (.lst ((enc (tabOf fs o) (msg.take i)).map V.int)))
      (fun H8 e8 => ⟨pb0, none, rfl, e8, e8 pb0 _ h7⟩) (fun i σ H' _ hP => by
        obtain ⟨_, _, _, eh, _⟩ := hP
        exact ex_l (e7.trans eh) (sq_of h6)) ?_ ?_
    · rintro i x σ H' hi ⟨pb, c, rfl, eh, hl⟩
      have hil : i < msg.length := by
        have := (List.getElem?_eq_some_iff.mp hi).1
        omega
      have hmi : msg.getD i 0 = msg[i] := by rw [List.getD_eq_getElem?_getD, List.getElem?_eq_getElem hil] <;> rfl
      have htk : msg.take (i + 1) = msg.take i ++ [msg.getD i 0] := by rw [hmi]; exact (List.take_append_getElem hil).symm
      have hx : x = .int ((msg.getD i 0 : Nat) : Int) := by
        unfold nats at hi
        rw [List.getElem?_map, List.getElem?_map, List.getElem?_eq_getElem hil] at hi
        rw [hmi]
        exact (Option.some.inj hi).symm
      subst hx
      obtain ⟨w1, hw1⟩ := hPres _ (List.getElem_mem hil)
      rw [← hmi] at hw1
      generalize msg.getD i 0 = k1 at *
      have hkl : k1 < n := by have := (List.getElem?_eq_some_iff.mp hw1).1; omega
      have hvt : vt[k1]? = some vt[k1] := List.getElem?_eq_getElem (by omega)
      have e4H := (e46.trans e7).trans eh
      obtain ⟨r, hr1, _, _, hrl⟩ := (htf.ext e4H).2 k1 _ _ hvt hw1
      rw [hr1] at hvt
      have hel := enc_len hlw (msg.take i)
      have htl2 : (msg.take i).length ≤ 63 := by rw [List.length_take]; omega
      have hb20 := hlw _ _ hw1
      refine s_asgL (el_cat2 (ev_var rfl) hl (ev_op (ev_var rfl) (ev_var rfl) (rv_ixL (sq_of (e4H pt _ h4)) (atI_nat hvt))) hrl (by rw [List.length_map, List.length_map]; omega)) fun pb2 H8 hpb2 e8 h8 => ?_
      refine ⟨pb2, _, rfl, eh.trans e8, ?_⟩
      rw [h8, htk, enc_snoc, wOf_is hw1, List.map_append]
    · rintro σ H8 ⟨pb, c, rfl, e8, hpb⟩
      rw [hmsgL, List.take_length] at hpb
      have e48 := (e46.trans e7).trans e8
      have e08 := e04.trans e48
      have hq8 := ex_l e48 hq4
      have hm8 : SqL K H8 pmsg (nats msg) := sq_of ((e7.trans e8) pmsg _ h6)
      have hs8 := ex_l e08 hs
      have hmI : nats msg = (msg.map fun (k : Nat) => (k : Int)).map V.int := rfl
      generalize hbl : enc (tabOf fs o) msg = bl at *
      have hblB : Bit bl := by rw [← hbl]; exact enc_bit W msg
      -- given
      refine q_asgL (el_listOf (ev_var rfl) hm8) fun pg H9 hpg e9 h9 => ?_
      have hq9 := ex_l e9 hq8
      have hm9 := ex_l e9 hm8
      have hb9 : SqL K H9 pb (bl.map V.int) := sq_of (e9 pb _ hpb)
      have e09 := e08.trans e9
      refine q_when (b := false) (et_orF (et_is (et_test (ev_neD (d := .list (bl.map PyData.int)) (d2 := .list (bl.map PyData.int)) (ed_listI (el_call2L (el_listOf (ev_var rfl) hq9) (ev_var rfl) fun p H10 e10 h10 => fun H11 e11 Q q E => ⟨p, pg, fs, o, msg, rfl, sq_of (e11 p _ h10), f2, hf100, f3, (e09.trans (e10.trans e11)) P0 _ t0, hord, ex_l (e10.trans e11) (sq_of h9), hPres, by omega, fun r H12 hr e12 h12 => q r H12 hr e12 (by rw [h12, hbl])⟩)) (ed_at (ev_var rfl) (dp_listI hb9)) (shaped_ints _) (shaped_ints _))) (by rw [eqv_ints]; rfl))
        (et_is (et_test (ev_neD (d := natsD msg) (d2 := natsD msg) (ed_at (ev_var rfl) (dp_listI (sq_of h9))) (ed_at (ev_var rfl) (dp_listI hm9)) (shaped_ints _) (shaped_ints _))) (by unfold natsD; rw [eqv_ints]; rfl))) (fun z => by cases z) fun _ H10 e10 => ?_
      have e010 := e09.trans e10
      have hs10 := ex_l e010 hs
      -- before, behind
      obtain ⟨c1, hc1, hc1l⟩ := cut_ints ns (some 45) (some 49)
      refine q_asgL (el_lcS (K := K) (fun c => c % 2) (by rw [← hc1]; exact el_sl (ev_var rfl) (eo_some ev_c) (eo_some ev_c) hs10) (by omega) (fun x => rfl) fun c H11 e11 => ev_op (ev_intOf (ev_var rfl)) ev_c (rv_mod (by decide))) fun pbf H11 hpbf e11 h11 => ?_
      have hs11 := ex_l e11 hs10
      obtain ⟨c2, hc2, hc2l⟩ := cut_ints ns (some 45) (some 52)
      refine q_asgL (el_lcS (K := K) (fun c => c / 2 % 2) (by rw [← hc2]; exact el_sl (ev_var rfl) (eo_some ev_c) (eo_some ev_c) hs11) (by omega) (fun x => rfl) fun c H12 e12 => ev_op (ev_op (ev_intOf (ev_var rfl)) ev_c (rv_div (by decide) (by decide))) ev_c (rv_mod (by decide))) fun pbh H12 hpbh e12 h12 => ?_
      obtain ⟨bf, hbf⟩ : ∃ bf, bf = c1.map fun c => c % 2 := ⟨_, rfl⟩
      obtain ⟨bh, hbh⟩ : ∃ bh, bh = c2.map fun c => c / 2 % 2 := ⟨_, rfl⟩
      rw [← hbf] at h11
      rw [← hbh] at h12
      have hbfB : Bit bf := fun b hb => by
        rw [hbf] at hb
        obtain ⟨c, _, rfl⟩ := List.mem_map.mp hb
        omega
      have hbhB : Bit bh := fun b hb => by
        rw [hbh] at hb
        obtain ⟨c, _, rfl⟩ := List.mem_map.mp hb
        omega
      have hbfl : bf.length ≤ 63 := by rw [hbf, List.length_map]; omega
      have hbhl : bh.length ≤ 63 := by rw [hbh, List.length_map]; omega
      have e912 := (e10.trans e11).trans e12
      have hb12 := (e9.trans e912) pb _ hpb
      have hf12 := e12 pbf _ h11
      -- whole, handed
      refine q_asgL (el_cat (el_cat2 (ev_var rfl) hf12 (ev_var rfl) hb12 (by rw [List.length_map, List.length_map]; omega)) (ev_var rfl) h12 (by rw [List.length_append, List.length_map, List.length_map, List.length_map]; omega)) fun pw H13 hpw e13 h13 => ?_
      rw [← List.map_append, ← List.map_append] at h13
      refine q_asgL (el_listOf (ev_var rfl) (sq_of h13)) fun ph H14 hph e14 h14 => ?_
      have e914 := (e912.trans e13).trans e14
      have e014 := e09.trans e914
      have hq14 := ex_l e914 hq9
      have hm14 := ex_l e914 hm9
      have hb14 : SqL K H14 pb (bl.map V.int) := ex_l e914 hb9
      have hf14 : SqL K H14 pbf (bf.map V.int) := sq_of ((e13.trans e14) pbf _ hf12)
      have hwB : Bit (bf ++ bl ++ bh) := fun b hb => by
        rcases List.mem_append.mp hb with h | h
        · rcases List.mem_append.mp h with h | h
          · exact hbfB b h
          · exact hblB b h
        · exact hbhB b h
      have hrN : readN (tabOf fs o) (bf ++ bl ++ bh) msg.length bf.length [] = .ok msg (bf.length + bl.length) := by
        have h := readN_enc W (pre := bf) (post := bh) msg [] hPres
        have e0 : enc (tabOf fs o) [] = [] := rfl
        rw [e0, hbl, List.append_nil] at h
        simpa using h
      -- found
      have hlw14 : (bf ++ bl ++ bh).length ≤ 1500 := by
        rw [List.length_append, List.length_append]
        omega
      have hpl0 : (bf.length : Int) = ((bf.length : Nat) : Int) := rfl
      have hcl0 : ((nats msg).length : Int) = ((msg.length : Nat) : Int) := by rw [hmsgL]
      have eF : resD (bf ++ bl ++ bh).length (readN (tabOf fs o) (bf ++ bl ++ bh) msg.length bf.length []) = .tuple [natsD msg, .int ((bf.length + bl.length : Nat) : Int)] := by
        rw [hrN]
        rfl
      refine q_asgD (d := .tuple [natsD msg, .int ((bf.length + bl.length : Nat) : Int)]) (by
        rw [← eF]
        exact ed_call4L (el_listOf (ev_var rfl) hq14) (ev_var rfl) (ev_len (K := K) (ev_var rfl) hf14) (ev_len (K := K) (ev_var rfl) hm14) fun p H15 e15 h15 => sp_told (by rw [List.length_map]) hcl0 (sq_of h15) f2 hf100 f3 ((e014.trans e15) P0 _ t0) hord (sq_of (e15 ph _ h14)) hwB (by omega) (by rw [List.length_append, List.length_append]; omega) (by omega)) fun vF H15 e15 dF => ?_
      have hw15 : SqL K H15 pw ((bf ++ bl ++ bh).map V.int) := sq_of ((e14.trans e15) pw _ h13)
      have hh15 : SqL K H15 ph ((bf ++ bl ++ bh).map V.int) := sq_of (e15 ph _ h14)
      have hm15 := ex_l e15 hm14
      have hf15 := ex_l e15 hf14
      have hb15 := ex_l e15 hb14
      have shF : SeqAt.shaped (.tuple [natsD msg, .int ((bf.length + bl.length : Nat) : Int)]) = true := by
        have h := resD_shaped (bf ++ bl ++ bh).length (.ok msg (bf.length + bl.length))
        exact h
      have eqF : PyData.eqv (.tuple [natsD msg, .int ((bf.length + bl.length : Nat) : Int)]) (.tuple [natsD msg, .int ((bf.length + bl.length : Nat) : Int)]) = true := resD_eqv (bf ++ bl ++ bh).length (.ok msg (bf.length + bl.length))
      have hsum : (((bf.map V.int).length : Int) + ((bl.map V.int).length : Int)) = ((bf.length + bl.length : Nat) : Int) := by
        rw [List.length_map, List.length_map]
        omega
      refine q_when (b := false) (et_orF (et_is (et_test (ev_neD (ed_at (ev_var rfl) dF) (ed_tup (eda_cons (ed_at (ev_var rfl) (dp_listI hm15)) (eda_cons (ed_int (ev_is (ev_add (ev_len (K := K) (ev_var rfl) hf15) (ev_len (K := K) (ev_var rfl) hb15)) (by rw [hsum]))) eda_nil)) (by show 2 ≤ 100000; decide)) shF shF)) (by rw [show (PyData.tuple [PyData.list ((msg.map fun (k : Nat) => (k : Int)).map PyData.int), .int ((bf.length + bl.length : Nat) : Int)]) = .tuple [natsD msg, .int ((bf.length + bl.length : Nat) : Int)] from rfl, eqF]; rfl))
        (et_is (et_test (ev_neD (d := .list ((bf ++ bl ++ bh).map PyData.int)) (d2 := .list ((bf ++ bl ++ bh).map PyData.int)) (ed_at (ev_var rfl) (dp_listI hh15)) (ed_at (ev_var rfl) (dp_listI hw15)) (shaped_ints _) (shaped_ints _))) (by rw [eqv_ints]; rfl))) (fun z => by cases z) fun _ H16 e16 => ?_
      have e016 := (e014.trans e15).trans e16
      have hs16 := ex_l e016 hs
      -- cell, whole, at, count
      refine q_asg (v := .int (cellOf ns 52)) (ev_call (ea2 (ev_var rfl) ev_c) (spv_cell (j := 52) hs16 rfl)) fun H17 e17 => ?_
      generalize cellOf ns 52 = c
      obtain ⟨z, ez, hz⟩ : ∃ z : Nat, c % 50 = (z : Int) ∧ z ≤ 49 := ⟨(c % 50).toNat, by omega, by omega⟩
      obtain ⟨us0, hus0⟩ : ∃ us0 : List Int, us0 = (List.range z).map fun (j : Nat) => c / (1 * 2 ^ j) % 2 := ⟨_, rfl⟩
      have hb17 : SqL K H17 pb (bl.map V.int) := ex_l (e16.trans e17) hb15
      refine q_asgL (xs := us0.map V.int) ?_ fun pu H18 hpu e18 h18 => ?_
      · have hg : us0.map V.int = given ((z : Int)).toNat (fun _ => true) (fun j => V.int (c / (1 * 2 ^ j) % 2)) := by
          unfold given
          rw [List.filter_eq_self.mpr fun _ _ => rfl, hus0, List.map_map, Int.toNat_natCast]
          rfl
        rw [hg]
        refine el_lcR1 _ _ (ea1 (ev_is (ev_op (ev_var (v := .int c) rfl) ev_c (rv_mod (by decide))) (by rw [ez]))) ⟨by omega, by omega⟩ (fun x => rfl) (fun i H9 e9 hi => et_yes) (fun j H9 e9 hj _ => ?_)
        have hpp : ∀ y : Fin 50, (0 : Int) < 1 * 2 ^ y.val ∧ ((1 : Int) * 2 ^ y.val).natAbs.log2 < 9000 := by decide +kernel
        have hpj := hpp ⟨j, by omega⟩
        exact ev_op (ev_op (ev_var (v := .int c) rfl) (ev_op ev_c (ev_var (v := .int (j : Int)) rfl) (rv_shl ⟨by omega, by omega, by decide⟩)) (rv_I ⟨hpj.1, hpj.2⟩)) ev_c (rv_mod (by decide))
      have hus0B : Bit us0 := fun b hb => by
        rw [hus0] at hb
        obtain ⟨j, _, rfl⟩ := List.mem_map.mp hb
        omega
      have hus0l : us0.length ≤ 49 := by rw [hus0, List.length_map, List.length_range]; exact hz
      obtain ⟨m2, em2⟩ : ∃ m2 : Nat, c / 50 % (((bl.map V.int).length : Int) + 1) = (m2 : Int) := ⟨(c / 50 % (((bl.map V.int).length : Int) + 1)).toNat, by
        have := Int.emod_nonneg (c / 50) (show (((bl.map V.int).length : Int) + 1) ≠ 0 by omega)
        omega⟩
      refine q_ifL (b := decide (c % 2 = 1)) (xs := us0.map V.int) (ys := (bl.take m2).map V.int) (a := pu) (et_is (et_test (ev_eq (ev_op (ev_var (v := .int c) rfl) (ev_c (v := .int 2)) (rv_mod (by decide))) (ev_c (v := .int 1)))) rfl) rfl h18 (fun _ => ?_) fun pz zs H19 e19 h19 hzs => ?_
      · rw [List.map_take, ← cutV_to]
        refine el_sl (ev_var rfl) eo_none (eo_some (ev_is (ev_op (ev_op (ev_var (v := .int c) rfl) ev_c (rv_div (by decide) (by decide))) (ev_add (ev_len (K := K) (ev_var rfl) (ex_l e18 hb17)) ev_c) (rv_mod (by omega))) (by rw [em2]))) (ex_l e18 hb17)
      obtain ⟨us, rfl, husB, husl⟩ : ∃ us : List Int, zs = us.map V.int ∧ Bit us ∧ us.length ≤ 1300 := by
        rcases hzs with rfl | rfl
        · exact ⟨_, rfl, fun b hb => hblB b (List.mem_of_mem_take hb), by rw [List.length_take]; omega⟩
        · exact ⟨_, rfl, hus0B, by omega⟩
      have e019 := ((e016.trans e17).trans e18).trans e19
      obtain ⟨at_, eat, hat⟩ : ∃ at_ : Nat, (if c / 3 % 3 < ((us.map V.int).length : Int) then c / 3 % 3 else ((us.map V.int).length : Int)) = (at_ : Int) ∧ at_ ≤ us.length := by
        rw [List.length_map]
        split
        · exact ⟨(c / 3 % 3).toNat, by omega, by omega⟩
        · exact ⟨us.length, rfl, Nat.le_refl _⟩
      refine q_asg (v := .int (at_ : Int)) (ev_is (ev_min (ev_len (K := K) (ev_var rfl) (sq_of h19)) (ev_op (ev_op (ev_var (v := .int c) rfl) ev_c (rv_div (by decide) (by decide))) ev_c (rv_mod (by decide)))) (by rw [eat])) fun H20 e20 => ?_
      have hs20 := ex_l (e019.trans e20) hs
      obtain ⟨ct, ect, hct⟩ : ∃ ct : Nat, cellOf ns 53 % 12 = (ct : Int) ∧ ct ≤ 11 := ⟨(cellOf ns 53 % 12).toNat, by omega, by omega⟩
      refine q_asg (v := .int (ct : Int)) (ev_is (ev_op (ev_call (ea2 (ev_var rfl) ev_c) (spv_cell (j := 53) hs20 rfl)) ev_c (rv_mod (by decide))) (by rw [ect])) fun H21 e21 => ?_
      have e021 := (e019.trans e20).trans e21
      have e1921 := e20.trans e21
      have hq21 : SqL K H21 pq (fs.map V.int) := ex_l (((e15.trans e16).trans (e17.trans e18)).trans (e19.trans e1921)) hq14
      have h21 : SqL K H21 pz (us.map V.int) := sq_of (e1921 pz _ h19)
      have e421 : Ex H4 H21 := ((e48.trans e9).trans e914).trans (((e15.trans e16).trans (e17.trans e18)).trans (e19.trans e1921))
      refine s_ret (ev_is (ev_eqD (K := K) (ed_call4LL (el_listOf (ev_var rfl) hq21) (el_listOf (ev_var rfl) h21) (ev_var rfl) (ev_var rfl) fun p r H22 e22 hp hr => sp_told rfl rfl (sq_of hp) f2 hf100 f3 ((e021.trans e22) P0 _ t0) hord (sq_of hr) husB (by omega) hat (by omega))
        (ed_call (ea_cons (ev_var (v := .ref pt) rfl) (ea3 (ev_var (v := .ref pz) rfl) (ev_var rfl) (ev_var rfl))) fun H22 e22 Q q E => ⟨pt, pz, pt, H3, vt, tabOf fs o, us, at_, ct, rfl, (e421.trans e22) pt _ h4, htf.ext (e421.trans e22), W, by omega, ex_l e22 h21, by omega, hat, by omega, q⟩) (resD_shaped _ _) (resD_shaped _ _)) (by rw [resD_eqv])) fun H22 e22 => q H22 (e021.trans e22)
end
end K02
set_option Elab.async false
set_option linter.all false
set_option maxRecDepth 100000
set_option maxHeartbeats 4000000
/-! The end of a law: the head's heap, the script, tables of code objects followed as TabX. -/
namespace KC
open PySem PySem.Spec PyProof.Rows L2 GX Evl
def tabO : Obj := { cls := .none, data := .fields #[] }
/-- tables that stand empty in h, out of the frozen part, of known code objects -/
structure Tbs (K : PySem.W.Frag) (h : Heap) (cs : List (Addr × Addr)) : Prop where
  emp : ∀ p ∈ cs, h.get? p.2 = some tabO
  out : ∀ p ∈ cs, K.lookup p.2 = none
  cod : ∀ p ∈ cs, PySem.W.CodeHd h p.1 p.2
structure Hd0 (K : PySem.W.Frag) (mg mb : Str → Option Value) (s : Shared) : Prop where
  kin : K.In s.heap
  glo : s.heap.Ns mainGlobals mg
  blt : s.heap.Ns builtinsNs mb
  boo : ∀ y : Str, y ≠ "__name__" → mb y = bootBuiltins y
  lim : s.heap.NoLimit
  gen : s.gens = #[]
  bmo : ∃ (bm : Addr) (o : Obj), mg "__builtins__" = some (.ref bm) ∧ bm ≠ builtinsNs ∧ s.heap.get? bm = some o ∧ o.cls = .type "module" ∧ o.dict = some builtinsNs ∧ o.data = .plain
/-- the start: the tables, and the script where it is not frozen -/
def H0 (cs : List (Addr × Addr)) (a : Addr) (u : Option HO) : Hp := fun b => if b ∈ cs.map Prod.snd then some (TabX b) else if b = a then u else none
theorem h0_tab {cs : List (Addr × Addr)} {a b : Addr} {u : Option HO} (m : b ∈ cs.map Prod.snd) : H0 cs a u b = some (TabX b) := if_pos m
theorem h0_a {cs : List (Addr × Addr)} {a : Addr} {u : Option HO} (m : a ∉ cs.map Prod.snd) : H0 cs a u a = u := (if_neg m).trans (if_pos rfl)
theorem h0_no {cs : List (Addr × Addr)} {a b : Addr} {u : Option HO} (m : b ∉ cs.map Prod.snd) (n : b ≠ a) : H0 cs a u b = none := (if_neg m).trans (if_neg n)
section
variable {P : Program} {w : World} {K : PySem.W.Frag} {mg mb : Str → Option Value} {CX : CXT} {s : Shared} {cs : List (Addr × Addr)} {a : Addr} {u : Option HO} {vs : List Value}
theorem Tbs.at_ {h : Heap} (T : Tbs K h cs) {b : Addr} (m : b ∈ cs.map Prod.snd) : h.get? b = some tabO := by
  obtain ⟨p, hp, rfl⟩ := List.mem_map.mp m
  exact T.emp p hp
/-- an object that is neither a list nor a table is not followed -/
theorem h0_free (T : Tbs K s.heap cs) (ha : s.heap.get? a = some { cls := .type "list", data := .seq vs.toArray }) {b : Addr} {o : Obj} (e : s.heap.get? b = some o) (d1 : ∀ xs k, o.data ≠ .seq xs k) (d2 : o.data ≠ .fields #[]) : H0 cs a u b = none := by
  refine h0_no (fun m => ?_) fun z => ?_
  · have q := T.at_ m
    rw [e] at q
    exact d2 (by rw [Option.some.inj q] <;> rfl)
  · subst z
    rw [e] at ha
    exact d1 _ _ (congrArg Obj.data (Option.some.inj ha))
theorem dict_free {o : Obj} {es : Array DictEntry} {ep : Nat} (d : o.data = .dict es ep) : (∀ xs k, o.data ≠ .seq xs k) ∧ o.data ≠ .fields #[] := by
  rw [d]
  exact ⟨fun _ _ z => (nomatch z), fun z => (nomatch z)⟩
theorem plain_free {o : Obj} (d : o.data = .plain) : (∀ xs k, o.data ≠ .seq xs k) ∧ o.data ≠ .fields #[] := by
  rw [d]
  exact ⟨fun _ _ z => (nomatch z), fun z => (nomatch z)⟩
/-- the ground under the law's def -/
structure Grd (P : Program) (w : World) (K : PySem.W.Frag) (mg : Str → Option Value) (cs : List (Addr × Addr)) (H : Hp) (s : Shared) : Prop where
  env : Env0 P w K mg (hidT s.heap H) callerA [] s H
  kin : K.In (hidT s.heap H)
  glo : (hidT s.heap H).Ns mainGlobals mg
  tab : ∀ p ∈ cs, GxR.TabB (hidT s.heap H) mg p.1 p.2
theorem grd_of (D : Hd0 K mg mb s) (T : Tbs K s.heap cs) (ha : s.heap.get? a = some { cls := .type "list", data := .seq vs.toArray }) (hu : u ≠ none → K.lookup a = none) (ok : HOk P w (H0 cs a u) s.heap) : Grd P w K mg cs (H0 cs a u) s := by
  have down : ∀ {b : Addr} {o : Obj}, s.heap.get? b = some o → (∀ xs k, o.data ≠ .seq xs k) ∧ o.data ≠ .fields #[] → (hidT s.heap (H0 cs a u)).get? b = some o := fun e d => hidT_get e (h0_free T ha e d.1 d.2)
  have ns : ∀ {b : Addr} {m : Str → Option Value}, s.heap.Ns b m → (hidT s.heap (H0 cs a u)).Ns b m := fun x => by
    obtain ⟨o, es, ep, e, d, r⟩ := x
    exact ⟨o, es, ep, down e (dict_free d), d, r⟩
  have kin : K.In (hidT s.heap (H0 cs a u)) := fun b o e => by
    refine hidT_get (D.kin b o e) ?_
    by_cases m : b ∈ cs.map Prod.snd
    · obtain ⟨p, hp, rfl⟩ := List.mem_map.mp m
      rw [T.out p hp] at e
      cases e
    · by_cases z : b = a
      · subst z
        rw [h0_a m]
        cases hu1 : u with
        | none => rfl
        | some v =>
          rw [hu (by rw [hu1]; exact Option.some_ne_none v)] at e
          cases e
      · exact h0_no m z
  refine ⟨⟨rfl, ⟨kin, ns D.glo, ⟨mb, ns D.blt, D.boo⟩, ?_⟩, fun b o e => of_hidT e, Nat.le_of_eq (hidT_size _ _), trivial, fun b hb => absurd (show b ∈ ([] : List Addr) from hb) List.not_mem_nil, ok, .of_eq D.gen⟩, kin, ns D.glo, fun p hp => ⟨?_, ?_, fun z => ?_⟩⟩
  · obtain ⟨mc, n1, n2⟩ := D.lim
    exact ⟨mc, ns n1, n2⟩
  · obtain ⟨o, us, f1, f2, f3, f4, f5, f6, f7, e, c1, c2, c3, rest⟩ := T.cod p hp
    refine ⟨o, us, f1, f2, f3, f4, f5, f6, f7, down e ?_, c1, c2, c3, rest⟩
    rw [c2]
    refine ⟨fun _ _ z => (nomatch z), fun z => ?_⟩
    have z' : us = #[] := by injection z
    rw [z'] at c3
    simp at c3
  · obtain ⟨bm, o, b1, b2, b3, b4, b5, b6⟩ := D.bmo
    have g1 : bm ≠ mainGlobals := fun z => by
      obtain ⟨og, es, ep, e, d, _⟩ := D.glo
      rw [← z, b3] at e
      rw [← Option.some.inj e, b6] at d
      cases d
    have g2 : bm ≠ p.2 := fun z => by
      have q := T.emp p hp
      rw [← z, b3] at q
      rw [Option.some.inj q] at b6
      cases b6
    exact ⟨bm, o, b1, b2, g1, g2, down b3 (plain_free b6), b4, b5, b6⟩
  · obtain ⟨og, es, ep, e, d, _⟩ := D.glo
    have q := T.emp p hp
    rw [← z, e] at q
    rw [Option.some.inj q] at d
    cases d
/-- the law is called with its script -/
theorem law_callX {k : Nat} {fa : Addr} {fd : FuncData} {x : Str} {sp : Sp} {ns : List Int} (D : Hd0 K mg mb s) (T : Tbs K s.heap cs) (ha : s.heap.get? a = some { cls := .type "list", data := .seq vs.toArray }) (hi : IntsAre vs ns) (hl : ns.length ≤ sizeLine) (hr : Room k callerA)
    (ok : ∀ base : Heap, K.In base → base.Ns mainGlobals mg → (∀ p ∈ cs, GxR.TabB base mg p.1 p.2) → FnOk P w K mg base CX k fa fd [x] sp) (bd : ∀ (s : Shared) (v : Value), BindsTo s fd ⟨[v], []⟩ [(x, v)])
    (hsp : ∀ H : Hp, (∀ p ∈ cs, H p.2 = some (TabX p.2)) → SqL K H a (ns.map V.int) → sp [.ref a] H (fun v H' => v = .bl true ∧ ∀ p ∈ cs, H' p.2 = some (TabX p.2)) fun _ _ _ => False)
    (hx : ∀ H e s', CX [] H s (fun _ _ _ => False) e s' → False) :
    codeAny (model P w) callerA (.call (.ref fa) ⟨[.ref a], []⟩) (fun r s' => r = .ok (.ret (.bool true)) ∧ OldK s.heap s'.heap ∧ s'.os = s.os ∧ AllBare s'.gens) s := by
  have rv := vals_ints hi
  have anot : a ∉ cs.map Prod.snd := fun m => by
    have q := T.at_ m
    rw [ha] at q
    have q2 := congrArg Obj.data (Option.some.inj q)
    cases q2
  have tabs : ∀ {u : Option HO}, ∀ p ∈ cs, H0 cs a u p.2 = some (TabX p.2) := fun p hp => h0_tab (List.mem_map.mpr ⟨p, hp, rfl⟩)
  -- whatever is followed of the script
  have go : ∀ u : Option HO, (u = none ∨ u = some (.frz { cls := .type "list", data := .seq vs.toArray } (.lst (ns.map V.int)))) → (u ≠ none → K.lookup a = none) → SqL K (H0 cs a u) a (ns.map V.int) →
      codeAny (model P w) callerA (.call (.ref fa) ⟨[.ref a], []⟩) (fun r s' => r = .ok (.ret (.bool true)) ∧ OldK s.heap s'.heap ∧ s'.os = s.os ∧ AllBare s'.gens) s := fun u hu hk hs => by
    have hok : HOk P w (H0 cs a u) s.heap := fun b o e => by
      by_cases m : b ∈ cs.map Prod.snd
      · rw [h0_tab m] at e
        cases e
        exact tabx_ok (T.at_ m) (show TriplesOk [] from trivial)
      · by_cases z : b = a
        · subst z
          rw [h0_a m] at e
          rcases hu with rfl | rfl
          · cases e
          · cases e
            exact ⟨ha, by rw [List.length_map]; exact hl, vs, 0, rv, ha⟩
        · rw [h0_no m z] at e
          cases e
    have G := grd_of (u := u) D T ha hk hok
    refine codeAny_mono ((ok _ G.kin G.glo G.tab).run callerA [] s _ ⟨[.ref a], []⟩ [.ref a] [.ref a] _ _ hr G.env (bd s (.ref a)) (.cons rfl .nil) (hsp _ tabs hs)) fun r s' h => ?_
    match r, h with
    | .error e, h => exact (hx _ e s' h).elim
    | .ok .next, h => exact False.elim h
    | .ok .brk, h => exact False.elim h
    | .ok .cont, h => exact False.elim h
    | .ok (.ret v0), h =>
      obtain ⟨v, H', os, bare, un, hok', r', q, qt⟩ := h
      subst q
      obtain rfl : v0 = Value.bool true := r'
      have same : ∀ b o, b ∉ cs.map Prod.snd → s.heap.get? b = some o → s'.heap.get? b = some o := fun b o m e => by
        by_cases z : b = a
        · subst z
          rcases hu with rfl | rfl
          · exact un.keep b o e (h0_a m) List.not_mem_nil List.not_mem_nil
          · have f2 := hok' b _ (un.frzs b _ _ (h0_a m))
            rw [ha] at e
            rw [← Option.some.inj e]
            exact f2.1
        · exact un.keep b o e (h0_no m z) List.not_mem_nil List.not_mem_nil
      have grew : ∀ p ∈ cs, ∃ more : Array Value, s'.heap.get? p.2 = some { cls := .none, data := .fields more } := fun p hp => by
        obtain ⟨⟨more, e, _⟩, _⟩ := hok' p.2 _ (qt p hp)
        exact ⟨more, e⟩
      refine ⟨rfl, ⟨fun b o e => ?_, fun b o e => ?_⟩, os, bare⟩
      · by_cases m : b ∈ cs.map Prod.snd
        · obtain ⟨p, hp, rfl⟩ := List.mem_map.mp m
          obtain ⟨more, g⟩ := grew p hp
          have eo : o = tabO := Option.some.inj (e.symm.trans (T.emp p hp))
          subst eo
          exact .inr (.inl ⟨((T.cod p hp).tab (ps := #[]) (T.emp p hp)).isCodeTable, rfl, #[], more, rfl, by rw [Array.empty_append]; exact g⟩)
        · exact .inl (same b o m e)
      · by_cases m : b ∈ cs.map Prod.snd
        · obtain ⟨p, hp, rfl⟩ := List.mem_map.mp m
          obtain ⟨more, g⟩ := grew p hp
          exact ⟨_, g⟩
        · exact ⟨o, same b o m e⟩
  cases hk : K.lookup a with
  | none => exact go _ (.inr rfl) (fun _ => hk) (.inl (.inr ⟨_, h0_a anot⟩))
  | some o =>
    have e := (D.kin a o hk).symm.trans ha
    have eo := Option.some.inj e
    subst eo
    exact go none (.inl rfl) (fun z => absurd rfl z) (.inr ⟨_, vs.toArray, _, hk, rfl, rfl, rfl, by rw [List.size_toArray, hi.length]; exact hl, by simpa using rv⟩)
end
/-- what the head's defs have: their code objects, with empty tables -/
def Rec0 (q : Program) (mg : Str → Option Value) (h : Heap) : Prop := ∀ d ∈ recsOf q, ∃ a o fd c P, mg d.name = some (.ref a) ∧ h.get? a = some o ∧ o.data = .func fd ∧ fd.code = .ref c ∧ h.IsCode c P #[] ∧ h.TableAt c P #[]
theorem tab_emp {q : Program} {mg : Str → Option Value} {h : Heap} {K : PySem.W.Frag} (R : Rec0 q mg h) (X : K.In h) {nm : Str} {f c Pt : Addr} {fd : FuncData} {e : Value} {dd : Option Addr} {sl : Array (Option Value)}
    (hrec : ((recsOf q).any fun e => e.name == nm) = true) (hm : mg nm = some (.ref f)) (hk : K.lookup f = some ⟨e, dd, .func fd, sl⟩) (hc : fd.code = .ref c) (C : PySem.W.CodeHd h c Pt) : h.get? Pt = some tabO := by
  obtain ⟨d, hd, hn⟩ := List.any_eq_true.mp hrec
  obtain ⟨f1, o1, fd1, c1, P1, e1, e2, e3, e4, _, ⟨⟨oc, vc, g1, _, g3, g4⟩, g5⟩⟩ := R d hd
  rw [beq_iff_eq.mp hn, hm] at e1
  have ef : f = f1 := Value.ref.inj (Option.some.inj e1)
  subst ef
  rw [X f _ hk] at e2
  have eo := Option.some.inj e2
  subst eo
  have efd : fd = fd1 := by injection e3
  subst efd
  rw [hc] at e4
  have ec : c = c1 := Value.ref.inj e4
  subst ec
  obtain ⟨o2, us, _, _, _, _, _, _, _, k1, _, k2, k3, _⟩ := C
  rw [k1] at g1
  have eo2 := Option.some.inj g1
  subst eo2
  rw [k2] at g3
  have eu : us = vc := by injection g3
  subst eu
  rw [k3] at g4
  have eP : Pt = P1 := Value.ref.inj (Option.some.inj g4)
  subst eP
  exact g5
def LawX (l : PySem.W.OpenLaw) (w : World) (K : PySem.W.Frag) (CX : CXT) (k n : Nat) (x : Str) (mg : Str → Option Value) (fa : Addr) (h : Heap) : Prop :=
  ∃ (fd : FuncData) (cs : List (Addr × Addr)) (sp : Sp), Tbs K h cs ∧ (∀ (s : Shared) (v : Value), BindsTo s fd ⟨[v], []⟩ [(x, v)]) ∧
    (∀ (H : Hp) (a : Addr) (ns : List Int), ns.length ≤ n → (∀ z ∈ ns, Builtin.Int.intBits z ≤ 1048576) → (∀ p ∈ cs, H p.2 = some (TabX p.2)) → SqL K H a (ns.map V.int) → sp [.ref a] H (fun v H' => v = .bl true ∧ ∀ p ∈ cs, H' p.2 = some (TabX p.2)) fun _ _ _ => False) ∧
    ∀ base : Heap, K.In base → base.Ns mainGlobals mg → (∀ p ∈ cs, GxR.TabB base mg p.1 p.2) → FnOk l.prog w K mg base CX k fa fd [x] sp
theorem walk_X {l : PySem.W.OpenLaw} {n k : Nat} {q : Program} {loose : List Str} {XP : (Str → Option Value) → Heap → Prop} {YP : World → Heap → Prop} {d : DefRec} {Kf : Params → PySem.W.Frag} {CX : World → CXT} {x : Str}
    (h1 : l.most = some n) (h2 : n ≤ sizeLine) (h3 : d.params.defaults = []) (h4 : Room k callerA) (h5 : ∀ (w : World) (h : Heap), YP w h → (Kf w.params).In h)
    (F : ∀ (w : World) (mg : Str → Option Value) (fa : Addr) (h : Heap), YP w h → (Kf w.params).In h → h.Ns mainGlobals mg → mg d.name = some (.ref fa) → Rec0 q mg h → LawX l w (Kf w.params) (CX w) k n x mg fa h)
    (h6 : ∀ (w : World) (H : Hp) (s : Shared) (e : Value) (s' : Shared), CX w [] H s (fun _ _ _ => False) e s' → False) :
    PySem.W.WalkO q loose XP YP l.row.toRowW d [] (fun f vs => PySem.call f vs) := by
  refine Att.attach_callB h1 h3 fun w _ s₁ mg mb fa o pm cd doc a vs ns G Y _ _ _ hmg hobj hints hlen hbits hg => ?_
  have X := h5 w _ Y
  obtain ⟨fd, cs, sp, T, bd, hsp, ok⟩ := F w mg fa _ Y X G.T.g hmg G.T.tab
  exact law_callX ⟨X, G.T.g, G.T.b, G.T.builtins, G.T.nolimit, hg, G.T.bmain⟩ T hobj hints (Nat.le_trans hlen h2) h4 ok bd (fun H hT hS => hsp H a ns hlen hbits hT hS) fun H e s' => h6 w H s₁ e s'
end KC
set_option Elab.async false
set_option linter.all false
set_option maxRecDepth 100000
set_option maxHeartbeats 4000000
namespace K02
open PySem PySem.Spec PyProof.Rows L2 GX KC Evl M01 M02 KX
theorem top_of {l : PySem.W.OpenLaw} {q : Program} {w : World} {K : PySem.W.Frag} {h : Heap} {mg : Str → Option Value} {fa : Addr} (X : K.In h) (G : h.Ns mainGlobals mg) (R : Rec0 q mg h) (hfa : mg "law" = some (.ref fa)) (r1 : ((recsOf q).any fun e => e.name == "words") = true)
    {tk : Tok} {CI CT fI : Addr}
    {f0 : Addr} {od0 an0 : Option Addr} {sl0 : Array (Option Value)} {oc0 kV0 dc0 pm0 ct0 : Value} {cd0 : Value}
    (a0 : PySem.W.nsIn K mainGlobals "field_bits" = some (some (.ref f0))) (l0 : K.lookup f0 = some ⟨oc0, od0, .func (PySem.W.fnOf "field_bits" "field_bits" (defArgs s_field_bits) (defBody s_field_bits) (defScope s_field_bits) .none kV0 dc0 pm0 an0 cd0 ct0), sl0⟩) (c0 : PySem.W.codeIn K cd0 "field_bits" = true) (k0 : PySem.W.keepIn K (.ref f0) = true)
    {f1 : Addr} {od1 an1 : Option Addr} {sl1 : Array (Option Value)} {oc1 kV1 dc1 pm1 ct1 : Value} {g1 P0 : Addr} {vc1 : Value} {vd1 : Option Addr} {us1 : Array Value} {vl1 : Array (Option Value)}
    (a1 : PySem.W.nsIn K mainGlobals "words" = some (some (.ref f1))) (l1 : K.lookup f1 = some ⟨oc1, od1, .func (PySem.W.fnOf "words" "words" (defArgs s_words) (defBody s_words) (defScope s_words) .none kV1 dc1 pm1 an1 (.ref g1) ct1), sl1⟩) (c1 : PySem.W.codeIn K (.ref g1) "words" = true) (k1 : PySem.W.keepIn K (.ref f1) = true)
    (v1 : K.lookup g1 = some ⟨vc1, vd1, .fields us1, vl1⟩) (p1 : us1[11]? = some (.ref P0)) (t1 : PySem.W.codeHdIn K g1 P0 = true) (n1 : K.lookup P0 = none)
    {f2 : Addr} {od2 an2 : Option Addr} {sl2 : Array (Option Value)} {oc2 kV2 dc2 pm2 ct2 : Value} {cd2 : Value}
    (a2 : PySem.W.nsIn K mainGlobals "write_symbols" = some (some (.ref f2))) (l2 : K.lookup f2 = some ⟨oc2, od2, .func (PySem.W.fnOf "write_symbols" "write_symbols" (defArgs s_write_symbols) (defBody s_write_symbols) (defScope s_write_symbols) .none kV2 dc2 pm2 an2 cd2 ct2), sl2⟩) (c2 : PySem.W.codeIn K cd2 "write_symbols" = true) (k2 : PySem.W.keepIn K (.ref f2) = true)
    {f3 : Addr} {od3 an3 : Option Addr} {sl3 : Array (Option Value)} {oc3 kV3 dc3 pm3 ct3 : Value} {cd3 : Value}
    (a3 : PySem.W.nsIn K mainGlobals "word_tree" = some (some (.ref f3))) (l3 : K.lookup f3 = some ⟨oc3, od3, .func (PySem.W.fnOf "word_tree" "word_tree" (defArgs s_word_tree) (defBody s_word_tree) (defScope s_word_tree) .none kV3 dc3 pm3 an3 cd3 ct3), sl3⟩) (c3 : PySem.W.codeIn K cd3 "word_tree" = true) (k3 : PySem.W.keepIn K (.ref f3) = true)
    {f4 : Addr} {od4 an4 : Option Addr} {sl4 : Array (Option Value)} {oc4 kV4 dc4 pm4 ct4 : Value} {cd4 : Value}
    (a4 : PySem.W.nsIn K mainGlobals "read_word" = some (some (.ref f4))) (l4 : K.lookup f4 = some ⟨oc4, od4, .func (PySem.W.fnOf "read_word" "read_word" (defArgs s_read_word) (defBody s_read_word) (defScope s_read_word) .none kV4 dc4 pm4 an4 cd4 ct4), sl4⟩) (c4 : PySem.W.codeIn K cd4 "read_word" = true) (k4 : PySem.W.keepIn K (.ref f4) = true)
    {f5 : Addr} {od5 an5 : Option Addr} {sl5 : Array (Option Value)} {oc5 kV5 dc5 pm5 ct5 : Value} {cd5 : Value}
    (a5 : PySem.W.nsIn K mainGlobals "read_symbols" = some (some (.ref f5))) (l5 : K.lookup f5 = some ⟨oc5, od5, .func (PySem.W.fnOf "read_symbols" "read_symbols" (defArgs s_read_symbols) (defBody s_read_symbols) (defScope s_read_symbols) .none kV5 dc5 pm5 an5 cd5 ct5), sl5⟩) (c5 : PySem.W.codeIn K cd5 "read_symbols" = true) (k5 : PySem.W.keepIn K (.ref f5) = true)
    {f6 : Addr} {od6 an6 : Option Addr} {sl6 : Array (Option Value)} {oc6 kV6 dc6 pm6 ct6 : Value} {cd6 : Value}
    (a6 : PySem.W.nsIn K mainGlobals "_law_cell" = some (some (.ref f6))) (l6 : K.lookup f6 = some ⟨oc6, od6, .func (PySem.W.fnOf "_law_cell" "_law_cell" (defArgs s_law_cell) (defBody s_law_cell) (defScope s_law_cell) .none kV6 dc6 pm6 an6 cd6 ct6), sl6⟩) (c6 : PySem.W.codeIn K cd6 "_law_cell" = true) (k6 : PySem.W.keepIn K (.ref f6) = true)
    {f7 : Addr} {od7 an7 : Option Addr} {sl7 : Array (Option Value)} {oc7 kV7 dc7 pm7 ct7 : Value} {cd7 : Value}
    (a7 : PySem.W.nsIn K mainGlobals "_law_lengths" = some (some (.ref f7))) (l7 : K.lookup f7 = some ⟨oc7, od7, .func (PySem.W.fnOf "_law_lengths" "_law_lengths" (defArgs s_law_lengths) (defBody s_law_lengths) (defScope s_law_lengths) .none kV7 dc7 pm7 an7 cd7 ct7), sl7⟩) (c7 : PySem.W.codeIn K cd7 "_law_lengths" = true) (k7 : PySem.W.keepIn K (.ref f7) = true)
    {f8 : Addr} {od8 an8 : Option Addr} {sl8 : Array (Option Value)} {oc8 kV8 dc8 pm8 ct8 : Value} {cd8 : Value}
    (a8 : PySem.W.nsIn K mainGlobals "_law_fitting" = some (some (.ref f8))) (l8 : K.lookup f8 = some ⟨oc8, od8, .func (PySem.W.fnOf "_law_fitting" "_law_fitting" (defArgs s_law_fitting) (defBody s_law_fitting) (defScope s_law_fitting) .none kV8 dc8 pm8 an8 cd8 ct8), sl8⟩) (c8 : PySem.W.codeIn K cd8 "_law_fitting" = true) (k8 : PySem.W.keepIn K (.ref f8) = true)
    {f9 : Addr} {od9 an9 : Option Addr} {sl9 : Array (Option Value)} {oc9 kV9 dc9 pm9 ct9 : Value} {cd9 : Value}
    (a9 : PySem.W.nsIn K mainGlobals "_law_words" = some (some (.ref f9))) (l9 : K.lookup f9 = some ⟨oc9, od9, .func (PySem.W.fnOf "_law_words" "_law_words" (defArgs s_law_words) (defBody s_law_words) (defScope s_law_words) .none kV9 dc9 pm9 an9 cd9 ct9), sl9⟩) (c9 : PySem.W.codeIn K cd9 "_law_words" = true) (k9 : PySem.W.keepIn K (.ref f9) = true)
    {f10 : Addr} {od10 an10 : Option Addr} {sl10 : Array (Option Value)} {oc10 kV10 dc10 pm10 ct10 : Value} {cd10 : Value}
    (a10 : PySem.W.nsIn K mainGlobals "_law_told" = some (some (.ref f10))) (l10 : K.lookup f10 = some ⟨oc10, od10, .func (PySem.W.fnOf "_law_told" "_law_told" (defArgs s_law_told) (defBody s_law_told) (defScope s_law_told) .none kV10 dc10 pm10 an10 cd10 ct10), sl10⟩) (c10 : PySem.W.codeIn K cd10 "_law_told" = true) (k10 : PySem.W.keepIn K (.ref f10) = true)
    {f11 : Addr} {od11 an11 : Option Addr} {sl11 : Array (Option Value)} {oc11 kV11 dc11 pm11 ct11 : Value} {cd11 : Value}
    (a11 : PySem.W.nsIn K mainGlobals "_law_read" = some (some (.ref f11))) (l11 : K.lookup f11 = some ⟨oc11, od11, .func (PySem.W.fnOf "_law_read" "_law_read" (defArgs s_law_read) (defBody s_law_read) (defScope s_law_read) .none kV11 dc11 pm11 an11 cd11 ct11), sl11⟩) (c11 : PySem.W.codeIn K cd11 "_law_read" = true) (k11 : PySem.W.keepIn K (.ref f11) = true)
    {f12 : Addr} {od12 an12 : Option Addr} {sl12 : Array (Option Value)} {oc12 kV12 dc12 pm12 ct12 : Value} {cd12 : Value}
    (a12 : PySem.W.nsIn K mainGlobals "law" = some (some (.ref f12))) (l12 : K.lookup f12 = some ⟨oc12, od12, .func (PySem.W.fnOf "law" "law" (defArgs s_law) (defBody s_law) (defScope s_law) .none kV12 dc12 pm12 an12 cd12 ct12), sl12⟩) (c12 : PySem.W.codeIn K cd12 "law" = true) (k12 : PySem.W.keepIn K (.ref f12) = true)
    (z_len : PySem.W.nsIn K mainGlobals "len" = some none)
    (z_int : PySem.W.nsIn K mainGlobals "int" = some none)
    (z_min : PySem.W.nsIn K mainGlobals "min" = some none)
    (z_max : PySem.W.nsIn K mainGlobals "max" = some none)
    (z_list : PySem.W.nsIn K mainGlobals "list" = some none)
    (z_sorted : PySem.W.nsIn K mainGlobals "sorted" = some none)
    (z_sum : PySem.W.nsIn K mainGlobals "sum" = some none)
    (z_range : PySem.W.nsIn K mainGlobals "range" = some none)
    (z_enumerate : PySem.W.nsIn K mainGlobals "enumerate" = some none)
    (z_zip : PySem.W.nsIn K mainGlobals "zip" = some none)
    (z_any : PySem.W.nsIn K mainGlobals "any" = some none)
    (z_isinstance : PySem.W.nsIn K mainGlobals "isinstance" = some none)
    (z_bool : PySem.W.nsIn K mainGlobals "bool" = some none)
    (z_reversed : PySem.W.nsIn K mainGlobals "reversed" = some none)
    (y_ROOT : PySem.W.nsIn K mainGlobals "ROOT" = some (some (.int 1 tk)))
    {nmI qI : Str} {NI : Addr} {bsI bmI : List Value} {snI : List Str} {subI : List Value} {abI : Bool} {colI : Option Bool} {ddI : Option Addr} {m0I m1I m2I m3I m5I : Option Value} {oI : Obj} {tkI : Tok}
    (gI : PySem.W.nsIn K mainGlobals "InvalidWord" = some (some (.ref CI)))
    (xlI : K.lookup CI = some (excClassObj nmI qI CI NI bsI bmI true snI subI abI colI ddI m0I m1I m2I m3I m5I "ValueError.__new__"))
    (rI : PySem.HandSPX.refsVE bmI = true)
    (saI : PySem.W.findIn K (.ref CI) "__setattr__" = some (some (.builtin "object.__setattr__")))
    (exI : PySem.W.subIn K (.ref CI) (.type "BaseException") = some true)
    (tyI : PySem.W.typeIn K (.ref CI) = some (.type "type"))
    (kpI : PySem.W.keepIn K (.ref CI) = true)
    (gaI : PySem.W.findIn K (.ref CI) "__getattribute__" = some (some (.builtin "BaseException.__getattribute__")))
    (ggI : PySem.W.findIn K (.ref CI) "__getattr__" = some none)
    (hdI : PySem.W.hasDictIn K CI = true)
    (haI : PySem.W.findIn K (.ref CI) "__class__" = some (some (.builtin "object.__class__")))
    (hmI : PySem.W.mroIn K CI (.type "object") = some true)
    (obI : K.lookup CI = some oI)
    (osI : oI.slots[2]? = some (some (.str "InvalidWord" tkI)))
    (rdI : PySem.W.readsIn K CI (.type "type") = true)
    (fcI : PySem.W.findCls K (.ref CI) (.type "type") "__name__" = some (.get (.builtin "getset_descriptor.__get__") (.builtin "type.__name__") (.ref CI) (.type "type")))
    (fpI : PySem.W.findIn K (.ref CI) "place" = some none)
    (fnI : PySem.W.findIn K (.ref CI) "name" = some none)
    (fiI : PySem.W.findIn K (.ref CI) "__init__" = some (some (.ref fI)))
    {nmT qT : Str} {NT : Addr} {bsT bmT : List Value} {snT : List Str} {subT : List Value} {abT : Bool} {colT : Option Bool} {ddT : Option Addr} {m0T m1T m2T m3T m5T : Option Value} {oT : Obj} {tkT : Tok}
    (gT : PySem.W.nsIn K mainGlobals "Truncated" = some (some (.ref CT)))
    (xlT : K.lookup CT = some (excClassObj nmT qT CT NT bsT bmT true snT subT abT colT ddT m0T m1T m2T m3T m5T "ValueError.__new__"))
    (rT : PySem.HandSPX.refsVE bmT = true)
    (saT : PySem.W.findIn K (.ref CT) "__setattr__" = some (some (.builtin "object.__setattr__")))
    (exT : PySem.W.subIn K (.ref CT) (.type "BaseException") = some true)
    (tyT : PySem.W.typeIn K (.ref CT) = some (.type "type"))
    (kpT : PySem.W.keepIn K (.ref CT) = true)
    (gaT : PySem.W.findIn K (.ref CT) "__getattribute__" = some (some (.builtin "BaseException.__getattribute__")))
    (ggT : PySem.W.findIn K (.ref CT) "__getattr__" = some none)
    (hdT : PySem.W.hasDictIn K CT = true)
    (haT : PySem.W.findIn K (.ref CT) "__class__" = some (some (.builtin "object.__class__")))
    (hmT : PySem.W.mroIn K CT (.type "object") = some true)
    (obT : K.lookup CT = some oT)
    (osT : oT.slots[2]? = some (some (.str "Truncated" tkT)))
    (rdT : PySem.W.readsIn K CT (.type "type") = true)
    (fcT : PySem.W.findCls K (.ref CT) (.type "type") "__name__" = some (.get (.builtin "getset_descriptor.__get__") (.builtin "type.__name__") (.ref CT) (.type "type")))
    (fpT : PySem.W.findIn K (.ref CT) "place" = some none)
    (fnT : PySem.W.findIn K (.ref CT) "name" = some none)
    (fiT : PySem.W.findIn K (.ref CT) "__init__" = some (some (.ref fI)))
    (hn : PySem.W.specialIn K (.builtin "object.__class__") "__get__" = some (some (.builtin "getset_descriptor.__get__")))
    (ht : PySem.W.takesIn K (.builtin "object.__class__") = some true)
    {ocI : Value} {odI anI : Option Addr} {slI : Array (Option Value)} {kVI dcI pmI ctI cdI : Value}
    (tyF : PySem.W.typeIn K (.ref fI) = some (.type "function"))
    (lI : K.lookup fI = some ⟨ocI, odI, .func (PySem.W.fnOf "__init__" "KraftroomError.__init__" (defArgs s_init) (defBody s_init) (defScope s_init) .none kVI dcI pmI anI cdI ctI), slI⟩)
    (cI : PySem.W.codeIn K cdI "KraftroomError.__init__" = true)
    (kI : PySem.W.keepIn K (.ref fI) = true)
    (zVE : PySem.W.nsIn K mainGlobals "ValueError" = some none)
    (vV : PySem.W.findCls K (.type "ValueError") (.type "type") "__init__" = some (.val (.builtin "ValueError.__init__")))
    (xa : PySem.W.exmOne K (.ref CI) (.ref CI) = some true)
    (xb : PySem.W.exmOne K (.ref CT) (.ref CI) = some false)
    (xc : PySem.W.exmOne K (.ref CT) (.ref CT) = some true)
    : LawX l w K CX0 11 63 "script" mg fa h := by
  have e := hfa.symm.trans (PySem.W.mg_of X G a12)
  cases e
  have hd1 : PySem.W.CodeHd h g1 P0 := PySem.W.codeHd_of_K X t1
  have em1 : h.get? P0 = some tabO := tab_emp R X r1 (PySem.W.mg_of X G a1) l1 rfl hd1
  have T1 : ∀ p ∈ ([(g1, P0)] : List (Addr × Addr)), h.get? p.2 = some tabO := by
    intro p hp
    simp only [List.mem_cons, List.not_mem_nil, or_false] at hp
    rcases hp with rfl
    · exact em1
  have T2 : ∀ p ∈ ([(g1, P0)] : List (Addr × Addr)), K.lookup p.2 = none := by
    intro p hp
    simp only [List.mem_cons, List.not_mem_nil, or_false] at hp
    rcases hp with rfl
    · exact n1
  have T3 : ∀ p ∈ ([(g1, P0)] : List (Addr × Addr)), PySem.W.CodeHd h p.1 p.2 := by
    intro p hp
    simp only [List.mem_cons, List.not_mem_nil, or_false] at hp
    rcases hp with rfl
    · exact hd1
  refine ⟨PySem.W.fnOf "law" "law" (defArgs s_law) (defBody s_law) (defScope s_law) .none kV12 dc12 pm12 an12 cd12 ct12, [(g1, P0)], spLaw K P0, ⟨T1, T2, T3⟩, fun s v => .of_eq rfl, fun H a ns hl hb hT hS => ⟨a, ns, rfl, hS, hl, hT _ (List.mem_cons_self), fun H2 e2 => ⟨rfl, fun p hp => e2 _ _ (hT p hp)⟩⟩, fun base kb gb TB => ?_⟩
  have B : Bs mg := ⟨PySem.W.mg_none_of X G z_len, PySem.W.mg_none_of X G z_int, PySem.W.mg_none_of X G z_min, PySem.W.mg_none_of X G z_max, PySem.W.mg_none_of X G z_list, PySem.W.mg_none_of X G z_sorted, PySem.W.mg_none_of X G z_sum, PySem.W.mg_none_of X G z_range, PySem.W.mg_none_of X G z_enumerate, PySem.W.mg_none_of X G z_zip, PySem.W.mg_none_of X G z_any, PySem.W.mg_none_of X G z_isinstance, PySem.W.mg_none_of X G z_bool, PySem.W.mg_none_of X G z_reversed⟩
  have TB1 : GxR.TabB base mg g1 P0 := TB (g1, P0) (by simp)
  have T : GT mg tk := ⟨PySem.W.mg_of X G y_ROOT⟩
  have FI := fun_mk (st := s_init) lI cI kI
  have BI := FI.binds (ps := ["self", "place"]) fun _ _ _ _ _ _ us hl => match us, hl with | [_, _], _ => rfl
  have EI : ErrK K CI "InvalidWord" := ⟨⟨⟨_, _, _, _, _, _, _, _, _, _, _, _, _, _, _, xlI, rI⟩, saI, exI, tyI, kpI⟩, ⟨gaI, ggI, exI, hdI, haI, hn, ht, hmI⟩, ⟨⟨oI, tkI, obI, osI⟩, tyI, rdI, fcI⟩, fpI, fnI⟩
  have MI := PySem.W.mg_of X G gI
  have GI : ErrG l.prog w K mg base "InvalidWord" CI fI _ := ⟨EI, fiI, tyF, MI, ok_init (k := 0) FI (PySem.W.mg_none_of X G zVE) vV, BI⟩
  have ET : ErrK K CT "Truncated" := ⟨⟨⟨_, _, _, _, _, _, _, _, _, _, _, _, _, _, _, xlT, rT⟩, saT, exT, tyT, kpT⟩, ⟨gaT, ggT, exT, hdT, haT, hn, ht, hmT⟩, ⟨⟨oT, tkT, obT, osT⟩, tyT, rdT, fcT⟩, fpT, fnT⟩
  have MT := PySem.W.mg_of X G gT
  have GT_ : ErrG l.prog w K mg base "Truncated" CT fI _ := ⟨ET, fiT, tyF, MT, ok_init (k := 0) FI (PySem.W.mg_none_of X G zVE) vV, BI⟩
  have F0 := fun_mk (st := s_field_bits) l0 c0 k0
  have C_field_bits := cal_of (P := l.prog) (w := w) (base := base) F0 (PySem.W.mg_of X G a0) (F0.binds (ps := ["number", "width"]) fun _ _ _ _ _ _ us hl => match us, hl with | [_, _], _ => rfl) (ok_field_bits (k := 0) F0 B)
  have F1 : FunT K "words" "words" s_words f1 _ g1 := ⟨⟨oc1, od1, kV1, dc1, pm1, an1, ct1, sl1, rfl, l1, c1⟩, k1⟩
  have C_words := cal_of (P := l.prog) (w := w) (base := base) F1.fn (PySem.W.mg_of X G a1) (F1.fn.binds (ps := ["lengths"]) fun _ _ _ _ _ _ us hl => match us, hl with | [_], _ => rfl) (ok_words (k := 0) F1 TB1 B C_field_bits)
  have F2 := fun_mk (st := s_write_symbols) l2 c2 k2
  have C_write_symbols := cal_of (P := l.prog) (w := w) (base := base) F2 (PySem.W.mg_of X G a2) (F2.binds (ps := ["lengths", "message"]) fun _ _ _ _ _ _ us hl => match us, hl with | [_, _], _ => rfl) (ok_write_symbols (k := 0) F2 B C_words)
  have F3 := fun_mk (st := s_word_tree) l3 c3 k3
  have C_word_tree := cal_of (P := l.prog) (w := w) (base := base) F3 (PySem.W.mg_of X G a3) (F3.binds (ps := ["lengths"]) fun _ _ _ _ _ _ us hl => match us, hl with | [_], _ => rfl) (ok_word_tree (k := 0) F3 T B C_words)
  have F4 := fun_mk (st := s_read_word) l4 c4 k4
  have C_read_word := CalX.mk (P := l.prog) (w := w) (base := base) ⟨_, _, PySem.W.mg_of X G a4, F4.kp, F4.binds (ps := ["tree", "bits", "at"]) (fun _ _ _ _ _ _ us hl => match us, hl with | [_, _, _], _ => rfl), ok_read_word (k := 0) F4 T B GI GT_⟩
  have F5 := fun_mk (st := s_read_symbols) l5 c5 k5
  have C_read_symbols := CalX.mk (P := l.prog) (w := w) (base := base) ⟨_, _, PySem.W.mg_of X G a5, F5.kp, F5.binds (ps := ["lengths", "bits", "at", "count"]) (fun _ _ _ _ _ _ us hl => match us, hl with | [_, _, _, _], _ => rfl), ok_read_symbols (k := 0) F5 B C_word_tree C_read_word⟩
  have F6 := fun_mk (st := s_law_cell) l6 c6 k6
  have C_law_cell := cal_of (P := l.prog) (w := w) (base := base) F6 (PySem.W.mg_of X G a6) (F6.binds (ps := ["script", "k"]) fun _ _ _ _ _ _ us hl => match us, hl with | [_, _], _ => rfl) (ok_cell (k := 0) F6 B)
  have F7 := fun_mk (st := s_law_lengths) l7 c7 k7
  have C_law_lengths := cal_of (P := l.prog) (w := w) (base := base) F7 (PySem.W.mg_of X G a7) (F7.binds (ps := ["script", "first", "many"]) fun _ _ _ _ _ _ us hl => match us, hl with | [_, _, _], _ => rfl) (ok_lengths (k := 0) F7 B C_law_cell)
  have F8 := fun_mk (st := s_law_fitting) l8 c8 k8
  have C_law_fitting := cal_of (P := l.prog) (w := w) (base := base) F8 (PySem.W.mg_of X G a8) (F8.binds (ps := ["lengths"]) fun _ _ _ _ _ _ us hl => match us, hl with | [_], _ => rfl) (ok_law_fitting (k := 0) F8 B)
  have F9 := fun_mk (st := s_law_words) l9 c9 k9
  have C_law_words := cal_of (P := l.prog) (w := w) (base := base) F9 (PySem.W.mg_of X G a9) (F9.binds (ps := ["lengths"]) fun _ _ _ _ _ _ us hl => match us, hl with | [_], _ => rfl) (ok_law_words (k := 0) F9 B)
  have F10 := fun_mk (st := s_law_told) l10 c10 k10
  have C_law_told := cal_of (P := l.prog) (w := w) (base := base) F10 (PySem.W.mg_of X G a10) (F10.binds (ps := ["lengths", "bits", "at", "count"]) fun _ _ _ _ _ _ us hl => match us, hl with | [_, _, _, _], _ => rfl) (ok_told (k := 0) F10 MI MT EI ET xa xb xc C_read_symbols)
  have F11 := fun_mk (st := s_law_read) l11 c11 k11
  have C_law_read := cal_of (P := l.prog) (w := w) (base := base) F11 (PySem.W.mg_of X G a11) (F11.binds (ps := ["table", "bits", "at", "count"]) fun _ _ _ _ _ _ us hl => match us, hl with | [_, _, _, _], _ => rfl) (ok_law_read (k := 0) F11 B)
  have F12 := fun_mk (st := s_law) l12 c12 k12
  exact ok_law (k := 0) F12 B C_law_cell C_law_lengths C_law_fitting C_law_words C_write_symbols C_law_told C_law_read
end K02
open PySem PySem.W PyProof.Rows
set_option maxHeartbeats 0 in
theorem PySem.Challenge.cw_kraftroom_k02_symbols_read_and_written_holds : PySem.Challenge.rw_kraftroom_k02_symbols_read_and_written.Holds := by
  w_on; o_law; k_head; (case hw => w_witness2)
  k_fill
  refine KC.walk_X (l := PySem.Challenge.rw_kraftroom_k02_symbols_read_and_written) (n := 63) (k := 11) (x := "script") (CX := fun _ => L2.CX0) rfl (by decide) rfl ⟨rfl, by decide, by decide⟩ (fun w h Y => PySem.W.kIn_of Y) ?F (fun _ _ _ _ _ h => h)
  case F =>
    intro w mg fa h Y KX G hmg R
    refine' K02.top_of KX G R hmg ?r1 ?a0 ?l0 ?c0 ?k0 ?a1 ?l1 ?c1 ?k1 ?v1 ?p1 ?t1 ?n1 ?a2 ?l2 ?c2 ?k2 ?a3 ?l3 ?c3 ?k3 ?a4 ?l4 ?c4 ?k4 ?a5 ?l5 ?c5 ?k5 ?a6 ?l6 ?c6 ?k6 ?a7 ?l7 ?c7 ?k7 ?a8 ?l8 ?c8 ?k8 ?a9 ?l9 ?c9 ?k9 ?a10 ?l10 ?c10 ?k10 ?a11 ?l11 ?c11 ?k11 ?a12 ?l12 ?c12 ?k12 ?z_len ?z_int ?z_min ?z_max ?z_list ?z_sorted ?z_sum ?z_range ?z_enumerate ?z_zip ?z_any ?z_isinstance ?z_bool ?z_reversed ?y_ROOT ?gI ?xlI ?rI ?saI ?exI ?tyI ?kpI ?gaI ?ggI ?hdI ?haI ?hmI ?obI ?osI ?rdI ?fcI ?fpI ?fnI ?fiI ?gT ?xlT ?rT ?saT ?exT ?tyT ?kpT ?gaT ?ggT ?hdT ?haT ?hmT ?obT ?osT ?rdT ?fcT ?fpT ?fnT ?fiT ?hn ?ht ?tyF ?lI ?cI ?kI ?zVE ?vV ?xa ?xb ?xc
    (case r1 => rfl)
    (case a0 => k_is); (case l0 => k_is); (case c0 => k_is); (case k0 => k_is); (case a1 => k_is); (case l1 => k_is); (case c1 => k_is); (case k1 => k_is); (case v1 => k_is); (case p1 => rfl); (case t1 => rfl); (case n1 => rfl); (case a2 => k_is); (case l2 => k_is); (case c2 => k_is); (case k2 => k_is); (case a3 => k_is); (case l3 => k_is); (case c3 => k_is); (case k3 => k_is); (case a4 => k_is); (case l4 => k_is); (case c4 => k_is); (case k4 => k_is); (case a5 => k_is); (case l5 => k_is); (case c5 => k_is); (case k5 => k_is); (case a6 => k_is); (case l6 => k_is); (case c6 => k_is); (case k6 => k_is); (case a7 => k_is); (case l7 => k_is); (case c7 => k_is); (case k7 => k_is); (case a8 => k_is); (case l8 => k_is); (case c8 => k_is); (case k8 => k_is); (case a9 => k_is); (case l9 => k_is); (case c9 => k_is); (case k9 => k_is); (case a10 => k_is); (case l10 => k_is); (case c10 => k_is); (case k10 => k_is); (case a11 => k_is); (case l11 => k_is); (case c11 => k_is); (case k11 => k_is); (case a12 => k_is); (case l12 => k_is); (case c12 => k_is); (case k12 => k_is); (case z_len => k_is); (case z_int => k_is); (case z_min => k_is); (case z_max => k_is); (case z_list => k_is); (case z_sorted => k_is); (case z_sum => k_is); (case z_range => k_is); (case z_enumerate => k_is); (case z_zip => k_is); (case z_any => k_is); (case z_isinstance => k_is); (case z_bool => k_is); (case z_reversed => k_is); (case y_ROOT => k_is); (case gI => k_is); (case xlI => k_is); (case rI => first | rfl | decide +kernel); (case saI => first | k_is | rfl); (case exI => first | k_is | rfl); (case tyI => first | k_is | rfl); (case kpI => first | k_is | rfl); (case gaI => first | k_is | rfl); (case ggI => first | k_is | rfl); (case hdI => first | k_is | rfl); (case haI => first | k_is | rfl); (case hmI => first | k_is | rfl); (case obI => k_is); (case osI => first | rfl | k_is); (case rdI => first | k_is | rfl); (case fcI => first | k_is | rfl); (case fpI => first | k_is | rfl); (case fnI => first | k_is | rfl); (case fiI => k_is); (case gT => k_is); (case xlT => k_is); (case rT => first | rfl | decide +kernel); (case saT => first | k_is | rfl); (case exT => first | k_is | rfl); (case tyT => first | k_is | rfl); (case kpT => first | k_is | rfl); (case gaT => first | k_is | rfl); (case ggT => first | k_is | rfl); (case hdT => first | k_is | rfl); (case haT => first | k_is | rfl); (case hmT => first | k_is | rfl); (case obT => k_is); (case osT => first | rfl | k_is); (case rdT => first | k_is | rfl); (case fcT => first | k_is | rfl); (case fpT => first | k_is | rfl); (case fnT => first | k_is | rfl); (case fiT => k_is); (case hn => first | k_is | rfl); (case ht => first | k_is | rfl); (case tyF => first | k_is | rfl); (case lI => k_is); (case cI => k_is); (case kI => k_is); (case zVE => k_is); (case vV => first | k_is | rfl); (case xa => first | rfl | k_is | decide +kernel); (case xb => first | rfl | k_is | decide +kernel); (case xc => first | rfl | k_is | decide +kernel)
