import PyProof.Rows.All
import Wide.All
import OpenK.AllK
import Wide.FinOn
import HandS.GenList
import HandS.AnyAll
import HandS.EndOwn
import HandS.SortInts
import HandS.Walk
import HandS.ForMost
import HandS.Style
import HandS.Conv
import HandS.Evl
import HandS.Wide
import HandS.Star
import HandS.IsInst
import KE.BitLaws
import HandS.ExcInit
import HandS.ExcIs
import HandS.FStr
import KE.KExcIs
import KE.KExcPX
import KE.KTypeName
import HandS.TryMany
import HandS.ExcField
import HandS.ExcOwn
import HandS.WordsExc
import HandS.WideBits
import PySem.Challenge.RW_kraftroom_k14_codes_of_integers
import HandS.EndTab
set_option Elab.async false
set_option linter.all false
set_option maxRecDepth 100000
set_option maxHeartbeats 4000000
/-! Generator expressions over the layer: any target, tests, element; consumed by sorted, sum, any, all. -/
namespace GX
open PySem PySem.Spec PyProof.Rows L2 GenW

abbrev Pins := List (Addr × Obj)
structure Sleeps (Ss : List Addr) (s s' : Shared) : Prop where
  os : s'.os = s.os
  bare : AllBare s'.gens
  keep : ∀ b o, b ∉ Ss → s.heap.get? b = some o → s'.heap.get? b = some o
structure PinsAt (Ss : List Addr) (pl : Pins) (h : Heap) : Prop where
  ad : pl.map (·.1) = Ss
  at_ : ∀ p ∈ pl, h.get? p.1 = some p.2 ∧ ∀ v, p.2.data ≠ .cell v
structure Cons where
  Ss : List Addr
  Gh : List V → Pins → Prop
  Th : List V → V → Hp → Prop
  Qe : List V → Hp → Prop

abbrev gcx (X : Cx) (sB : Shared) (HB : Hp) (N' : List Str) (cenv : Env) (fp : List Addr) (A : Around) (pn : Pins) : Cx :=
  { X with A := A, N := N', s_0 := sB, H_0 := HB, env := cenv, outer := X.stack, stack := cenv :: X.stack, ex := fp, fn := fun _ => false, calm := true, pn := pn, xe := fun _ _ => False }

/-- the generator expression's own scope, its names N', which of them are captured (cm: their slots outside) -/
structure CapOk (N N' : List Str) (cm : List (Option Nat)) (scope sc : Scope) : Prop where
  kind : scope.kind = .function
  co : scope.isCoroutine = false
  cell : ∀ y ∈ scope.names, y.2 ≠ .cell
  dot : scope.names.lookup (".0" : Str) = some NameKind.local
  free : ∀ y ∈ scope.names, y.2 = .free → sc.names.lookup y.1 = some .cell ∨ sc.names.lookup y.1 = some .free
  len : cm.length = N'.length
  cap : ((cm.zip N').all fun p => match p.1 with | some j => (N[j]? == some p.2) && (scope.names.lookup p.2 == some .free) | none => true) = true
def captS (cm : List (Option Nat)) (σ : L2.St) : L2.St := cm.map fun o => match o with
  | some j => (σ[j]?).join
  | none => none
theorem captS_some {cm : List (Option Nat)} {σ : L2.St} {i : Nat} {v : V} (h : (captS cm σ)[i]? = some (some v)) : ∃ j, cm[i]? = some (some j) ∧ σ[j]? = some (some v) := by
  unfold captS at h
  rw [List.getElem?_map] at h
  cases hc : cm[i]? with
  | none => rw [hc] at h; cases h
  | some o =>
    rw [hc] at h
    cases o with
    | none => cases h
    | some j =>
      refine ⟨j, rfl, ?_⟩
      have h' : (σ[j]?).join = some v := Option.some.inj h
      cases hs : σ[j]? with
      | none => rw [hs] at h'; cases h'
      | some w => rw [hs] at h'; exact congrArg some h'
theorem CapOk.capt {N N' : List Str} {cm : List (Option Nat)} {scope sc : Scope} (ok : CapOk N N' cm scope sc) {i j : Nat} {y : Str} (h1 : cm[i]? = some (some j)) (h2 : N'[i]? = some y) : N[j]? = some y ∧ scope.names.lookup y = some .free := by
  have h := List.all_eq_true.mp ok.cap (some j, y) (List.mem_of_getElem? (i := i) (by rw [List.getElem?_zip_eq_some]; exact ⟨h1, h2⟩))
  simp only [Bool.and_eq_true, beq_iff_eq] at h
  exact h

theorem inv_gens {G : Cx} {pl : Pins} {σ : L2.St} {H : Hp} {s : Shared} (I : Inv G pl σ H s) {g : Nat} {x : GenState} (hx : x.bare = true) : Inv G pl σ H (s.setGen g x) :=
  ⟨I.ok, I.os, allBare_setGen I.bare hx, I.base, I.loc, I.cell, I.free, I.freeC, I.pin, I.hok, I.len⟩

theorem woken {G : Cx} {Ss : List Addr} {pl pl' : Pins} {σ : L2.St} {H : Hp} {s s' : Shared} (hpn : ∀ p ∈ G.pn, p.1 ∉ Ss)
    (hap : ∀ b ∈ Ss, G.s_0.heap.objs.size ≤ b ∧ b ≠ G.env.locals ∧ ∀ x c, G.env.cells.lookup x = some c → c ≠ b) (hp : PinsAt Ss pl s.heap) (I : Inv G pl σ H s) (z : Sleeps Ss s s') (hp' : PinsAt Ss pl' s'.heap) :
    Inv G pl' σ H s' := by
  have fr : ∀ b ∈ Ss, H b = none ∧ b ≠ G.env.locals ∧ b ∉ G.fs := fun b hb => by
    rw [← hp.ad] at hb
    obtain ⟨p, hm, e⟩ := List.mem_map.mp hb
    obtain ⟨_, h2, h3, h4, _⟩ := I.pin p (List.mem_append_right _ hm)
    rw [← e]
    exact ⟨h2, h3, h4⟩
  have I0 : Inv G [] σ H s := I.pins_of fun p hp => absurd hp (by simp)
  have nt : ∀ b u, H b = some u → b ∉ Ss := fun b u q hb => by rw [(fr b hb).1] at q; cases q
  obtain ⟨z1, z2, z3⟩ := z
  obtain ⟨hh, g, d, t, o⟩ := s'
  have ho : o = s.os := z1
  subst ho
  have J : Inv G [] σ H { s with heap := hh, gens := g, drawn := d, toks := t } := by
    refine I0.step (g' := g) (t' := t) (d' := d) (ch := Ss) (fun b hb => ?_)
      (fun b ob _ _ hc q _ => z3 b ob hc q) (fun b ob _ _ hc q _ => ⟨ob.slots, z3 b ob hc q⟩) (fun _ _ _ _ n => n) (fun b ob hc q => ⟨ob, z3 b ob hc q⟩)
      (fun _ _ q => q) (fun _ _ _ q => q) (fun b ps q => ⟨#[], by rw [q]; simp⟩) (fun m hm => ?_) (fun b u q => ?_) z2
    · refine ⟨.inr (hap b hb).1, (hap b hb).2.1, (hap b hb).2.2, fun p hp => ?_⟩
      rcases List.mem_append.mp hp with hp | hp
      · exact fun e => hpn p hp (by rw [e]; exact hb)
      · cases hp
    · obtain ⟨ob, es, ep, ho, r⟩ := hm
      exact ⟨ob, es, ep, z3 _ ob (fun hm => (fr _ hm).2.1 rfl) ho, r⟩
    · refine (I0.hok b u q).stay (fun c v hc y => z3 c v ?_ y) (fun _ y => y) fun _ _ y => y
      rcases hc with y | y
      · rw [y]; exact nt b u q
      · exact nt c _ y
  refine J.pins_of fun p hp => ?_
  have hS : p.1 ∈ Ss := by rw [← hp'.ad]; exact List.mem_map.mpr ⟨p, hp, rfl⟩
  exact ⟨(hp'.at_ p hp).1, (fr _ hS).1, (fr _ hS).2.1, (fr _ hS).2.2, (hp'.at_ p hp).2⟩

def GY (G : Cx) (C : Cons) (σ0 : L2.St) : Protocol := fun n s₀ v s kap =>
  ∃ ys x pl H, n + 1 + ys.length = sizeLine ∧ RelV x v ∧ PinsAt C.Ss pl s.heap ∧ C.Gh ys pl ∧ Inv G pl σ0 H s ∧ C.Th ys x H ∧
    (∀ b ∈ C.Ss, s.heap.get? b = s₀.heap.get? b) ∧ ∀ s' pl', Sleeps C.Ss s s' → PinsAt C.Ss pl' s'.heap → C.Gh (ys ++ [x]) pl' → kap (.send .none) s'
def GP (G : Cx) (C : Cons) (σ0 : L2.St) (s₀ s : Shared) : Prop := ∃ ys pl H, ys.length ≤ sizeLine ∧ PinsAt C.Ss pl s.heap ∧ C.Gh ys pl ∧ Inv G pl σ0 H s ∧ C.Qe ys H ∧ ∀ b ∈ C.Ss, s.heap.get? b = s₀.heap.get? b
def GR (G : Cx) (C : Cons) (σ0 : L2.St) : GenEnd := fun n s₀ r s => r = .ok .next ∧ GP G C σ0 s₀ s
theorem PinsAt.same {Ss : List Addr} {pl : Pins} {h h' : Heap} (a : PinsAt Ss pl h) (b : PinsAt Ss pl h') : ∀ x ∈ Ss, h'.get? x = h.get? x := fun x hx => by
  rw [← a.ad] at hx
  obtain ⟨p, hp, e⟩ := List.mem_map.mp hx
  rw [← e, (a.at_ p hp).1, (b.at_ p hp).1]

theorem over_gl {A : Around} {elt : Expr} {gens : List Comprehension} {scope : Scope} {pos : Pos} {it acc : Value} {env : Env} : A.over (.compLoop (.GeneratorExp elt gens scope pos) 0 it acc env) [] = A.deeper env := by
  first
    | rfl
    | (obtain ⟨hd, d, fr, gs, u⟩ := A; simp [Around.over, Around.deeper, marksOver, frameCount, unitsOf, envsOf, guardsOf, pushEnvs, pushGuards, Code.envs, Code.env?, Code.isFrame, Code.guards, Code.isGuard, Code.weight, Code.frames, Code.isCreation, Code.isCaller, Code.cUnits])

/-- what each turn is to bring -/
def Turns (J : It) (g : TG) (tt : TT) (te : TE) (σ0 : L2.St) (own : List Nat) (Th : List V → V → Hp → Prop) (Qe : List V → Hp → Prop) (W : Nat → Nat → List V → Hp → Prop) : Prop :=
  ∀ i m ys H, W i m ys H → (J.stop i H ∧ Qe ys H) ∨ (J.go i H ∧ ∃ Nx : List V → Hp → Prop, (∀ ys' H', Nx ys' H' → ∃ m', m' < m ∧ W (i + 1) m' ys' H') ∧
    ∀ x H', J.yld i H x H' → g x σ0 H' fun σ2 H2 => wipe σ2 own = σ0 ∧ tt σ2 H2 fun b H3 =>
      if b = true then te σ2 H3 fun y H4 => ys.length < sizeLine ∧ Th ys y H4 ∧ Nx (ys ++ [y]) H4 else Nx ys H3)

section
variable {G : Cx} {A : Around} {C : Cons} {cenv : Env} {tg elt iter : Expr} {ifs : List Expr} {scope : Scope} {pos : Pos} {J : It} {fp : List Addr} {it : Addr} {tn : Nat → Heap → Prop} {g : TG} {tt : TT} {te : TE} {σ0 : L2.St} {own : List Nat}
  {W : Nat → Nat → List V → Hp → Prop}
theorem seg_loop (hA : A.deeper cenv = G.A) (hE : G.env = cenv) (hcalm : G.calm = true) (hxe : G.xe = fun _ _ => False) (hco : cenv.scope.isCoroutine = false)
    (T : Turn G.prog G.w G.K tg J fp it tn) (hg : PG G tg g) (ht : PTs G ifs tt) (he : PE G elt te)
    (hpn : ∀ p ∈ G.pn, p.1 ∉ C.Ss) (hap : ∀ b ∈ C.Ss, G.s_0.heap.objs.size ≤ b ∧ b ≠ G.env.locals ∧ ∀ x c, G.env.cells.lookup x = some c → c ≠ b)
    (hfp : ∀ b ∈ fp, b ≠ G.env.locals ∧ b ∉ G.fs ∧ (b ∈ G.ex ∨ G.s_0.heap.objs.size ≤ b) ∧ (∀ x c, G.env.cells.lookup x = some c → c ≠ b) ∧ (∀ p ∈ G.pn, p.1 ≠ b) ∧ b ∉ C.Ss)
    (tr : Turns J g tt te σ0 own C.Th C.Qe W) :
    ∀ (m i n : Nat) (ys : List V) (s₀ s : Shared) (H : Hp) (pl : Pins), n + ys.length = sizeLine → W i m ys H → PinsAt C.Ss pl s.heap → C.Gh ys pl → Inv G pl σ0 H s → tn i s.heap → (∀ b ∈ fp, H b = none) → (∀ b ∈ C.Ss, s.heap.get? b = s₀.heap.get? b) →
      Seg (model G.prog G.w) A (GR G C σ0) (GY G C σ0) n s₀ (.compLoop (.GeneratorExp elt [⟨tg, iter, ifs, 0⟩] scope pos) 0 (.ref it) .none cenv)
        ((model G.prog G.w).den (.compLoop (.GeneratorExp elt [⟨tg, iter, ifs, 0⟩] scope pos) 0 (.ref it) .none cenv)) [] s := by
  subst hE
  intro m
  induction m using Nat.strongRecOn with
  | ind m ih =>
    intro i n ys s₀ s H pl hn w hp hgh I hst hfr hs0
    have hov : A.over (.compLoop (.GeneratorExp elt [⟨tg, iter, ifs, 0⟩] scope pos) 0 (.ref it) .none G.env) [] = G.A := over_gl.trans hA
    have stat : ∀ {pl' : Pins} {H' : Hp}, (pl'.map (·.1) = C.Ss) → (∀ b ∈ fp, H' b = none) → ∀ b ∈ fp, FpOk G pl' H' b := fun {pl' H'} had hn b hb => by
      obtain ⟨h1, h2, h3, h4, h5, h6⟩ := hfp b hb
      refine ⟨hn b hb, h1, h2, h3, h4, fun p hp => ?_⟩
      rcases List.mem_append.mp hp with hp | hp
      · exact h5 p hp
      · intro e
        exact h6 (by rw [← had, ← e]; exact List.mem_map.mpr ⟨p, hp, rfl⟩)
    show Seg _ A _ _ _ s₀ _ ((compTurn (.GeneratorExp elt [⟨tg, iter, ifs, 0⟩] scope pos) 0 (.ref it) .none G.env).onRaise (leaving G.env)) [] s
    rw [compTurn_gen, Sem.onRaise_eq_wrap]
    refine seg_bind_wrap (wpAny_standAt ?_)
    rcases tr i m ys H w with ⟨stop, qn⟩ | ⟨go, Nx, hN, step⟩
    · refine seg_bind_wrap ?_
      rw [hov]
      refine thn (T.done G rfl rfl rfl hcalm i pl s σ0 H _ I (stat hp.ad hfr) hst stop) fun r s4 ⟨hr, I4⟩ => ?_
      subst hr
      have hp4 : PinsAt C.Ss pl s4.heap := ⟨hp.ad, fun p hm => ⟨(I4.pin p (List.mem_append_right _ hm)).1, (hp.at_ p hm).2⟩⟩
      exact seg_end (.ok .next) ⟨rfl, ys, pl, H, by omega, hp4, hgh, I4, qn, fun b hb => (hp.same hp4 b hb).trans (hs0 b hb)⟩
    · refine seg_bind_wrap ?_
      rw [hov]
      refine thn (T.item G rfl rfl rfl hcalm i pl s σ0 H _ I (stat hp.ad hfr) hst go) fun r s4 ⟨u, hr, h4⟩ => ?_
      subst hr
      refine seg_bind_wrap ?_
      rw [hov]
      refine thn h4 fun _ s5 ⟨x, H5, I5, r5, y5, st5, fr5⟩ => ?_
      have I5' := I5.pinned (stat hp.ad fr5) (T.obj _ _ st5)
      refine seg_bind_wrap ?_
      rw [hov]
      refine wpAny_mono (hg.run _ s5 σ0 H5 x u _ I5' r5 (step x H5 y5)) (fun _ s6 ⟨σ6, H6, I6, hw6, q6⟩ => ?_) fun e s' hx => absurd hx (by rw [hxe]; exact fun z => z)
      refine seg_bind_wrap ?_
      rw [hov]
      refine wpAny_mono (ht.run _ s6 σ6 H6 _ I6 q6) (fun ok s7 ⟨H7, I7, q7⟩ => ?_) fun e s' hx => absurd hx (by rw [hxe]; exact fun z => z)
      have back : ∀ {s8 : Shared} {H8 : Hp}, Inv G (pl ++ pinsAt fp s5.heap) σ6 H8 s8 → Inv G pl σ0 H8 s8 ∧ PinsAt C.Ss pl s8.heap ∧ (∀ b ∈ fp, H8 b = none) ∧ ∀ b ∈ fp, ∀ o, s5.heap.get? b = some o → s8.heap.get? b = some o := fun {s8 H8} I8 => by
        refine ⟨(I8.unpinned).weak (by rw [← hw6, wipe_length]) fun j v hv => ?_, ⟨hp.ad, fun p hm => ?_⟩, fun b hb => ?_, fun b hb o e => ?_⟩
        · rw [← hw6] at hv
          exact (wipe_some hv).1
        · exact ⟨(I8.pin p (List.mem_append_right _ (List.mem_append_left _ hm))).1, (hp.at_ p hm).2⟩
        · obtain ⟨o, e, d⟩ := T.obj _ _ st5 b hb
          exact (I8.pin (b, o) (List.mem_append_right _ (List.mem_append_right _ (mem_pinsAt hb e)))).2.1
        · exact (I8.pin (b, o) (List.mem_append_right _ (List.mem_append_right _ (mem_pinsAt hb e)))).1
      cases ok with
      | false =>
        rw [if_neg Bool.false_ne_true] at q7
        simp only [Bool.false_eq_true, if_false]
        obtain ⟨I8, hp8, hf8, hk8⟩ := back I7
        obtain ⟨m', hm', w'⟩ := hN _ _ q7
        exact seg_again rfl (ih m' hm' (i + 1) n ys s₀ s7 H7 pl hn w' hp8 hgh I8 (T.keep _ _ _ st5 hk8) hf8 fun b hb => (hp.same hp8 b hb).trans (hs0 b hb))
      | true =>
        rw [if_pos rfl] at q7
        simp only [if_true]
        have hy : ∀ v, yieldOut G.env v = yieldValue v := fun v => by simp only [yieldOut, hco, Bool.false_eq_true, if_false]
        simp only [hy]
        rw [Sem.bind_eq_wrap', Sem.bind_eq_wrap', Sem.wrap_wrap, Sem.wrap_wrap]
        refine seg_wrap ?_
        rw [hov]
        refine wpAny_mono (he.run _ s7 σ6 H7 _ I7 q7) (fun v s8 ⟨y, H8, I8', r8, hlt, hth, hnx⟩ => ?_) fun e s' hx => absurd hx (by rw [hxe]; exact fun z => z)
        obtain ⟨n, rfl⟩ : ∃ k, n = k + 1 := ⟨n - 1, by omega⟩
        obtain ⟨I8, hp8, hf8, hk8⟩ := back I8'
        obtain ⟨m', hm', w'⟩ := hN _ _ hnx
        refine seg_at (seg_yield rfl rfl rfl ⟨ys, y, pl, H8, hn, r8, hp8, hgh, I8, hth, fun b hb => (hp.same hp8 b hb).trans (hs0 b hb), fun s'' pl' hsl hpl' hgh' => ?_⟩)
        refine seg_again rfl (ih m' hm' (i + 1) n (ys ++ [y]) s'' s'' H8 pl' (by rw [List.length_append, List.length_singleton]; omega) w' hpl' hgh' (woken hpn hap hp8 I8 hsl hpl')
          (T.keep _ _ _ st5 fun b hb o e => hsl.keep b o (hfp b hb).2.2.2.2.2 (hk8 b hb o e)) hf8 fun _ _ => rfl)

theorem seg_start (hA : A.deeper cenv = G.A) (hE : G.env = cenv) (hcalm : G.calm = true) (hxe : G.xe = fun _ _ => False) (hco : cenv.scope.isCoroutine = false)
    (T : Turn G.prog G.w G.K tg J fp it tn) (hg : PG G tg g) (ht : PTs G ifs tt) (he : PE G elt te)
    (hpn : ∀ p ∈ G.pn, p.1 ∉ C.Ss) (hap : ∀ b ∈ C.Ss, G.s_0.heap.objs.size ≤ b ∧ b ≠ G.env.locals ∧ ∀ x c, G.env.cells.lookup x = some c → c ≠ b)
    (hfp : ∀ b ∈ fp, b ≠ G.env.locals ∧ b ∉ G.fs ∧ (b ∈ G.ex ∨ G.s_0.heap.objs.size ≤ b) ∧ (∀ x c, G.env.cells.lookup x = some c → c ≠ b) ∧ (∀ p ∈ G.pn, p.1 ≠ b) ∧ b ∉ C.Ss)
    (tr : Turns J g tt te σ0 own C.Th C.Qe W) {m : Nat} {s₀ s : Shared} {H : Hp} {pl : Pins} (w : W 0 m [] H) (hp : PinsAt C.Ss pl s.heap) (hgh : C.Gh [] pl) (I : Inv G pl σ0 H s) (hst : tn 0 s.heap) (hfr : ∀ b ∈ fp, H b = none) (hs0 : ∀ b ∈ C.Ss, s.heap.get? b = s₀.heap.get? b) :
    Seg (model G.prog G.w) A (GR G C σ0) (GY G C σ0) sizeLine s₀ (.compStart (.GeneratorExp elt [⟨tg, iter, ifs, 0⟩] scope pos) 0 (.ref it) .none cenv)
      ((model G.prog G.w).den (.compStart (.GeneratorExp elt [⟨tg, iter, ifs, 0⟩] scope pos) 0 (.ref it) .none cenv)) [] s := by
  have loop := seg_loop (iter := iter) (scope := scope) (pos := pos) hA hE hcalm hxe hco T hg ht he hpn hap hfp tr m 0 sizeLine [] s₀ s H pl rfl w hp hgh I hst hfr hs0
  show Seg _ A _ _ _ s₀ _ ((compStart (.GeneratorExp elt [⟨tg, iter, ifs, 0⟩] scope pos) 0 (.ref it) .none cenv).onRaise (leaving cenv)) [] s
  unfold compStart
  rw [Sem.onRaise_eq_wrap]
  show Seg _ A _ _ _ s₀ _ ((ask >>= _).wrap _ _ _ _) [] s
  refine seg_bind_wrap (wpAny_askSetting ?_)
  split
  · exact seg_again rfl loop
  · first
      | exact seg_bind_wrap (wpAny_rule (seg_bind_wrap (wpAny_standAt (seg_bind_wrap (T.self _ 0 s _ _ hst (seg_again rfl loop))))))
      | (refine seg_bind_wrap (wpAny_rule ?_); show Seg _ A _ _ _ s₀ _ ((standAt iter.pos >>= _).wrap _ _ _ _) [] s; exact seg_bind_wrap (wpAny_standAt (seg_bind_wrap (T.self _ 0 s _ _ hst (seg_again rfl loop)))))
end
end GX
set_option Elab.async false
set_option linter.all false
set_option maxRecDepth 100000
set_option maxHeartbeats 4000000
namespace GX
open PySem PySem.Spec PyProof.Rows L2 GenW

section
variable {X : Cx} {pins : Pins} {σ : L2.St} {H : Hp} {sB : Shared} {N' : List Str} {cm : List (Option Nat)} {scope : Scope}
theorem gen_start (I : Inv X pins σ H sB) (ok : CapOk X.N N' cm scope X.env.scope) {code : Value} {fp : List Addr} (hfp : ∀ b ∈ fp, FpOk X pins H b ∧ b < sB.heap.objs.size)
    {A : Around} (hA : A.handled = none) (hfr : A.frames = some (genEnv scope (cloFrom X.env.cells scope.names []) sB.heap.objs.size code builtinsNs X.env :: X.stack))
    {s2 : Shared} {m0 : Str → Option Value} (hn : s2.heap.Ns sB.heap.objs.size m0) (hk : ∀ b o, sB.heap.get? b = some o → s2.heap.get? b = some o) (hos : s2.os = sB.os) (hb : AllBare s2.gens) {pn pl : Pins}
    (hp : ∀ p ∈ pn ++ pl, s2.heap.get? p.1 = some p.2 ∧ sB.heap.objs.size < p.1 ∧ ∀ v, p.2.data ≠ .cell v) :
    Inv (gcx X sB H N' (genEnv scope (cloFrom X.env.cells scope.names []) sB.heap.objs.size code builtinsNs X.env) fp A pn) pl (captS cm σ) H s2 := by
  have hfree : ∀ y ∈ scope.names, y.2 = .free → ∃ c, X.env.cells.lookup y.1 = some c := fun y hy e => by
    rcases ok.free y hy e with k | k
    · exact I.ok.has _ (.inl k)
    · exact I.ok.has _ (.inr k)
  have cm1 : ∀ {y c}, (cloFrom X.env.cells scope.names []).lookup y = some c → X.env.cells.lookup y = some c ∧ c < sB.heap.objs.size := fun {y c} hm => by
    rcases cloFrom_mem (PySem.mem_of_lookup hm) with hm | ⟨h1, rfl⟩
    · cases hm
    · obtain ⟨c, hc⟩ := hfree _ h1 rfl
      rw [hc]
      obtain ⟨w, z⟩ := I.cell _ _ hc
      exact ⟨rfl, z.lt⟩
  have look : ∀ {y}, scope.names.lookup y = some .free → ∃ c, (cloFrom X.env.cells scope.names []).lookup y = some c ∧ X.env.cells.lookup y = some c := fun {y} hl => by
    have hy : (y, NameKind.free) ∈ scope.names := PySem.mem_of_lookup hl
    obtain ⟨c', e'⟩ := mem_lookup (cloFrom_has (cells := X.env.cells) (acc := []) hy)
    exact ⟨c', e', (cm1 e').1⟩
  have nstk : ∀ b, sB.heap.objs.size ≤ b → b ∉ frs X.stack := fun b hb z => by
    rcases List.mem_cons.mp (I.stkSub b z) with z | z
    · exact absurd (Nat.lt_of_lt_of_le I.lt (by rw [← z]; exact hb)) (Nat.lt_irrefl _)
    · exact I.nofs hb z
  have okB : (gcx X sB H N' (genEnv scope (cloFrom X.env.cells scope.names []) sB.heap.objs.size code builtinsNs X.env) fp A pn).Ok := by
    refine ⟨I.ok.mod, ok.kind, I.ok.glob, rfl, Nat.le_refl _, fun y z c e1 e2 => I.ok.inj y z c (cm1 e1).1 (cm1 e2).1, fun y hy => ?_, fun y c z e => ?_, fun _ => hA, hfr, .inr ⟨rfl, rfl⟩, fun b hb => ⟨?_, fun y c e z => ?_⟩, I.bs, Nat.le_trans I.ok.bsz I.sz, fun b o e hb => ?_, fun b hb z => ?_, I.stack, I.stkFree⟩
    · rcases hy with hy | hy
      · exact absurd rfl (ok.cell _ (PySem.mem_of_lookup hy))
      · obtain ⟨c, h1, _⟩ := look hy
        exact ⟨c, h1⟩
    · exact absurd (show false = true from z) Bool.false_ne_true
    · exact Nat.ne_of_lt (hfp b hb).2
    · exact (hfp b hb).1.2.2.2.2.1 y c (cm1 e).1 z
    · rcases (hfp b hb).1.2.2.2.1 with z | z
      · exact I.ok.noex b o e z
      · exact absurd (Nat.lt_of_lt_of_le (Heap.lt_size e) (Nat.le_trans I.ok.bsz z)) (Nat.lt_irrefl _)
    · rcases List.mem_cons.mp (I.stkSub b z) with z | z
      · exact (hfp b hb).1.2.1 z
      · exact (hfp b hb).1.2.2.1 z
  refine ⟨okB, hos, hb, Un.kept hk, ⟨m0, hn, fun i y av e1 e2 e3 => ?_⟩, fun y c e => ?_, I.hok.fresh (Nat.le_refl _), fun y c e => I.freeC y c (cm1 e).1, fun p hm => ?_, I.hok.kept hk, by
    show (captS cm σ).length = N'.length
    unfold captS
    rw [List.length_map, ok.len]⟩
  · obtain ⟨j, hj, hs⟩ := captS_some e2
    obtain ⟨hy, hf⟩ := ok.capt hj e1
    obtain ⟨m, hn2, hl⟩ := I.loc
    have hvis : Vis X.env.scope y := (ok.free _ (PySem.mem_of_lookup hf) rfl).elim (fun k => .inr (.inl k)) (fun k => .inr (.inr k))
    obtain ⟨w, r, q⟩ := hl j y av hy hs hvis
    refine ⟨w, r, .inr ⟨.inr hf, ?_⟩⟩
    obtain ⟨c, h1, h2⟩ := look hf
    rcases q with ⟨k, _⟩ | ⟨_, c', e', z⟩
    · have k : X.env.scope.names.lookup y = some .local := k
      rcases ok.free _ (PySem.mem_of_lookup hf) rfl with k' | k' <;> rw [show X.env.scope.names.lookup y = _ from k'] at k <;> cases k
    · rw [h2] at e'; cases e'
      exact ⟨c, h1, z.keeps hk⟩
  · obtain ⟨w, z⟩ := I.cell y c (cm1 e).1
    exact ⟨w, z.keeps hk⟩
  · obtain ⟨h1, h2, h3⟩ := hp p hm
    exact ⟨h1, I.hok.fresh (Nat.le_of_lt h2), Nat.ne_of_gt h2, nstk _ (Nat.le_of_lt h2), h3⟩
end

/-- a code object's table, whatever it holds -/
def TabX (P : Addr) : HO := .ext fun h => ∃ ps : Array Value, h.get? P = some { cls := .none, data := .fields ps } ∧ TriplesOk ps.toList
theorem tabx_ok {prog : Program} {w : World} {H : Hp} {h : Heap} {P : Addr} {ps : Array Value} (e : h.get? P = some { cls := .none, data := .fields ps }) (t : TriplesOk ps.toList) : ObjOk prog w H h P (TabX P) :=
  ⟨⟨ps, e, t⟩, ⟨_, e⟩, fun h1 h2 ⟨qs, e1, t1⟩ k => ⟨qs, k _ e1, t1⟩⟩
theorem upd_id {H : Hp} {a : Addr} {o : HO} (h : H a = some o) : upd H a o = H := by
  funext b
  by_cases e : b = a
  · rw [e, upd_same, h]
  · rw [upd_ne e]
/-- a generator that has not begun -/
def RdG (X : Cx) (pins : Pins) (σ : L2.St) (k : Nat) (Th : List V → V → Hp → Prop) (Qe : List V → Hp → Prop) (u : Value) (s' : Shared) : Prop :=
  ∃ (a : Addr) (g : Nat) (c : Code) (go : Obj) (sB : Shared) (HB : Hp) (N' : List Str) (cenv : Env) (fp : List Addr) (σ0 : L2.St),
    u = .ref a ∧ Inv X pins σ HB sB ∧ ExOk X pins fp ∧ sB.heap.objs.size < a ∧ a < s'.heap.objs.size ∧ (∀ h : Heap, h.get? a = some go → h.IsGen a g) ∧ s'.heap.get? a = some go ∧ s'.gens[g]? = some (.fresh c) ∧ s'.os = sB.os ∧ AllBare s'.gens ∧ (∀ b o, sB.heap.get? b = some o → s'.heap.get? b = some o) ∧
    ∀ (A : Around) (s2 : Shared) (Ss : List Addr) (Gh : List V → Pins → Prop) (pl : Pins), Room (k + 1) A → A.frames = some X.stack → (∀ b ∈ Ss, s'.heap.objs.size ≤ b) → (∀ b o, s'.heap.get? b = some o → s2.heap.get? b = some o) → s2.os = sB.os → AllBare s2.gens → PinsAt Ss pl s2.heap → Gh [] pl →
      Seg (model X.prog X.w) A (GR (gcx X sB HB N' cenv fp (A.deeper cenv) [(a, go)]) ⟨Ss, Gh, Th, Qe⟩ σ0) (GY (gcx X sB HB N' cenv fp (A.deeper cenv) [(a, go)]) ⟨Ss, Gh, Th, Qe⟩ σ0) sizeLine s2 c ((model X.prog X.w).den c) [] s2
abbrev TGx := L2.St → Hp → (List V → V → Hp → Prop) → (List V → Hp → Prop) → Prop
structure PGx (X : Cx) (k : Nat) (e : Expr) (t : TGx) : Prop where
  run : ∀ (pins : Pins) (s : Shared) (σ : L2.St) (H : Hp) (Th : List V → V → Hp → Prop) (Qe : List V → Hp → Prop), Inv X pins σ H s → t σ H Th Qe → wpAny (model X.prog X.w) X.A (eval e X.env) (RdG X pins σ k Th Qe) X.xe s
/-- the reading of a generator expression -/
def tGx (P : Addr) (wi : TI) (g : TG) (tt : TT) (te : TE) (cm : List (Option Nat)) (own : List Nat) : TGx := fun σ H Th Qe => wi σ H fun J H1 => H1 P = some (TabX P) ∧
  ∃ W : Nat → Nat → List V → Hp → Prop, (∃ m, W 0 m [] H1) ∧ Turns J g tt te (captS cm σ) own Th Qe W

theorem pgx_gen {X : Cx} {c P : Addr} {elt iter tg : Expr} {ifs : List Expr} {scope : Scope} {gpos : Pos} {N' : List Str} {cm : List (Option Nat)} {own : List Nat} {wi : TI} {g : TG} {tt : TT} {te : TE} {k k0 : Nat}
    (hr : Room k0 X.A) (TB : GxR.TabB X.base X.mg c P) (hcode : X.env.code = .ref c) (ok : CapOk X.N N' cm scope X.env.scope) (hi : PI X tg iter wi)
    (hg : ∀ (sB : Shared) (HB : Hp) (cl : List (Str × Addr)) (L : Addr) (code : Value) (fp : List Addr) (A : Around) (pn : Pins), Room k A → PG (gcx X sB HB N' (genEnv scope cl L code builtinsNs X.env) fp A pn) tg g)
    (ht : ∀ (sB : Shared) (HB : Hp) (cl : List (Str × Addr)) (L : Addr) (code : Value) (fp : List Addr) (A : Around) (pn : Pins), Room k A → PTs (gcx X sB HB N' (genEnv scope cl L code builtinsNs X.env) fp A pn) ifs tt)
    (he : ∀ (sB : Shared) (HB : Hp) (cl : List (Str × Addr)) (L : Addr) (code : Value) (fp : List Addr) (A : Around) (pn : Pins), Room k A → PE (gcx X sB HB N' (genEnv scope cl L code builtinsNs X.env) fp A pn) elt te)
    (hs : ∀ v, genFold iter X.env v = pure v := by intro _; rfl) : PGx X k (.GeneratorExp elt [⟨tg, iter, ifs, 0⟩] scope gpos) (tGx P wi g tt te cm own) := by
  refine ⟨fun pins s σ H Th Qe I h => ?_⟩
  have hfree : ∀ y ∈ scope.names, y.2 = .free → ∃ c, X.env.cells.lookup y.1 = some c := fun y hy e => by
    rcases ok.free y hy e with k | k
    · exact I.ok.has _ (.inl k)
    · exact I.ok.has _ (.inr k)
  refine wpAny_GeneratorExp_make ok.co (closure_ok hfree) ok.cell ok.dot ok.kind (by have := hr.dp; omega) ?_ hs
  refine thn (hi.run pins s σ H _ I h) fun xv s1 h1 => thn h1 fun itv s2 h2 => ?_
  obtain ⟨it, fp, tn, J, H2, rfl, I2, T, st2, f2, hP, W, ⟨m0, w0⟩, tr⟩ := h2
  obtain ⟨⟨ps, hPs, ht3⟩, _, _⟩ := I2.hok P _ hP
  have cd : PySem.W.CodeHd s2.heap c P := TB.code.keeps fun b u e => I2.bk b u e
  have fpP : ∀ b ∈ fp, b ≠ P := fun b hb z => by
    have q := (f2 b hb).1
    rw [z, hP] at q; cases q
  have fplt : ∀ b ∈ fp, b < s2.heap.objs.size := fun b hb => let ⟨o, e, _⟩ := T.obj _ _ st2 b hb; Heap.lt_size e
  have cont : ∀ (code : Value) (h3 : Heap) (tk : Nat) (ps' : Array Value), Heap.ExtBut P s2.heap h3 → s2.heap.objs.size ≤ h3.objs.size → h3.get? P = some { cls := .none, data := .fields ps' } → (∃ more, ps' = ps ++ more) → TriplesOk ps'.toList →
      wpAny (model X.prog X.w) X.A (builtinsFor X.env.globals X.env.builtins) (fun bi s₄ =>
        ∀ h', h'.Ns s₄.heap.objs.size (fun y => if y = ".0" then some (.ref it) else none) → Heap.SameBut s₄.heap.objs.size (s₄.heap.push { cls := .type "frame", data := .dict #[] }) h' →
          RdG X pins σ k Th Qe (.ref h'.objs.size) { s₄ with
            gens := s₄.gens.push (.fresh (.compStart (.GeneratorExp elt [⟨tg, iter, ifs, 0⟩] scope gpos) 0 (.ref it) .none (genEnv scope (cloFrom X.env.cells scope.names []) s₄.heap.objs.size code bi X.env))),
            toks := s₄.toks + 1 + 1 + 1,
            heap := h'.push { cls := .type "generator", data := .fields #[.int s₄.gens.size 0, .str "<genexpr>" (s₄.toks + 1), .str (X.env.qual ++ "<genexpr>") (s₄.toks + 1 + 1)] } }) X.xe { s2 with heap := h3, toks := tk } := by
    intro code h3 tk ps' hx hsz hP3 hmore ht4
    obtain ⟨bm, ob, e1, e2, e3, e4, e5, e6, e7, e8⟩ := TB.bm
    refine wpAny_builtinsFor (m := X.mg) (by rw [I2.ok.glob]; exact (I2.mod.glob.keeps I2.bk).extBut hx TB.gP) e1 e2 (hx _ _ e4 (I2.bk _ _ e5)) e6 e7 e8 ?_
    intro h' hn' hs'
    obtain ⟨more, em⟩ := hmore
    subst em
    have J3 : Inv X pins σ H2 { s2 with heap := h3, toks := tk } := by
      have q := I2.write (x := P) (e := P) (o := TabX P) (h' := h3) (t' := tk) (by rw [hP]; trivial) (.inl rfl) (fun b u hb hu => hx b u hb hu) ⟨_, hP3⟩ (tabx_ok hP3 ht4)
      rw [upd_id hP] at q
      exact q
    generalize hgo : ({ cls := .type "generator", data := .fields #[.int s2.gens.size 0, .str "<genexpr>" (tk + 1), .str (X.env.qual ++ "<genexpr>") (tk + 1 + 1)] } : Obj) = go
    have hsz' : h'.objs.size = h3.objs.size + 1 := by
      have q := hs'.1
      rw [q, Heap.size_push]
    have keep' : ∀ b o, h3.get? b = some o → h'.get? b = some o := fun b o e => hs'.extBut b o (Nat.ne_of_lt (Heap.lt_size e)) (Heap.get?_push_of_some _ e)
    have goat : (h'.push go).get? h'.objs.size = some go := by
      subst hgo
      exact Heap.get?_push_size _ rfl
    have fp3 := f2
    refine ⟨h'.objs.size, s2.gens.size, _, go, { s2 with heap := h3, toks := tk }, H2, N', genEnv scope (cloFrom X.env.cells scope.names []) h3.objs.size code builtinsNs X.env, fp, captS cm σ, rfl, J3, fun b hb => ⟨(f2 b hb).2.2.2.1, (f2 b hb).2.1, (f2 b hb).2.2.2.2.1, (f2 b hb).2.2.2.2.2⟩, ?_, ?_, fun h e => ?_, goat, Array.getElem?_push_size .., rfl, ?_, fun b o e => ?_, fun A s2' Ss Gh pl hrA hfr hSs hk2 hos2 hb2 hpl hgh => ?_⟩
    · show h3.objs.size < h'.objs.size
      omega
    · show h'.objs.size < (h'.push _).objs.size
      rw [Heap.size_push]; exact Nat.lt_succ_self _
    · subst hgo
      exact ⟨_, _, _, e, rfl, rfl, rfl⟩
    · exact AllBare.push I2.bare rfl
    · exact Heap.get?_push_of_some _ (keep' b o e)
    · have keep2 : ∀ b o, h3.get? b = some o → s2'.heap.get? b = some o := fun b o e => hk2 b o (Heap.get?_push_of_some _ (keep' b o e))
      have hpins : ∀ p ∈ [(h'.objs.size, go)] ++ pl, s2'.heap.get? p.1 = some p.2 ∧ h3.objs.size < p.1 ∧ ∀ v, p.2.data ≠ .cell v := fun p hp => by
        rcases List.mem_append.mp hp with hp | hp
        · rw [List.mem_singleton.mp hp]
          refine ⟨hk2 h'.objs.size go ?_, by show h3.objs.size < h'.objs.size; omega, fun v q => by subst hgo; cases q⟩
          exact goat
        · have hS : p.1 ∈ Ss := by rw [← hpl.ad]; exact List.mem_map.mpr ⟨p, hp, rfl⟩
          have q := hSs _ hS
          have q2 : (h'.push go).objs.size ≤ p.1 := by subst hgo; exact q
          rw [Heap.size_push] at q2
          refine ⟨(hpl.at_ p hp).1, ?_, (hpl.at_ p hp).2⟩
          have q3 : h'.objs.size < p.1 := Nat.lt_of_succ_le q2
          rw [hsz'] at q3
          exact Nat.lt_of_succ_lt q3
      have IG := gen_start (code := code) (cm := cm) (N' := N') (fp := fp) J3 ok (fun b hb => ⟨fp3 b hb, Nat.lt_of_lt_of_le (fplt b hb) hsz⟩) (A := A.deeper (genEnv scope (cloFrom X.env.cells scope.names []) h3.objs.size code builtinsNs X.env)) hrA.hd
        (by show A.frames.map _ = _; rw [hfr]; rfl) (s2 := s2') (m0 := fun y => if y = ".0" then some (.ref it) else none) ((hn'.push _).keeps hk2) keep2 hos2 hb2 hpins
      have hSlt : ∀ b ∈ Ss, h'.objs.size < b := fun b hb => by
        have q := hSs b hb
        have q2 : (h'.push go).objs.size ≤ b := by subst hgo; exact q
        rw [Heap.size_push] at q2
        exact Nat.lt_of_succ_le q2
      have hrD := hrA.deeper (genEnv scope (cloFrom X.env.cells scope.names []) h3.objs.size code builtinsNs X.env)
      have cmL : ∀ {y c}, (cloFrom X.env.cells scope.names []).lookup y = some c → X.env.cells.lookup y = some c := fun {y c} hm => by
        rcases cloFrom_mem (PySem.mem_of_lookup hm) with hm | ⟨h1, rfl⟩
        · cases hm
        · obtain ⟨c, hc⟩ := hfree _ h1 rfl
          rw [hc] <;> rfl
      refine seg_start (G := gcx X { s2 with heap := h3, toks := tk } H2 N' (genEnv scope (cloFrom X.env.cells scope.names []) h3.objs.size code builtinsNs X.env) fp (A.deeper (genEnv scope (cloFrom X.env.cells scope.names []) h3.objs.size code builtinsNs X.env)) [(h'.objs.size, go)]) (C := ⟨Ss, Gh, Th, Qe⟩) (own := own) (W := W) rfl rfl rfl rfl ok.co T (hg _ _ _ _ _ _ _ _ hrD) (ht _ _ _ _ _ _ _ _ hrD) (he _ _ _ _ _ _ _ _ hrD) (fun p hp z => ?_) (fun b hb => ⟨?_, ?_, fun x c e z => ?_⟩) (fun b hb => ⟨?_, ?_, .inl hb, fun x c e => ?_, fun p hp => ?_, fun z => ?_⟩) tr w0 hpl hgh IG (T.keep _ _ _ st2 fun b hb o e => ?_) (fun b hb => (fp3 b hb).1) (fun _ _ => rfl)
      · rw [List.mem_singleton.mp hp] at z
        exact Nat.lt_irrefl _ (hSlt _ z)
      · exact Nat.le_of_lt (Nat.lt_of_le_of_lt (by omega : h3.objs.size ≤ h'.objs.size) (hSlt b hb))
      · exact Nat.ne_of_gt (Nat.lt_of_le_of_lt (by omega : h3.objs.size ≤ h'.objs.size) (hSlt b hb))
      · obtain ⟨w, q⟩ := I2.cell x c (cmL e)
        have q1 := q.lt
        rw [z] at q1
        exact Nat.lt_irrefl _ (Nat.lt_trans (Nat.lt_of_lt_of_le q1 hsz) (Nat.lt_of_le_of_lt (by omega : h3.objs.size ≤ h'.objs.size) (hSlt b hb)))
      · exact Nat.ne_of_lt (Nat.lt_of_lt_of_le (fplt b hb) hsz)
      · intro z
        rcases List.mem_cons.mp (J3.stkSub b z) with z | z
        · exact (fp3 b hb).2.1 z
        · exact (fp3 b hb).2.2.1 z
      · exact (f2 b hb).2.2.2.2.1 x c (cmL e)
      · rw [List.mem_singleton.mp hp]
        exact Nat.ne_of_gt (Nat.lt_of_lt_of_le (fplt b hb) (by omega : s2.heap.objs.size ≤ h'.objs.size))
      · exact Nat.lt_irrefl _ (Nat.lt_trans (Nat.lt_of_lt_of_le (fplt b hb) (by omega : s2.heap.objs.size ≤ h'.objs.size)) (hSlt b z))
      · exact keep2 b o (hx b o (fpP b hb) e)
  refine ⟨I2.nolimit, ?_⟩
  cases hf : codeAmong gpos ps.toList with
  | none =>
    refine wpAny_genexprCodeX hcode (cd.code hPs ht3) (cd.tab hPs) hf fun c' h' tk hx hge hlt hco' _ htab' _ => ?_
    obtain ⟨o1, vs, f1, tf, fl, tg, inF, tx, tt, op, _, _, _, _, _, _, _, _, _, htr, _⟩ := hco'
    exact cont _ h' tk _ hx (Nat.le_trans hge (Nat.le_of_lt hlt)) htab'.2 ⟨_, rfl⟩ htr
  | some cv =>
    refine wpAny_genexprCode_hit hcode (cd.code hPs ht3) hf ?_
    exact cont cv s2.heap s2.toks ps (Heap.ExtBut.refl _ _) (Nat.le_refl _) hPs ⟨#[], by simp⟩ ht3
end GX
set_option Elab.async false
set_option linter.all false
set_option maxRecDepth 100000
set_option maxHeartbeats 4000000
namespace GX
open PySem PySem.Spec PyProof.Rows L2 GenW

/-- the generator g sleeps (or has not begun), n items at most are to come -/
def Susp (G : Cx) (C : Cons) (σ0 : L2.St) (A : Around) (g n : Nat) (s : Shared) : Prop :=
  ∃ gs, s.gens[g]? = some gs ∧ gs.Goes (model G.prog G.w) A.in1 (GR G C σ0) (GY G C σ0) n (.send .none) (s.setGen g .running)

section
variable {G : Cx} {C : Cons} {σ0 : L2.St} {A : Around} {a : Addr} {g n : Nat} {go : Obj} {s : Shared} {E : Value → Shared → Prop} {Q : Option Value → Shared → Prop}
theorem gx_next (hh : A.handled = none) (hd : A.depth < recursionLimit) (hl : s.heap.NoLimit) (hg : s.heap.IsGen a g) (hS : Susp G C σ0 A g n s)
    (hY : ∀ ys x v pl H s1, n - 1 + 1 + ys.length = sizeLine → RelV x v → PinsAt C.Ss pl s1.heap → C.Gh ys pl → Inv G pl σ0 H s1 → C.Th ys x H → (∀ b ∈ C.Ss, s1.heap.get? b = s.heap.get? b) →
      (∀ s' pl', Sleeps C.Ss s1 s' → s'.gens = s1.gens → PinsAt C.Ss pl' s'.heap → C.Gh (ys ++ [x]) pl' → ∃ m, n = m + 1 ∧ Susp G C σ0 A g m s') → Q (some v) s1)
    (hP : ∀ s1, GP G C σ0 s s1 → Q none s1) : wpAny (model G.prog G.w) A (pyNext (.ref a)) Q E s := by
  obtain ⟨gs, hgs, hgo⟩ := hS
  have hgl : g < s.gens.size := (Array.getElem?_eq_some_iff.mp hgs).1
  refine wpAny_gsz (n := g + 1) hgl ?_
  refine wpAny_pyNext_genexpQ (P := fun n s₀ s₁ => GP G C σ0 s₀ s₁) hh hl hd hg hgs hgo (fun v s₁ gs' hbare hv hsz => ?_) (fun s₁ hp h' hk hsz => ?_)
  · obtain ⟨ys, x, pl, H, h1, h2, h3, h4, h5, h6, h8, h7⟩ := hv
    have hsz1 : g < s₁.gens.size := by
      have q : (s₁.setGen g gs').gens.size = s₁.gens.size := setGen_size _ _ _
      have hsz' : g + 1 ≤ (s₁.setGen g gs').gens.size := hsz
      omega
    refine hY ys x v pl H _ h1 h2 h3 h4 (inv_gens h5 hbare) h6 h8 fun s' pl' hsl hge hpl' hgh' => ?_
    have hsl2 : Sleeps C.Ss s₁ (s'.setGen g .running) := ⟨hsl.os, allBare_setGen hsl.bare rfl, hsl.keep⟩
    have q := h7 (s'.setGen g .running) pl' hsl2 hpl' hgh'
    cases n with
    | zero => exact False.elim q
    | succ m =>
      refine ⟨m, rfl, gs', ?_, q⟩
      rw [hge]
      exact setGen_at hsz1
  · obtain ⟨ys, pl, H, h1, h2, h3, h4, h5, h6⟩ := hp
    have hp2 : PinsAt C.Ss pl h' := ⟨h2.ad, fun p hp => ⟨hk _ _ (h2.at_ p hp).1, (h2.at_ p hp).2⟩⟩
    have I1 := inv_gens (g := g) (x := .finished) h4 rfl
    exact hP _ ⟨ys, pl, H, h1, hp2, h3, I1.kept (t' := s₁.toks) hk, h5, fun b hb => (h2.same hp2 b hb).trans (h6 b hb)⟩
end

/-- a generator just made, now drained: at its first resumption -/
theorem susp_of {X : Cx} {A : Around} {C : Cons} {sB : Shared} {HB : Hp} {N' : List Str} {cenv : Env} {fp : List Addr} {σ0 : L2.St} {a g : Nat} {go : Obj} {c : Code} {s2 : Shared} (hgs : s2.gens[g]? = some (.fresh c))
    (h : Seg (model X.prog X.w) A.in1 (GR (gcx X sB HB N' cenv fp (A.in1.deeper cenv) [(a, go)]) C σ0) (GY (gcx X sB HB N' cenv fp (A.in1.deeper cenv) [(a, go)]) C σ0) sizeLine (s2.setGen g .running) c ((model X.prog X.w).den c) [] (s2.setGen g .running)) :
    Susp (gcx X sB HB N' cenv fp (A.in1.deeper cenv) [(a, go)]) C σ0 A g sizeLine s2 := ⟨_, hgs, rfl, h⟩

section
variable {X : Cx} {pins : Pins} {σ : L2.St} {HB H : Hp} {sB s' : Shared} {N' : List Str} {cenv : Env} {fp : List Addr} {σ0 : L2.St} {A : Around} {pn pl : Pins}
/-- back outside -/
theorem inv_back (I : Inv X pins σ HB sB) (hex : ExOk X pins fp) (J : Inv (gcx X sB HB N' cenv fp A pn) pl σ0 H s') : Inv X pins σ H s' :=
  I.call' (ch := fp) J.os J.base J.hok J.bare hex
end

/-! ### list.extend's loop -/
def GhL (S : Addr) : List V → Pins → Prop := fun ys pl => ∃ (acc : Array Value) (c : Nat), pl = [(S, lstObj acc c)] ∧ Vals ys acc.toList
theorem ghl_at {S : Addr} {ys : List V} {pl : Pins} {h : Heap} (g : GhL S ys pl) (p : PinsAt [S] pl h) : ∃ (acc : Array Value) (c : Nat), h.get? S = some (lstObj acc c) ∧ Vals ys acc.toList := by
  obtain ⟨acc, c, rfl, r⟩ := g
  exact ⟨acc, c, (p.at_ _ (List.mem_singleton.mpr rfl)).1, r⟩
theorem drainL {G : Cx} {Th : List V → V → Hp → Prop} {Qe : List V → Hp → Prop} {σ0 : L2.St} {A : Around} {a S : Addr} {g : Nat} {go : Obj} {res : Value} {R : Result → Shared → Prop} (hh : A.handled = none) (hd : A.depth < recursionLimit) (hpa : (a, go) ∈ G.pn) (hgo : ∀ h : Heap, h.get? a = some go → h.IsGen a g)
    (hSa : S ≠ a) (hSc : S ≠ cStatics)
    (hend : ∀ s' ys acc c pl H, ys.length ≤ sizeLine → s'.heap.get? S = some (lstObj acc c) → Vals ys acc.toList → Inv G pl σ0 H s' → H S = none → Qe ys H → R (.ok (.ret res)) s') :
    ∀ (n : Nat) (s : Shared), s.heap.NoLimit → s.heap.IsGen a g → Susp G ⟨[S], GhL S, Th, Qe⟩ σ0 A.in1 g n s → codeAny (model G.prog G.w) A (.builtin "list.extend.loop" ⟨[.ref S, .ref a, res], []⟩) R s := by
  intro n
  induction n using Nat.strongRecOn with
  | ind n ih =>
    intro s hl hg hS
    refine codeAny_builtin F.entry_extend_loop ?_
    rw [Around.under_plainId F.plain_extend_loop _]
    show wpAny _ A.in1 (pyNext (.ref a) >>= _) _ _ s
    refine wpAny_bind (gx_next (A := A.in1) hh hd hl hg hS (fun ys x v pl H s1 h1 h2 h3 h4 h5 h6 _ h7 => ?_) fun s1 hp => ?_)
    · obtain ⟨acc, c, hS1, hv⟩ := ghl_at h4 h3
      have hlen : acc.toList.length = ys.length := hv.length.symm
      have hacc : acc.size < sizeLine := by
        have e : acc.toList.length = acc.size := by simp
        omega
      show wpAny _ A.in1 (updateSeq S (·.push v) >>= _) _ _ _
      refine wpAny_bind ?_
      refine wpAny_updateSeq hS1 rfl (wpAny_pure ⟨plainId_quiet F.plain_extend_loop _, ?_⟩) (Nat.le_of_lt hacc) (by show (acc.push v).size ≤ sizeLine + 1; rw [Array.size_push]; omega)
      have keep3 : ∀ b o, b ≠ S → s1.heap.get? b = some o → (s1.heap.update S (Obj.mapSeq (·.push v))).get? b = some o := fun b o hbS e => (Heap.get?_update_other _ _ (Ne.symm hbS)).trans e
      have hSn : ∃ c', (s1.heap.update S (Obj.mapSeq (·.push v))).get? S = some (lstObj (acc.push v) c') := ⟨_, Heap.get?_update_self _ hS1 rfl⟩
      obtain ⟨c', hSn⟩ := hSn
      obtain ⟨m, hm, hS2⟩ := h7 { s1 with heap := s1.heap.update S (Obj.mapSeq (·.push v)) } [(S, lstObj (acc.push v) c')] ⟨rfl, h5.bare, fun b o hb e => keep3 b o (fun z => hb (by rw [z]; exact List.mem_singleton.mpr rfl)) e⟩ rfl
        ⟨rfl, fun p hp => by rw [List.mem_singleton.mp hp]; exact ⟨hSn, fun v q => by cases q⟩⟩ ⟨_, _, rfl, by rw [Array.toList_push]; exact hv.append (.cons h2 .nil)⟩
      refine ih m (by omega) _ ?_ ?_ hS2
      · obtain ⟨mc, hns, hnn⟩ := h5.nolimit
        exact ⟨mc, hns.at' fun o e => keep3 _ o (Ne.symm hSc) e, hnn⟩
      · exact hgo _ (keep3 a go (Ne.symm hSa) (h5.pin (a, go) (List.mem_append_left _ hpa)).1)
    · obtain ⟨ys, pl, H, q1, q2, q3, q4, q5, _⟩ := hp
      obtain ⟨acc, c, hS1, hv⟩ := ghl_at q3 q2
      have hn : H S = none := by
        obtain ⟨acc', c', e, _⟩ := q3
        exact (q4.pin (S, lstObj acc' c') (List.mem_append_right _ (by rw [e]; exact List.mem_singleton.mpr rfl))).2.1
      exact wpAny_pure (hend _ ys acc c pl H q1 hS1 hv q4 hn q5)

/-- collect(g): the items in a list at S, untracked -/
theorem collect_gx {X : Cx} {pins : Pins} {σ : L2.St} {k : Nat} {Th : List V → V → Hp → Prop} {Qe : List V → Hp → Prop} {u : Value} {s : Shared} {A : Around} {Q : List Value → Shared → Prop} {E : Value → Shared → Prop} (hr : Room (k + 4) A) (hfr : A.frames = some X.stack)
    (hTh : ∀ ys x H, Th ys x H) (h : RdG X pins σ k Th Qe u s) (hQ : ∀ s' its ys H, ys.length ≤ sizeLine → Vals ys its → Inv X pins σ H s' → Qe ys H → Q its s') : wpAny (model X.prog X.w) A (collect u) Q E s := by
  obtain ⟨a, g, c, go, sB, HB, N', cenv, fp, σ0, rfl, I, hex, ha1, ha2, hgo, hat, hgs, hos, hb, hkp, run⟩ := h
  have hsB : sB.heap.NoLimit := I.nolimit
  have hcl : cStatics < sB.heap.objs.size := let ⟨_, hn, _⟩ := hsB; hn.lt
  have hlim : s.heap.NoLimit := hsB.keeps hkp
  have hSa : s.heap.objs.size ≠ a := Nat.ne_of_gt ha2
  have hSc : s.heap.objs.size ≠ cStatics := Nat.ne_of_gt (Nat.lt_trans hcl (Nat.lt_trans ha1 ha2))
  unfold collect
  refine wpAny_bind (wpAny_runValue (codeAny_builtin F.entry_proto_collect ?_))
  rw [Around.under_plainId F.plain_proto_collect _]
  show wpAny _ A.in1 (newList [] >>= fun l => again (.builtin "list.__iadd__" ⟨[l, .ref a], []⟩)) _ _ s
  refine wpAny_bind (wpAny_newObj_type ?_)
  refine wpAny_pure ⟨plainId_quiet F.plain_list_iadd _, codeAny_builtin F.entry_list_iadd ?_⟩
  rw [Around.under_plainId F.plain_list_iadd _]
  have hS₁ : (s.heap.push { cls := .type "list", data := .seq ([] : List Value).toArray }).get? s.heap.objs.size = some { cls := .type "list", data := .seq ([] : List Value).toArray } := Heap.get?_push_size _ rfl
  have k1 : ∀ b o, s.heap.get? b = some o → (s.heap.push { cls := .type "list", data := .seq ([] : List Value).toArray }).get? b = some o := fun b o e => Heap.get?_push_of_some _ e
  have gty : (s.heap.push { cls := .type "list", data := .seq ([] : List Value).toArray }).IsGen a g := hgo _ (k1 _ _ hat)
  show wpAny _ A.in1 (Builtin.List.listExtendWith (.ref s.heap.objs.size) (.ref a) (.ref s.heap.objs.size)) _ _ _
  unfold Builtin.List.listExtendWith
  refine wpAny_bind (wpAny_typeOf (Heap.IsGen.typeIs (s := { s with heap := _ }) gty) ?_)
  have h1 : Builtin.List.listSameRef (.ref s.heap.objs.size) (.ref a) = false := by simp [Builtin.List.listSameRef, hSa]
  have h2 : (Value.type "generator" == Value.type "list") = false := by decide
  have h3 : (Value.type "generator" == Value.type "tuple") = false := by decide
  simp only [h1, h2, h3, Bool.or_false, Bool.false_eq_true, if_false]
  refine wpAny_bind (wpAny_pyIter_gen (s := { s with heap := _ }) gty ?_)
  refine wpAny_bind (wpAny_holding ?_)
  unfold Builtin.List.listLengthHint
  refine wpAny_bind (wpAny_specialOf (Heap.IsGen.typeIs (s := { s with heap := _ }) gty) F.gen_no_len ?_)
  show wpAny _ A.in1 (specialOf (Value.ref a) (Str.ofString "__length_hint__") >>= _) _ _ _
  refine wpAny_bind (wpAny_specialOf (Heap.IsGen.typeIs (s := { s with heap := _ }) gty) F.gen_no_hint ?_)
  refine wpAny_pure ?_
  show wpAny _ A.in1 (rule "list.extend.makes-room" >>= fun _ => Builtin.List.listTouch (.ref s.heap.objs.size) >>= fun _ =>
    again (.builtin "list.extend.loop" ⟨[.ref s.heap.objs.size, .ref a, .ref s.heap.objs.size], []⟩)) _ _ _
  refine wpAny_bind (wpAny_rule ?_)
  refine wpAny_bind ?_
  show wpAny _ A.in1 (updateSeq s.heap.objs.size (·.push .none) >>= fun _ => updateSeq s.heap.objs.size (·.pop)) _ _ _
  refine wpAny_bind (wpAny_updateSeq hS₁ rfl ?_)
  have hS3 := Heap.get?_update_self (Obj.mapSeq (·.push Value.none)) hS₁ rfl
  refine wpAny_updateSeq (hz := by seq_fits) hS3 rfl ?_
  have hS4 := Heap.get?_update_self (Obj.mapSeq (·.pop)) hS3 rfl
  have up : ∀ (h : Heap) (f : Obj → Obj), (∀ b o, s.heap.get? b = some o → h.get? b = some o) → ∀ b o, s.heap.get? b = some o → (h.update s.heap.objs.size f).get? b = some o := fun h f q b o e =>
    (Heap.get?_update_other _ _ (Ne.symm (Nat.ne_of_lt (Heap.lt_size e)))).trans (q b o e)
  have k4 := up _ (Obj.mapSeq (·.pop)) (up _ (Obj.mapSeq (·.push Value.none)) k1)
  refine wpAny_pure ⟨plainId_quiet F.plain_extend_loop _, ?_⟩
  have hroom : Room (k + 1) A.in1.in1 := ⟨hr.hd, by have := hr.dp; show A.depth + 3 * (k + 1) + 5 < _; omega, by have := hr.un; show A.units + 1 + 1 + 16 * (k + 1) + 200 < _; omega⟩
  refine drainL (G := gcx X sB HB N' cenv fp (A.in1.in1.deeper cenv) [(a, go)]) (Th := Th) (Qe := Qe) (σ0 := σ0) (go := go) hr.hd (by have := hr.dp; show A.depth < _; omega) (List.mem_singleton.mpr rfl) hgo hSa hSc
    (fun s' ys acc c pl H q1 q2 q3 q4 q5 q6 => ?_) sizeLine _ (hlim.keeps k4) (hgo _ (k4 _ _ hat)) (susp_of hgs (run A.in1.in1 _ [s.heap.objs.size] (GhL s.heap.objs.size) _ hroom hfr (fun b hb => by rw [List.mem_singleton.mp hb]; exact Nat.le_refl _) k4 hos (allBare_setGen (s := { s with heap := _ }) hb rfl)
      ⟨rfl, fun p hp => by rw [List.mem_singleton.mp hp]; exact ⟨hS4, fun v q => by cases q⟩⟩ ⟨#[], _, rfl, .nil⟩))
  show wpAny _ A (load s.heap.objs.size >>= _) _ _ s'
  refine wpAny_bind (wpAny_load q2 ?_)
  exact wpAny_pure (hQ s' acc.toList ys H q1 q3 (inv_back I hex q4) q6)
end GX
set_option Elab.async false
set_option linter.all false
set_option maxRecDepth 100000
set_option maxHeartbeats 4000000
namespace GX
open PySem PySem.Spec PyProof.Rows L2 GenW

theorem boot_sorted' : bootBuiltins "sorted" = some (.builtin "sorted") := by decide +kernel
theorem boot_sum' : bootBuiltins "sum" = some (.builtin "sum") := by decide +kernel
theorem boot_any' : bootBuiltins "any" = some (.builtin "any") := by decide +kernel
theorem boot_all' : bootBuiltins "all" = some (.builtin "all") := by decide +kernel

section
variable {X : Cx} {pins : Pins} {σ : L2.St} {H : Hp} {s : Shared}
theorem inv_A (I : Inv X pins σ H s) {A' : Around} (h1 : A'.handled = X.A.handled) (h2 : A'.frames = X.A.frames) : Inv { X with A := A' } pins σ H s :=
  ⟨⟨I.ok.mod, I.ok.kind, I.ok.glob, I.ok.blt, I.ok.above, I.ok.inj, I.ok.has, I.ok.cab, fun c => h1.trans (I.ok.hd c), h2.trans I.ok.frames, I.ok.stk, I.ok.exf, I.ok.bs, I.ok.bsz, I.ok.noex, I.ok.exfs, I.ok.funs, I.ok.frf⟩, I.os, I.bare, I.base, I.loc, I.cell, I.free, I.freeC, I.pin, I.hok, I.len⟩
theorem inv_A' {A' : Around} (I : Inv { X with A := A' } pins σ H s) (h1 : X.A.handled = A'.handled) (h2 : X.A.frames = A'.frames) : Inv X pins σ H s := inv_A (X := { X with A := A' }) I h1 h2
end

section
variable {X : Cx} {p pos : Pos} {e : Expr} {tg : TGx} {k : Nat}
/-- sorted(g): r is list.sort's rule -/
def tSortedG (tg : TGx) (r : V → List V → Hp → VK → Prop) : TE := fun σ H Q => tg σ H (fun _ _ _ => True) fun ys H1 => ∀ l, H1 l = none → r (.ref l) [] (upd H1 l (.lst ys)) fun _ H2 => Q (.ref l) H2
theorem pe_sortedG {r : V → List V → Hp → VK → Prop} (h : PGx X k e tg) (hs : ∀ A', MtR { X with A := A' } "list.sort" r) (hr : Room (k + 5) X.A) (hg : Gl X "sorted") (hm : X.mg "sorted" = none)
    (he : starEach [e] X.env = (false, eval e X.env) :: starEach [] X.env := by rfl) : PE X (.Call (.Name "sorted" p) [e] [] pos) (tSortedG tg r) := by
  refine ⟨fun pins s σ H Q I hq => ?_⟩
  refine wpAny_Call_Name_kw (ld_blt I hg hm boot_sorted' ?_)
  refine PyProof.Rows.callWith_builtin1 ?_ he (by rfl)
  rw [he]
  show wpAny _ _ (spliced ((false, eval e X.env) :: backTo pos (starEach [] X.env))) _ _ s
  refine Calls.spliced_cons (thn (h.run pins s σ H _ _ I hq) fun u s1 hG => ?_)
  refine Calls.spliced_nil ?_
  refine Calls.call_function_entry kind_sorted plain_sorted entry_sorted (args_sorted1 _) ?_
  unfold Builtin.«sorted»
  refine wpAny_bind (m := checkCount "sorted" 1 1 _) (wpAny_pure ?_)
  have hr1 : Room (k + 4) X.A.in1 := ⟨hr.hd, by have := hr.dp; show X.A.depth + 3 * (k + 4) + 5 < _; omega, by have := hr.un; show X.A.units + 1 + 16 * (k + 4) + 200 < _; omega⟩
  refine wpAny_bind (collect_gx (pins := pins) (σ := σ) hr1 I.ok.frames (fun _ _ _ => trivial) hG fun s' its ys H1 hlen hv I1 hq1 => ?_)
  have hil : its.length ≤ sizeLine := by rw [← hv.length]; exact hlen
  refine wpAny_bind (wpAny_newList ?_ hil)
  have fresh : H1 s'.heap.objs.size = none := I1.hok.fresh (Nat.le_refl _)
  have I2 : Inv X pins σ (upd H1 s'.heap.objs.size (.lst ys)) { s' with heap := s'.heap.push (seqObj "list" its.toArray 0) } :=
    I1.laid (t' := s'.toks) (fun _ _ e => Heap.get?_push_of_some _ e) (Nat.le_refl _) ⟨hlen, its, 0, hv, Heap.get?_push_size _ rfl⟩
  refine wpAny_bind (wpAny_holding ?_)
  refine wpAny_mono (hs X.A.in1 pins _ σ _ (.ref s'.heap.objs.size) [] (.ref s'.heap.objs.size) [] _ (inv_A (A' := X.A.in1) I2 rfl rfl) rfl .nil (hq1 _ fresh)) (fun v s3 h3 => ?_) fun _ _ e => e
  obtain ⟨v', H3, I3, r3, q3⟩ := h3
  exact wpAny_pure ⟨_, rfl, .ref s'.heap.objs.size, H3, inv_A' I3 rfl rfl, rfl, q3⟩

/-! ### sum -/
def vsum : List V → Int
  | [] => 0
  | .int i :: r => i + vsum r
  | _ :: r => vsum r
theorem vsum_append (xs ys : List V) : vsum (xs ++ ys) = vsum xs + vsum ys := by
  induction xs with
  | nil => simp [vsum]
  | cons v r ih =>
    cases v <;> simp [vsum, ih] <;> omega
theorem vsum_ints (is : List Int) : vsum (is.map V.int) = is.sum := by
  induction is with
  | nil => rfl
  | cons i r ih => simp [vsum, ih]
def GhS (S : Addr) : List V → Pins → Prop := fun ys pl => ∃ (t : Tok) (c : Nat), pl = [(S, lstObj #[.int (vsum ys) t] c)]
def ThS : List V → V → Hp → Prop := fun ys x _ => ∃ j, x = .int j ∧ InLong j ∧ InLong (vsum ys + j)
theorem drainS {G : Cx} {Qe : List V → Hp → Prop} {σ0 : L2.St} {A : Around} {a S : Addr} {g : Nat} {go : Obj} {R : Result → Shared → Prop} (hh : A.handled = none) (hd : A.depth < recursionLimit) (hpa : (a, go) ∈ G.pn) (hgo : ∀ h : Heap, h.get? a = some go → h.IsGen a g)
    (hSa : S ≠ a) (hSc : S ≠ cStatics)
    (hend : ∀ s' ys t pl H, Inv G pl σ0 H s' → Qe ys H → R (.ok (.ret (.int (vsum ys) t))) s') :
    ∀ (n : Nat) (s : Shared) (z : Int) (t : Tok) (c : Nat), s.heap.NoLimit → s.heap.IsGen a g → s.heap.get? S = some (lstObj #[.int z t] c) → Susp G ⟨[S], GhS S, ThS, Qe⟩ σ0 A.in1 g n s → codeAny (model G.prog G.w) A (.builtin "sum.loop" ⟨[.ref a, .ref S, rawInt 0, rawInt 0], []⟩) R s := by
  intro n
  induction n using Nat.strongRecOn with
  | ind n ih =>
    intro s z t c hl hg hS0 hS
    refine codeAny_builtin F.entry_sum_loop ?_
    rw [Around.under_plainId F.plain_sum_loop _]
    show wpAny _ A.in1 (seqItems? (.ref S) >>= _) _ _ s
    refine wpAny_bind (wpAny_seqItems hS0 rfl ?_)
    show wpAny _ A.in1 (tryCatch (pyNext (.ref a)) _ >>= _) _ _ s
    have hS0' := hS0
    refine wpAny_bind (wpAny_tryCatch ?_)
    refine gx_next (A := A.in1) hh hd hl hg hS (fun ys x v pl H s1 h1 h2 h3 h4 h5 h6 h8 h7 => ?_) fun s1 hp => ?_
    · obtain ⟨t', c', rfl⟩ := h4
      have e1 : s1.heap.get? S = some (lstObj #[.int (vsum ys) t'] c') := (h3.at_ _ (List.mem_singleton.mpr rfl)).1
      have e2 := e1.symm.trans ((h8 S (List.mem_singleton.mpr rfl)).trans hS0)
      obtain ⟨j, rfl, ⟨f1, f2⟩, f3, f4⟩ := h6
      obtain ⟨tv, rfl⟩ := (show ∃ t, v = Value.int j t from h2)
      have ez : z = vsum ys := by
        have e3 : (#[Value.int (vsum ys) t'] : Array Value) = #[.int z t] := by
          have := congrArg Obj.data (Option.some.inj e2)
          injection this
        have e4 := congrArg Array.toList e3
        simp only [List.cons.injEq, Value.int.injEq, and_true] at e4
        exact e4.1.symm
      subst ez
      have hc : ((decide (-(2 ^ 63) ≤ j) && decide (j < 2 ^ 63)) && (decide (-(2 ^ 63) ≤ vsum ys + j) && decide (vsum ys + j < 2 ^ 63))) = true := by
        simp only [Bool.and_eq_true, decide_eq_true_eq]
        exact ⟨⟨f1, f2⟩, f3, f4⟩
      show wpAny _ A.in1 (if (_ : Bool) = true then (mkInt (vsum ys + j) >>= _) else _) _ _ _
      split
      · refine wpAny_bind (wpAny_mkInt ?_)
        show wpAny _ A.in1 (updateSeq S (fun _ => #[.int (vsum ys + j) s1.toks]) >>= _) _ _ _
        refine wpAny_bind ?_
        refine wpAny_updateSeq e1 rfl (wpAny_pure ⟨plainId_quiet F.plain_sum_loop _, ?_⟩)
        have keep3 : ∀ b o, b ≠ S → s1.heap.get? b = some o → (s1.heap.update S (Obj.mapSeq (fun _ => #[.int (vsum ys + j) s1.toks]))).get? b = some o := fun b o hbS e => (Heap.get?_update_other _ _ (Ne.symm hbS)).trans e
        obtain ⟨c2, hSn⟩ : ∃ c2, (s1.heap.update S (Obj.mapSeq (fun _ => #[.int (vsum ys + j) s1.toks]))).get? S = some (lstObj #[.int (vsum ys + j) s1.toks] c2) := ⟨_, Heap.get?_update_self _ e1 rfl⟩
        obtain ⟨m, hm, hS2⟩ := h7 { s1 with heap := s1.heap.update S (Obj.mapSeq (fun _ => #[.int (vsum ys + j) s1.toks])), toks := s1.toks + 1 } [(S, lstObj #[.int (vsum ys + j) s1.toks] c2)] ⟨rfl, h5.bare, fun b o hb e => keep3 b o (fun z => hb (by rw [z]; exact List.mem_singleton.mpr rfl)) e⟩ rfl
          ⟨rfl, fun p hp => by rw [List.mem_singleton.mp hp]; exact ⟨hSn, fun v q => by cases q⟩⟩ ⟨s1.toks, c2, by rw [vsum_append]; simp [vsum]⟩
        refine ih m (by omega) _ (vsum ys + j) s1.toks c2 ?_ ?_ hSn hS2
        · obtain ⟨mc, hns, hnn⟩ := h5.nolimit
          exact ⟨mc, hns.at' fun o e => keep3 _ o (Ne.symm hSc) e, hnn⟩
        · exact hgo _ (keep3 a go (Ne.symm hSa) (h5.pin (a, go) (List.mem_append_left _ hpa)).1)
      · rename_i hneg
        exact absurd hc hneg
    · obtain ⟨ys, pl, H, q1, q2, ⟨t', c', rfl⟩, q4, q5, q6⟩ := hp
      have e1 : s1.heap.get? S = some (lstObj #[.int (vsum ys) t'] c') := (q2.at_ _ (List.mem_singleton.mpr rfl)).1
      have e2 := e1.symm.trans ((q6 S (List.mem_singleton.mpr rfl)).trans hS0)
      have ez : z = vsum ys := by
        have e3 : (#[Value.int (vsum ys) t'] : Array Value) = #[.int z t] := by
          have := congrArg Obj.data (Option.some.inj e2)
          injection this
        have e4 := congrArg Array.toList e3
        simp only [List.cons.injEq, Value.int.injEq, and_true] at e4
        exact e4.1.symm
      subst ez
      exact wpAny_pure (hend s1 ys t _ H q4 q5)
def tSumG (tg : TGx) : TE := fun σ H Q => tg σ H ThS fun ys H1 => Q (.int (vsum ys)) H1
theorem pe_sumG (h : PGx X k e tg) (hr : Room (k + 4) X.A) (hg : Gl X "sum") (hm : X.mg "sum" = none)
    (he : starEach [e] X.env = (false, eval e X.env) :: starEach [] X.env := by rfl) : PE X (.Call (.Name "sum" p) [e] [] pos) (tSumG tg) := by
  refine ⟨fun pins s σ H Q I hq => ?_⟩
  refine wpAny_Call_Name_kw (ld_blt I hg hm boot_sum' ?_)
  refine PyProof.Rows.callWith_builtin1 ?_ he (by rfl)
  rw [he]
  show wpAny _ _ (spliced ((false, eval e X.env) :: backTo pos (starEach [] X.env))) _ _ s
  refine Calls.spliced_cons (thn (h.run pins s σ H _ _ I hq) fun u s1 hG => ?_)
  refine Calls.spliced_nil ?_
  obtain ⟨a, g, c, go, sB, HB, N', cenv, fp, σ0, rfl, I1, hex, ha1, ha2, hgo, hat, hgs, hos, hb, hkp, run⟩ := hG
  have hsB : sB.heap.NoLimit := I1.nolimit
  have hcl : cStatics < sB.heap.objs.size := let ⟨_, hn, _⟩ := hsB; hn.lt
  have hlim : s1.heap.NoLimit := hsB.keeps hkp
  refine call_function_tree F.kind_sum F.plain_sum F.entry_sum (F.args_sum1 _) ?_
  unfold Builtin.«sum»
  simp only [List.length_cons, List.length_nil]
  rw [if_neg (by decide)]
  refine wpAny_bind (wpAny_of_eq (show Builtin.Builtins.bindParams "sum" ["start"] 0 { } = pure [none] from rfl) ?_)
  refine wpAny_bind (wpAny_pyIter_gen (hgo _ hat) ?_)
  refine wpAny_bind (wpAny_mkInt ?_)
  refine wpAny_bind (wpAny_pure ?_)
  simp only [List.forIn_cons, List.forIn_nil]
  refine wpAny_bind (wpAny_bind (wpAny_bind (wpAny_isInstance (T := "int") (b := false) (typeIs_int _ _ _) PySem.sub_int_str ?_)))
  simp only [Bool.false_eq_true, if_false]
  refine wpAny_pure (wpAny_bind (wpAny_bind (wpAny_isInstance (T := "int") (b := false) (typeIs_int _ _ _) PySem.sub_int_bytes ?_)))
  simp only [Bool.false_eq_true, if_false]
  refine wpAny_pure (wpAny_bind (wpAny_bind (wpAny_isInstance (T := "int") (b := false) (typeIs_int _ _ _) PySem.sub_int_bytearray ?_)))
  simp only [Bool.false_eq_true, if_false]
  refine wpAny_pure (wpAny_pure ?_)
  refine wpAny_bind (wpAny_newObj_type ?_)
  have k1 : ∀ (o : Obj) b u, s1.heap.get? b = some u → (s1.heap.push o).get? b = some u := fun o b u e => Heap.get?_push_of_some _ e
  have hroom : Room (k + 1) X.A.in1.in1 := ⟨hr.hd, by have := hr.dp; show X.A.depth + 3 * (k + 1) + 5 < _; omega, by have := hr.un; show X.A.units + 1 + 1 + 16 * (k + 1) + 200 < _; omega⟩
  have hS0 : ∀ t, (s1.heap.push { cls := .type "list", data := .seq ([Value.int 0 t] : List Value).toArray }).get? s1.heap.objs.size = some (lstObj #[.int (vsum []) t] 0) := fun t => Heap.get?_push_size _ rfl
  refine wpAny_pure ⟨plainId_quiet F.plain_sum_loop _, ?_⟩
  refine drainS (G := gcx X sB HB N' cenv fp (X.A.in1.in1.deeper cenv) [(a, go)]) (Qe := fun ys H1 => Q (V.int (vsum ys)) H1) (σ0 := σ0) (A := X.A) (go := go) hr.hd (by have := hr.dp; show X.A.depth < _; omega) (List.mem_singleton.mpr rfl) hgo (Nat.ne_of_gt ha2) (Nat.ne_of_gt (Nat.lt_trans hcl (Nat.lt_trans ha1 ha2)))
    (fun s' ys t pl H1 q1 q2 => ?_) sizeLine _ (vsum []) s1.toks 0 ?_ ?_ ?_ ?_
  · exact ⟨.int (vsum ys), H1, inv_back I1 hex q1, ⟨t, rfl⟩, q2⟩
  · exact hlim.keeps (k1 _)
  · exact hgo _ (k1 _ _ _ hat)
  · exact hS0 _
  · refine susp_of hgs (run X.A.in1.in1 _ [s1.heap.objs.size] (GhS s1.heap.objs.size) _ hroom I.ok.frames (fun b hb => by rw [List.mem_singleton.mp hb]; exact Nat.le_refl _) (k1 _) hos (allBare_setGen (s := { s1 with heap := _ }) hb rfl) ?_ ⟨s1.toks, 0, rfl⟩)
    exact ⟨rfl, fun p hp => by rw [List.mem_singleton.mp hp]; exact ⟨hS0 _, fun v q => by cases q⟩⟩
end

/-! ### any, all -/
theorem drain1 {G : Cx} {nm : String} {bb : Bool} {Th : List V → V → Hp → Prop} {Qe : List V → Hp → Prop} {σ0 : L2.St} {A : Around} {a : Addr} {g : Nat} {go : Obj} {R : Result → Shared → Prop} (hh : A.handled = none) (hd : A.depth < recursionLimit) (hpa : (a, go) ∈ G.pn) (hgo : ∀ h : Heap, h.get? a = some go → h.IsGen a g)
    (hTh : ∀ ys x H, Th ys x H → ∃ b, x = .bl b)
    (step : ∀ (s : Shared) (R' : Result → Shared → Prop), wpAny (model G.prog G.w) A.in1 (pyNext (.ref a)) (fun r s1 => match r with
        | none => R' (.ok (.ret (.bool (!bb)))) s1
        | some v => ∃ b, v = .bool b ∧ if b = bb then R' (.ok (.ret (.bool bb))) s1 else codeAny (model G.prog G.w) A (.builtin nm ⟨[.ref a], []⟩) R' s1) (fun e s1 => R' (.error e) s1) s → codeAny (model G.prog G.w) A (.builtin nm ⟨[.ref a], []⟩) R' s)
    (hend : ∀ s' ys pl H, Inv G pl σ0 H s' → Qe ys H → (∀ y ∈ ys, y ≠ V.bl bb) → R (.ok (.ret (.bool (!bb)))) s') (hyes : ∀ s' ys pl H, Inv G pl σ0 H s' → Th ys (.bl bb) H → R (.ok (.ret (.bool bb))) s') :
    ∀ (n : Nat) (s : Shared), s.heap.NoLimit → s.heap.IsGen a g → Susp G ⟨[], fun ys pl => pl = [] ∧ ∀ y ∈ ys, y ≠ V.bl bb, Th, Qe⟩ σ0 A.in1 g n s → codeAny (model G.prog G.w) A (.builtin nm ⟨[.ref a], []⟩) R s := by
  intro n
  induction n using Nat.strongRecOn with
  | ind n ih =>
    intro s hl hg hS
    refine step s R (gx_next (A := A.in1) hh hd hl hg hS (fun ys x v pl H s1 h1 h2 h3 h4 h5 h6 h8 h7 => ?_) fun s1 hp => ?_)
    · obtain ⟨b, rfl⟩ := hTh _ _ _ h6
      have ev : v = Value.bool b := h2
      refine ⟨b, ev, ?_⟩
      by_cases hb : b = bb
      · rw [if_pos hb]
        subst hb
        exact hyes s1 ys pl H h5 h6
      · rw [if_neg hb]
        obtain ⟨m, hm, hS2⟩ := h7 s1 [] ⟨rfl, h5.bare, fun _ _ _ e => e⟩ rfl ⟨rfl, fun p hp => absurd hp (by simp)⟩ ⟨rfl, fun y hy => by
          rcases List.mem_append.mp hy with z | z
          · exact h4.2 y z
          · rw [List.mem_singleton.mp z]
            exact fun q => hb (V.bl.inj q)⟩
        exact ih m (by omega) s1 h5.nolimit (hgo _ (h5.pin (a, go) (List.mem_append_left _ hpa)).1) hS2
    · obtain ⟨ys, pl, H, q1, q2, q3, q4, q5, q6⟩ := hp
      exact hend s1 ys pl H q4 q5 q3.2
theorem step_any {prog : Program} {w : World} {A : Around} {a : Addr} (s : Shared) (R' : Result → Shared → Prop) (h : wpAny (model prog w) A.in1 (pyNext (.ref a)) (fun r s1 => match r with
        | none => R' (.ok (.ret (.bool (!true)))) s1
        | some v => ∃ b, v = .bool b ∧ if b = true then R' (.ok (.ret (.bool true))) s1 else codeAny (model prog w) A (.builtin "any.loop" ⟨[.ref a], []⟩) R' s1) (fun e s1 => R' (.error e) s1) s) : codeAny (model prog w) A (.builtin "any.loop" ⟨[.ref a], []⟩) R' s := by
  refine codeAny_builtin F.entry_any_loop ?_
  rw [Around.under_plainId F.plain_any_loop _]
  show wpAny _ A.in1 (pyNext (.ref a) >>= _) _ _ s
  refine wpAny_bind (thn h fun r s1 h1 => ?_)
  cases r with
  | none => exact wpAny_bind (wpAny_rule (wpAny_pure h1))
  | some v =>
    obtain ⟨b, rfl, h1⟩ := h1
    refine wpAny_bind (wpAny_holding (wpAny_truthy_bool ?_))
    refine wpAny_bind (wpAny_letGo ?_)
    cases b with
    | true =>
      simp only [if_true]
      exact wpAny_bind (wpAny_rule (wpAny_pure h1))
    | false =>
      simp only [Bool.false_eq_true, if_false]
      exact wpAny_pure ⟨plainId_quiet F.plain_any_loop _, h1⟩
theorem step_all {prog : Program} {w : World} {A : Around} {a : Addr} (s : Shared) (R' : Result → Shared → Prop) (h : wpAny (model prog w) A.in1 (pyNext (.ref a)) (fun r s1 => match r with
        | none => R' (.ok (.ret (.bool (!false)))) s1
        | some v => ∃ b, v = .bool b ∧ if b = false then R' (.ok (.ret (.bool false))) s1 else codeAny (model prog w) A (.builtin "all.loop" ⟨[.ref a], []⟩) R' s1) (fun e s1 => R' (.error e) s1) s) : codeAny (model prog w) A (.builtin "all.loop" ⟨[.ref a], []⟩) R' s := by
  refine codeAny_builtin F.entry_all_loop ?_
  rw [Around.under_plainId F.plain_all_loop _]
  show wpAny _ A.in1 (pyNext (.ref a) >>= _) _ _ s
  refine wpAny_bind (thn h fun r s1 h1 => ?_)
  cases r with
  | none => exact wpAny_bind (wpAny_rule (wpAny_pure h1))
  | some v =>
    obtain ⟨b, rfl, h1⟩ := h1
    refine wpAny_bind (wpAny_holding (wpAny_truthy_bool ?_))
    refine wpAny_bind (wpAny_letGo ?_)
    cases b with
    | false =>
      simp only [Bool.false_eq_true, if_false]
      exact wpAny_bind (wpAny_rule (wpAny_pure h1))
    | true =>
      simp only [if_true]
      exact wpAny_pure ⟨plainId_quiet F.plain_all_loop _, h1⟩
def tAnyG (tg : TGx) : TE := fun σ H Q => tg σ H (fun _ x H1 => ∃ b, x = .bl b ∧ (b = true → Q (.bl true) H1)) fun ys H1 => (∀ y ∈ ys, y ≠ V.bl true) → Q (.bl false) H1
def tAllG (tg : TGx) : TE := fun σ H Q => tg σ H (fun _ x H1 => ∃ b, x = .bl b ∧ (b = false → Q (.bl false) H1)) fun ys H1 => (∀ y ∈ ys, y ≠ V.bl false) → Q (.bl true) H1
section
variable {X : Cx} {p pos : Pos} {e : Expr} {tg : TGx} {k : Nat}
theorem pe_anyG (h : PGx X k e tg) (hr : Room (k + 4) X.A) (hg : Gl X "any") (hm : X.mg "any" = none)
    (he : starEach [e] X.env = (false, eval e X.env) :: starEach [] X.env := by rfl) : PE X (.Call (.Name "any" p) [e] [] pos) (tAnyG tg) := by
  refine ⟨fun pins s σ H Q I hq => ?_⟩
  refine wpAny_Call_Name_kw (ld_blt I hg hm boot_any' ?_)
  refine PyProof.Rows.callWith_builtin1 ?_ he (by rfl)
  rw [he]
  show wpAny _ _ (spliced ((false, eval e X.env) :: backTo pos (starEach [] X.env))) _ _ s
  refine Calls.spliced_cons (thn (h.run pins s σ H _ _ I hq) fun u s1 hG => ?_)
  refine Calls.spliced_nil ?_
  obtain ⟨a, g, c, go, sB, HB, N', cenv, fp, σ0, rfl, I1, hex, ha1, ha2, hgo, hat, hgs, hos, hb, hkp, run⟩ := hG
  refine call_function_tree F.kind_any F.plain_any F.entry_any (F.args_any1 _) ?_
  unfold Builtin.«any»
  refine wpAny_bind (m := oneArg "any" _) (wpAny_pure ?_)
  refine wpAny_bind (wpAny_pyIter_gen (hgo _ hat) ?_)
  have hroom : Room (k + 1) X.A.in1.in1 := ⟨hr.hd, by have := hr.dp; show X.A.depth + 3 * (k + 1) + 5 < _; omega, by have := hr.un; show X.A.units + 1 + 1 + 16 * (k + 1) + 200 < _; omega⟩
  refine wpAny_pure ⟨plainId_quiet F.plain_any_loop _, ?_⟩
  refine drain1 (G := gcx X sB HB N' cenv fp (X.A.in1.in1.deeper cenv) [(a, go)]) (bb := true) (nm := "any.loop") (Th := fun _ x H1 => ∃ b, x = .bl b ∧ (b = true → Q (.bl true) H1)) (Qe := fun ys H1 => (∀ y ∈ ys, y ≠ V.bl true) → Q (.bl false) H1) (σ0 := σ0) (A := X.A) (go := go) hr.hd (by have := hr.dp; show X.A.depth < _; omega) (List.mem_singleton.mpr rfl) hgo
    (fun _ _ _ ⟨b, e, _⟩ => ⟨b, e⟩) step_any (fun s' ys pl H1 q1 q2 q3 => ?_) (fun s' ys pl H1 q1 q2 => ?_) sizeLine _ (I1.nolimit.keeps hkp) (hgo _ hat) (susp_of hgs (run X.A.in1.in1 _ [] (fun ys pl => pl = [] ∧ ∀ y ∈ ys, y ≠ V.bl true) [] hroom I.ok.frames (fun b hb => absurd hb (by simp)) (fun _ _ e => e) hos (allBare_setGen hb rfl) ⟨rfl, fun p hp => absurd hp (by simp)⟩ ⟨rfl, fun y hy => absurd hy (by simp)⟩))
  · exact ⟨.bl false, H1, inv_back I1 hex q1, rfl, q2 q3⟩
  · obtain ⟨b, e, q2⟩ := q2
    cases e
    exact ⟨.bl true, H1, inv_back I1 hex q1, rfl, q2 rfl⟩
theorem pe_allG (h : PGx X k e tg) (hr : Room (k + 4) X.A) (hg : Gl X "all") (hm : X.mg "all" = none)
    (he : starEach [e] X.env = (false, eval e X.env) :: starEach [] X.env := by rfl) : PE X (.Call (.Name "all" p) [e] [] pos) (tAllG tg) := by
  refine ⟨fun pins s σ H Q I hq => ?_⟩
  refine wpAny_Call_Name_kw (ld_blt I hg hm boot_all' ?_)
  refine PyProof.Rows.callWith_builtin1 ?_ he (by rfl)
  rw [he]
  show wpAny _ _ (spliced ((false, eval e X.env) :: backTo pos (starEach [] X.env))) _ _ s
  refine Calls.spliced_cons (thn (h.run pins s σ H _ _ I hq) fun u s1 hG => ?_)
  refine Calls.spliced_nil ?_
  obtain ⟨a, g, c, go, sB, HB, N', cenv, fp, σ0, rfl, I1, hex, ha1, ha2, hgo, hat, hgs, hos, hb, hkp, run⟩ := hG
  refine call_function_tree F.kind_all F.plain_all F.entry_all (F.args_all1 _) ?_
  unfold Builtin.«all»
  refine wpAny_bind (m := oneArg "all" _) (wpAny_pure ?_)
  refine wpAny_bind (wpAny_pyIter_gen (hgo _ hat) ?_)
  have hroom : Room (k + 1) X.A.in1.in1 := ⟨hr.hd, by have := hr.dp; show X.A.depth + 3 * (k + 1) + 5 < _; omega, by have := hr.un; show X.A.units + 1 + 1 + 16 * (k + 1) + 200 < _; omega⟩
  refine wpAny_pure ⟨plainId_quiet F.plain_all_loop _, ?_⟩
  refine drain1 (G := gcx X sB HB N' cenv fp (X.A.in1.in1.deeper cenv) [(a, go)]) (bb := false) (nm := "all.loop") (Th := fun _ x H1 => ∃ b, x = .bl b ∧ (b = false → Q (.bl false) H1)) (Qe := fun ys H1 => (∀ y ∈ ys, y ≠ V.bl false) → Q (.bl true) H1) (σ0 := σ0) (A := X.A) (go := go) hr.hd (by have := hr.dp; show X.A.depth < _; omega) (List.mem_singleton.mpr rfl) hgo
    (fun _ _ _ ⟨b, e, _⟩ => ⟨b, e⟩) step_all (fun s' ys pl H1 q1 q2 q3 => ?_) (fun s' ys pl H1 q1 q2 => ?_) sizeLine _ (I1.nolimit.keeps hkp) (hgo _ hat) (susp_of hgs (run X.A.in1.in1 _ [] (fun ys pl => pl = [] ∧ ∀ y ∈ ys, y ≠ V.bl false) [] hroom I.ok.frames (fun b hb => absurd hb (by simp)) (fun _ _ e => e) hos (allBare_setGen hb rfl) ⟨rfl, fun p hp => absurd hp (by simp)⟩ ⟨rfl, fun y hy => absurd hy (by simp)⟩))
  · exact ⟨.bl true, H1, inv_back I1 hex q1, rfl, q2 q3⟩
  · obtain ⟨b, e, q2⟩ := q2
    cases e
    exact ⟨.bl false, H1, inv_back I1 hex q1, rfl, q2 rfl⟩
end
end GX
set_option Elab.async false
set_option linter.all false
set_option maxRecDepth 100000
set_option maxHeartbeats 4000000
/-! What all laws of this program share. -/
namespace KC
open PySem PySem.Spec PyProof.Rows L2 GX Evl

/-- a def of the top, called by its name -/
structure Cal (P : Program) (w : World) (K : PySem.W.Frag) (mg : Str → Option Value) (base : Heap) (nm : Str) (k : Nat) (ps : List Str) (sp : Sp) : Prop where
  out : ∃ f fd, mg nm = some (.ref f) ∧ PySem.W.keepIn K (.ref f) = true ∧ Binds K fd ps [] ∧ FnOk P w K mg base CX0 k f fd ps sp
theorem pe_callC {X : Cx} {nm : Str} {k : Nat} {ps : List Str} {sp : Sp} {p pos : Pos} {e : Expr} {es : List Expr} {t : TA} (C : Cal X.prog X.w X.K X.mg X.base nm k ps sp) (hr : Room k X.A) (hg : Gl X nm) (ha : PA X (e :: es) t)
    (hdb : (nm == ("__debug__" : Str)) = false := by decide) (he : starEach (e :: es) X.env = (false, eval e X.env) :: starEach es X.env := by rfl) (hpl : (backTo pos (starEach es X.env)).any (·.1) = false := by rfl) :
    PE X (.Call (.Name nm p) (e :: es) [] pos) (tCall sp [] E0 t) := by
  obtain ⟨f, fd, h1, h2, h3, h4⟩ := C.out
  exact pe_call h4 hr hg h1 h2 h3 .nil pass0 ha hdb he hpl

/-- the builtins that no def of the text hides -/
structure Bs (mg : Str → Option Value) : Prop where
  len : mg "len" = none
  int : mg "int" = none
  min : mg "min" = none
  max : mg "max" = none
  list : mg "list" = none
  sorted : mg "sorted" = none
  sum : mg "sum" = none
  range : mg "range" = none
  enumerate : mg "enumerate" = none
  zip : mg "zip" = none
  any : mg "any" = none
  isinstance : mg "isinstance" = none
  bool : mg "bool" = none
  reversed : mg "reversed" = none

/-- a def whose code object is known (its table of codes is used) -/
structure FunT (K : PySem.W.Frag) (x qual : Str) (st : Stmt) (f : Addr) (fd : FuncData) (c : Addr) : Prop where
  ex : ∃ (oc : Value) (od : Option Addr) (kV doc pm : Value) (an : Option Addr) (ct : Value) (osl : Array (Option Value)),
    fd = PySem.W.fnOf x qual (defArgs st) (defBody st) (defScope st) .none kV doc pm an (.ref c) ct ∧ K.lookup f = some ⟨oc, od, .func fd, osl⟩ ∧ PySem.W.codeIn K (.ref c) qual = true
  kp : PySem.W.keepIn K (.ref f) = true
theorem FunT.fn {K : PySem.W.Frag} {x qual : Str} {st : Stmt} {f c : Addr} {fd : FuncData} (F : FunT K x qual st f fd c) : Fun K x qual st f fd := by
  obtain ⟨oc, od, kV, doc, pm, an, ct, osl, h1, h2, h3⟩ := F.ex
  exact ⟨⟨oc, od, kV, doc, pm, an, .ref c, ct, osl, h1, h2, h3⟩, F.kp⟩
section
variable {P : Program} {w : World} {K : PySem.W.Frag} {mg : Str → Option Value} {base : Heap}
theorem FunT.ok {x qual : Str} {st : Stmt} {f c : Addr} {fd : FuncData} {N ps : List Str} {k : Nat} {sp : Sp} (F : FunT K x qual st f fd c) (S : FnScope N ps (defScope st)) (len : ∀ vs H Q E, sp vs H Q E → vs.length = ps.length)
    (hbody : ∀ (A : Around) (outer : List Env) (s : Shared) (H : Hp) (vs : List V) (Q : VK) (E : XK), Room k (A.deeper (envOfC qual (defScope st) s.heap.objs.size f (.ref c))) → sp vs H Q E →
      ∃ t, PSs (cxOf CX0 P w K mg base N qual (defScope st) f (.ref c) A outer s H E).nox (defBody st) t ∧ t { nx := fun _ H' => Q .non H', rt := Q } (start N vs) H) : FnOk P w K mg base CX0 (k + 1) f fd ps sp := by
  obtain ⟨oc, od, kV, doc, pm, an, ct, osl, rfl, lk, hcd⟩ := F.ex
  refine fn_of lk hcd S len fun A outer s H vs Q E hr hsp => ?_
  obtain ⟨t, h, q⟩ := hbody A outer s H vs Q E hr hsp
  exact ⟨t, h.nox, q⟩
theorem cal_of {nm : Str} {st : Stmt} {f : Addr} {fd : FuncData} {k : Nat} {ps : List Str} {sp : Sp} (F : Fun K nm nm st f fd) (g : mg nm = some (.ref f)) (b : Binds K fd ps []) (ok : FnOk P w K mg base CX0 k f fd ps sp) : Cal P w K mg base nm k ps sp :=
  ⟨f, fd, g, F.kp, b, ok⟩
end

/-! ### heaps -/
theorem ex_of_new {H H' : Hp} {p : Addr} {o : HO} (e : Ex H H') (h : H' p = none) : Ex H (upd H' p o) := e.trans (Ex.new h)
mutual
theorem Dp.ext {K : PySem.W.Frag} {H H' : Hp} (e : Ex H H') : ∀ (d : PyData) (v : V), Dp K H v d → Dp K H' v d
  | .none, _, h => by cases h; exact .non
  | .bool b, _, h => by cases h; exact .bl b
  | .int i, _, h => by cases h; exact .int i
  | .str x, _, h => by cases h; exact .str x
  | .list ds, _, h => by
    cases h with
    | lst h1 h2 => exact .lst (ex_l e h1) (DpAll.ext e ds _ h2)
  | .tuple ds, _, h => by
    cases h with
    | tup h1 h2 => exact .tup (ex_t e h1) (DpAll.ext e ds _ h2)
  | .dict _, _, h => by cases h
theorem DpAll.ext {K : PySem.W.Frag} {H H' : Hp} (e : Ex H H') : ∀ (ds : List PyData) (vs : List V), DpAll K H vs ds → DpAll K H' vs ds
  | [], _, h => by cases h; exact .nil
  | d :: ds, _, h => by
    cases h with
    | cons h1 h2 => exact .cons (Dp.ext e d _ h1) (DpAll.ext e ds _ h2)
end
theorem DpAll.app {K : PySem.W.Frag} {H : Hp} : ∀ {vs : List V} {ds : List PyData} {v : V} {d : PyData}, DpAll K H vs ds → Dp K H v d → DpAll K H (vs ++ [v]) (ds ++ [d])
  | [], _, _, _, h, h2 => by cases h; exact .cons h2 .nil
  | _ :: _, _, _, _, h, h2 => by
    cases h with
    | cons a b => exact .cons a (DpAll.app b h2)
theorem DpAll.len {K : PySem.W.Frag} {H : Hp} : ∀ {vs : List V} {ds : List PyData}, DpAll K H vs ds → vs.length = ds.length
  | [], _, h => by cases h; rfl
  | _ :: _, _, h => by
    cases h with
    | cons a b => exact congrArg (· + 1) (DpAll.len b)
theorem dpAll_ints {K : PySem.W.Frag} {H : Hp} : ∀ ns : List Int, DpAll K H (ns.map V.int) (ns.map PyData.int)
  | [] => .nil
  | n :: r => .cons (.int n) (dpAll_ints r)
theorem eqvAll_ints : ∀ xs ys : List Int, PyData.eqvAll (xs.map PyData.int) (ys.map PyData.int) = decide (xs = ys)
  | [], [] => by simp [PyData.eqvAll]
  | [], _ :: _ => by simp [PyData.eqvAll]
  | _ :: _, [] => by simp [PyData.eqvAll]
  | x :: xs, y :: ys => by
    simp only [List.map_cons, PyData.eqvAll, PyData.eqv, eqvAll_ints xs ys]
    by_cases h1 : x = y <;> by_cases h2 : xs = ys <;> simp [h1, h2]
theorem int_at {ns : List Int} {i : Nat} (h : i < ns.length) : (ns.map V.int)[i]? = some (.int (ns.getD i 0)) := by
  rw [List.getElem?_map, List.getElem?_eq_getElem h, List.getD_eq_getElem?_getD, List.getElem?_eq_getElem h]
  rfl
theorem atI_at {ns : List Int} {z : Int} {i : Nat} (e : z = (i : Int)) (h : i < ns.length) : atI (ns.map V.int) z = some (.int (ns.getD i 0)) := at_of e (int_at h)

/-! ### more readings, in short -/
section
variable {K : PySem.W.Frag} {σ : L2.St} {H H' : Hp} {ta tb te tx : TE} {t u : TT} {x y z v : V} {D : Ends} {tu tw tz : TS} {g : TG}
theorem rv_mod {i j : Int} (h : 0 < j) : RV (rI (fun _ j => 0 < j) fun i j => .int (i % j)) (.int i) (.int j) H (.int (i % j)) := rv_I h
theorem rv_div {i j : Int} (h : 0 < j) (h2 : j < 1073741824) : RV (rI CDiv fun i j => .int (i / j)) (.int i) (.int j) H (.int (i / j)) := rv_I ⟨h, h2⟩
theorem rv_mul {i j : Int} (h : -(2 ^ 64) < i ∧ i < 2 ^ 64) : RV (rI CMul fun i j => .int (i * j)) (.int i) (.int j) H (.int (i * j)) := rv_I (.inl h)
theorem rc_val {r : List V → Hp → VK → Prop} {vs : List V} (h : ∀ H1, Ex H H1 → ∀ Q : VK, Q z H1 → r vs H1 Q) : RC r vs H z := fun H1 e Q q => h H1 e Q (q H1 (Ex.refl H1))
theorem rc_int {i : Int} : RC (fun xs H Q => (∃ i, xs = [.int i] ∧ Q (.int i) H) ∨ ∃ k, xs = [.bl k] ∧ Q (.int (if k then 1 else 0)) H) [.int i] H (.int i) := rc_val fun _ _ _ q => .inl ⟨i, rfl, q⟩
theorem rc_len {a : Addr} {xs : List V} {r : List V → Hp → VK → Prop} (h : ∀ H1, Ex H H1 → ∀ Q : VK, Q (.int (xs.length : Int)) H1 → r [.ref a] H1 Q) : RC r [.ref a] H (.int (xs.length : Int)) := rc_val h
theorem ea1 (h : Ev ta σ H x) : EvA (tCons ta tNil) σ H [x] := ea_cons h ea_nil
theorem ea2 (h : Ev ta σ H x) (h2 : Ev tb σ H y) : EvA (tCons ta (tCons tb tNil)) σ H [x, y] := ea_cons h (ea1 h2)
theorem ea3 {tc : TE} (h : Ev ta σ H x) (h2 : Ev tb σ H y) (h3 : Ev tc σ H z) : EvA (tCons ta (tCons tb (tCons tc tNil))) σ H [x, y, z] := ea_cons h (ea2 h2 h3)
end
end KC
set_option Elab.async false
set_option linter.all false
set_option maxRecDepth 100000
set_option maxHeartbeats 4000000
namespace KC
open PySem PySem.Spec PyProof.Rows L2 GX Evl

/-- it gives data d -/
def EvD (K : PySem.W.Frag) (te : TE) (σ : L2.St) (H : Hp) (d : PyData) : Prop := ∀ H1, Ex H H1 → ∀ Q : VK, (∀ v H2, Ex H1 H2 → Dp K H2 v d → Q v H2) → te σ H1 Q
def EvDA (K : PySem.W.Frag) (ta : TA) (σ : L2.St) (H : Hp) (ds : List PyData) : Prop := ∀ H1, Ex H H1 → ∀ Q : List V → Hp → Prop, (∀ vs H2, Ex H1 H2 → DpAll K H2 vs ds → Q vs H2) → ta σ H1 Q
def RetD (K : PySem.W.Frag) (d : PyData) (H : Hp) (Q : VK) : Prop := ∀ v H2, Ex H H2 → Dp K H2 v d → Q v H2
def SpD (K : PySem.W.Frag) (sp : Sp) (vs : List V) (H : Hp) (d : PyData) : Prop := ∀ H1, Ex H H1 → ∀ Q : VK, (∀ v H2, Ex H1 H2 → Dp K H2 v d → Q v H2) → ∀ E : XK, sp vs H1 Q E
mutual
def noList : PyData → Bool
  | .list _ => false
  | .dict _ => false
  | .tuple ds => noListAll ds
  | _ => true
def noListAll : List PyData → Bool
  | [] => true
  | d :: r => noList d && noListAll r
end
theorem sqt_put {K : PySem.W.Frag} {H : Hp} {l a : Addr} {zs ys xs : List V} (h : SqT K H a xs) (hl : H l = some (.lst zs)) : SqT K (upd H l (.lst ys)) a xs := by
  rcases h with (h | ⟨o, h⟩) | h
  · exact .inl (.inl (by rw [upd_ne (fun e => by rw [e, hl] at h; cases h)]; exact h))
  · exact .inl (.inr ⟨o, by rw [upd_ne (fun e => by rw [e, hl] at h; cases h)]; exact h⟩)
  · exact .inr h
theorem sql_put {K : PySem.W.Frag} {H : Hp} {l a : Addr} {ys xs : List V} (h : SqL K H a xs) (hl : a ≠ l) : SqL K (upd H l (.lst ys)) a xs := by
  rcases h with (h | ⟨o, h⟩) | h
  · exact .inl (.inl (by rw [upd_ne hl]; exact h))
  · exact .inl (.inr ⟨o, by rw [upd_ne hl]; exact h⟩)
  · exact .inr h
mutual
theorem Dp.put {K : PySem.W.Frag} {H : Hp} {l : Addr} {zs ys : List V} (hl : H l = some (.lst zs)) : ∀ (d : PyData) (v : V), noList d = true → Dp K H v d → Dp K (upd H l (.lst ys)) v d
  | .none, _, _, h => by cases h; exact .non
  | .bool b, _, _, h => by cases h; exact .bl b
  | .int i, _, _, h => by cases h; exact .int i
  | .str x, _, _, h => by cases h; exact .str x
  | .list _, _, z, _ => by simp [noList] at z
  | .tuple ds, _, z, h => by
    cases h with
    | tup h1 h2 => exact .tup (sqt_put h1 hl) (DpAll.put hl ds _ (by simpa [noList] using z) h2)
  | .dict _, _, _, h => by cases h
theorem DpAll.put {K : PySem.W.Frag} {H : Hp} {l : Addr} {zs ys : List V} (hl : H l = some (.lst zs)) : ∀ (ds : List PyData) (vs : List V), noListAll ds = true → DpAll K H vs ds → DpAll K (upd H l (.lst ys)) vs ds
  | [], _, _, h => by cases h; exact .nil
  | d :: ds, _, z, h => by
    cases h with
    | cons h1 h2 =>
      simp only [noListAll, Bool.and_eq_true] at z
      exact .cons (Dp.put hl d _ z.1 h1) (DpAll.put hl ds _ z.2 h2)
end
theorem noListAll_map {α : Type} {f : α → PyData} (hf : ∀ a, noList (f a) = true) : ∀ xs : List α, noListAll (xs.map f) = true
  | [] => rfl
  | a :: r => by simp [noListAll, hf a, noListAll_map hf r]

section
variable {K : PySem.W.Frag} {σ : L2.St} {H H' : Hp} {ta tb te tx : TE} {t u : TT} {x y z v : V} {D : Ends} {tu tw tz : TS} {g : TG} {d d2 : PyData} {ds : List PyData}
theorem EvD.mono (e : Ex H H') (h : EvD K te σ H d) : EvD K te σ H' d := fun H1 a Q q => h H1 (e.trans a) Q q
theorem ed_int {i : Int} (h : Ev te σ H (.int i)) : EvD K te σ H (.int i) := fun H1 e Q q => h H1 e Q fun H2 e2 => q _ H2 e2 (.int i)
theorem ed_non (h : Ev te σ H .non) : EvD K te σ H .none := fun H1 e Q q => h H1 e Q fun H2 e2 => q _ H2 e2 .non
theorem ed_bl {b : Bool} (h : Ev te σ H (.bl b)) : EvD K te σ H (.bool b) := fun H1 e Q q => h H1 e Q fun H2 e2 => q _ H2 e2 (.bl b)
theorem ed_at (h : Ev te σ H v) (hd : Dp K H v d) : EvD K te σ H d := fun H1 e Q q => h H1 e Q fun H2 e2 => q _ H2 e2 (Dp.ext (e.trans e2) _ _ hd)
theorem eda_nil : EvDA K tNil σ H [] := fun H1 _ Q q => q [] H1 (Ex.refl H1) .nil
theorem eda_cons {tr : TA} (h : EvD K te σ H d) (hr : EvDA K tr σ H ds) : EvDA K (tCons te tr) σ H (d :: ds) := fun H1 e Q q =>
  h H1 e _ fun v H2 e2 hv => hr H2 (e.trans e2) _ fun vs H3 e3 hvs => q _ H3 (e2.trans e3) (.cons (Dp.ext e3 _ _ hv) hvs)
theorem ed_tup {ta : TA} (h : EvDA K ta σ H ds) (hl : ds.length ≤ 100000) : EvD K (tTup ta) σ H (.tuple ds) := fun H1 e Q q =>
  h H1 e _ fun vs H2 e2 hvs => ⟨sz_of (by rw [DpAll.len hvs]; exact hl), fun p hp => q _ _ (e2.trans (Ex.new hp)) (.tup (.inl (.inl upd_same)) (DpAll.ext (Ex.new hp) _ _ hvs))⟩
theorem ed_lst {ta : TA} (h : EvDA K ta σ H ds) (hl : ds.length ≤ 100000) : EvD K (tLst ta) σ H (.list ds) := fun H1 e Q q =>
  h H1 e _ fun vs H2 e2 hvs => ⟨sz_of (by rw [DpAll.len hvs]; exact hl), fun p hp => q _ _ (e2.trans (Ex.new hp)) (.lst (.inl (.inl upd_same)) (DpAll.ext (Ex.new hp) _ _ hvs))⟩
theorem ed_call {sp : Sp} {dvs vs : List V} {E : XK} {ta : TA} (h : EvA ta σ H vs) (hs : SpD K sp (vs ++ dvs) H d) : EvD K (tCall sp dvs E ta) σ H d := fun H1 e Q q =>
  h H1 e _ fun H2 e2 => hs H2 (e.trans e2) Q (fun v H3 e3 hv => q v H3 (e2.trans e3) hv) E
/-- a list of ints as data -/
theorem ed_listI {ns : List Int} (h : EvL te σ H (ns.map V.int)) : EvD K te σ H (.list (ns.map PyData.int)) := fun H1 e Q q =>
  h H1 e Q fun p H2 _ e2 hp => q _ H2 e2 (.lst (.inl (.inl hp)) (dpAll_ints ns))
theorem dp_listI {l : Addr} {ns : List Int} (h : SqL K H l (ns.map V.int)) : Dp K H (.ref l) (.list (ns.map PyData.int)) := .lst h (dpAll_ints ns)
theorem s_retD (h : EvD K te σ H d) (k : ∀ v H1, Ex H H1 → Dp K H1 v d → D.rt v H1) : tRet te D σ H := h H (Ex.refl H) _ k
theorem s_asgD {i : Nat} (h : EvD K te σ H d) (k : ∀ v H1, Ex H H1 → Dp K H1 v d → D.nx (σ.set i (some v)) H1) : tAsg te (gName i) D σ H := h H (Ex.refl H) _ k
theorem q_asgD {i : Nat} (h : EvD K te σ H d) (k : ∀ v H1, Ex H H1 → Dp K H1 v d → tz D (σ.set i (some v)) H1) : tSeq (tAsg te (gName i)) tz D σ H := s_asgD (D := { D with nx := tz D }) h k
/-- xs.append(data) -/
theorem s_appD {l : Addr} {xs : List V} (hl : H l = some (.lst xs)) (ha : Ev ta σ H (.ref l)) (h : EvD K te σ H d) (hz : xs.length < 100000) (k : ∀ v H1, Ex H H1 → Dp K H1 v d → D.nx σ (upd H1 l (.lst (xs ++ [v])))) :
    tDrop (tBM K "list" rAppend ta (tCons te tNil)) D σ H := ha H (Ex.refl H) _ fun H1 e1 =>
  ⟨Or.inl ⟨rfl, xs, sq_of (e1 l _ hl)⟩, h H1 e1 _ fun v H2 e2 hv => ⟨l, xs, v, rfl, rfl, e2 l _ (e1 l _ hl), sz_lt hz, k v H2 (e1.trans e2) hv⟩⟩
/-- data equal, not equal -/
theorem ev_eqD (ha : EvD K ta σ H d) (hb : EvD K tb σ H d2) (h1 : SeqAt.shaped d = true) (h2 : SeqAt.shaped d2 = true) : Ev (tOp (rEqD K) ta tb) σ H (.bl (PyData.eqv d d2)) := fun H1 e Q q =>
  ha H1 e _ fun v H2 e2 hv => hb H2 (e.trans e2) _ fun u H3 e3 hu => ⟨d, d2, Dp.ext e3 _ _ hv, hu, h1, h2, q H3 (e2.trans e3)⟩
theorem ev_neD (ha : EvD K ta σ H d) (hb : EvD K tb σ H d2) (h1 : SeqAt.shaped d = true) (h2 : SeqAt.shaped d2 = true) : Ev (tOp (rNeD K) ta tb) σ H (.bl (!PyData.eqv d d2)) := fun H1 e Q q =>
  ha H1 e _ fun v H2 e2 hv => hb H2 (e.trans e2) _ fun u H3 e3 hu => ⟨d, d2, Dp.ext e3 _ _ hv, hu, h1, h2, q H3 (e2.trans e3)⟩
theorem el_cat {xs ys : List V} {b : Addr} (ha : EvL ta σ H xs) (hb : Ev tb σ H (.ref b)) (h : H b = some (.lst ys)) (hz : xs.length + ys.length ≤ 100000) : EvL (tOp rCat ta tb) σ H (xs ++ ys) := fun H1 e Q q =>
  ha H1 e _ fun p H2 np e2 hp => hb H2 (e.trans e2) _ fun H3 e3 => ⟨p, b, xs, ys, rfl, rfl, e3 p _ hp, ((e.trans e2).trans e3) b _ h, sz_of hz, fun p2 hp2 => q p2 _ (fresh_back (e2.trans e3) hp2) ((e2.trans e3).trans (Ex.new hp2)) upd_same⟩
theorem el_cat2 {xs ys : List V} {a b : Addr} (ha : Ev ta σ H (.ref a)) (h0 : H a = some (.lst xs)) (hb : Ev tb σ H (.ref b)) (h : H b = some (.lst ys)) (hz : xs.length + ys.length ≤ 100000) : EvL (tOp rCat ta tb) σ H (xs ++ ys) := fun H1 e Q q =>
  ha H1 e _ fun H2 e2 => hb H2 (e.trans e2) _ fun H3 e3 => ⟨a, b, xs, ys, rfl, rfl, ((e.trans e2).trans e3) a _ h0, ((e.trans e2).trans e3) b _ h, sz_of hz, fun p2 hp2 => q p2 _ (fresh_back (e2.trans e3) hp2) ((e2.trans e3).trans (Ex.new hp2)) upd_same⟩
theorem el_rep {xs : List V} {i : Int} (ha : EvL ta σ H xs) (hb : Ev tb σ H (.int i)) (h1 : 0 ≤ i ∧ i ≤ 10000) (hz : xs.length ≤ 10) : EvL (tOp rRep ta tb) σ H (List.replicate i.toNat xs).flatten := fun H1 e Q q =>
  ha H1 e _ fun p H2 np e2 hp => hb H2 (e.trans e2) _ fun H3 e3 => ⟨p, i, xs, rfl, rfl, e3 p _ hp, by omega, by omega, sz_of (Nat.le_trans (Nat.mul_le_mul hz (show i.toNat ≤ 10000 by omega)) (by decide)), fun p2 hp2 => q p2 _ (fresh_back (e2.trans e3) hp2) ((e2.trans e3).trans (Ex.new hp2)) upd_same⟩
theorem el_rev {xs : List V} {a : Addr} (ha : Ev ta σ H (.ref a)) (h : SqL K H a xs) : EvL (tRevL K ta) σ H xs.reverse := fun H1 e Q q =>
  ha H1 e _ fun H2 e2 => ⟨a, xs, rfl, ex_l (e.trans e2) h, fun p hp => q p _ (fresh_back e2 hp) (e2.trans (Ex.new hp)) upd_same⟩
theorem el_if {b : Bool} {xs : List V} (h : EvT t σ H b) (h1 : b = true → EvL ta σ H xs) (h2 : b = false → EvL tb σ H xs) : EvL (tIf t ta tb) σ H xs := fun H1 e Q q => h H1 e _ fun H2 e2 => by
  cases b with
  | true => exact h1 rfl H2 (e.trans e2) Q fun p H3 hp e3 => q p H3 (fresh_back e2 hp) (e2.trans e3)
  | false => exact h2 rfl H2 (e.trans e2) Q fun p H3 hp e3 => q p H3 (fresh_back e2 hp) (e2.trans e3)
theorem rv_shl {i j : Int} (h : 0 ≤ j ∧ j ≤ 1000000 ∧ i.natAbs < 2 ^ 64) : RV (rI CPow fun i j => .int (i * 2 ^ j.toNat)) (.int i) (.int j) H (.int (i * 2 ^ j.toNat)) := rv_I h
theorem rv_shr {i j : Int} (h : 0 ≤ j) : RV (rI (fun _ j => 0 ≤ j) fun i j => .int (i / 2 ^ j.toNat)) (.int i) (.int j) H (.int (i / 2 ^ j.toNat)) := rv_I h
theorem rc_min {i j : Int} : RC (fun xs H Q => ∃ i j, xs = [.int i, .int j] ∧ Q (.int (if j < i then j else i)) H) [.int i, .int j] H (.int (if j < i then j else i)) := rc_val fun _ _ _ q => ⟨i, j, rfl, q⟩
theorem rc_max {i j : Int} : RC (fun xs H Q => ∃ i j, xs = [.int i, .int j] ∧ Q (.int (if j > i then j else i)) H) [.int i, .int j] H (.int (if j > i then j else i)) := rc_val fun _ _ _ q => ⟨i, j, rfl, q⟩
theorem ev_min {i j : Int} (h : Ev ta σ H (.int i)) (h2 : Ev tb σ H (.int j)) : Ev (tCB (fun xs H Q => ∃ i j, xs = [.int i, .int j] ∧ Q (.int (if j < i then j else i)) H) (tCons ta (tCons tb tNil))) σ H (.int (if j < i then j else i)) := ev_cb (ea2 h h2) rc_min
theorem ev_add {i j : Int} (h : Ev ta σ H (.int i)) (h2 : Ev tb σ H (.int j)) : Ev (tOp (rI0 fun i j => .int (i + j)) ta tb) σ H (.int (i + j)) := ev_op h h2 rv_I0
theorem ev_sub {i j : Int} (h : Ev ta σ H (.int i)) (h2 : Ev tb σ H (.int j)) : Ev (tOp (rI0 fun i j => .int (i - j)) ta tb) σ H (.int (i - j)) := ev_op h h2 rv_I0
theorem ev_lt {i j : Int} (h : Ev ta σ H (.int i)) (h2 : Ev tb σ H (.int j)) : Ev (tOp (rI0 fun i j => .bl (decide (i < j))) ta tb) σ H (.bl (decide (i < j))) := ev_op h h2 rv_I0
theorem ev_eq {i j : Int} (h : Ev ta σ H (.int i)) (h2 : Ev tb σ H (.int j)) : Ev (tOp rEq ta tb) σ H (.bl (decide (i = j))) := by
  have q := ev_op h h2 (rv_eq (x := .int i) (y := .int j) rfl)
  have e : decide ((V.int i) = V.int j) = decide (i = j) := by
    by_cases z : i = j
    · subst z; simp
    · rw [decide_eq_false z, decide_eq_false (fun q => z (V.int.inj q))]
  rw [e] at q
  exact q
theorem ev_ne {i j : Int} (h : Ev ta σ H (.int i)) (h2 : Ev tb σ H (.int j)) : Ev (tOp rNe ta tb) σ H (.bl (!decide (i = j))) := by
  have q := ev_op h h2 (rv_ne (x := .int i) (y := .int j) rfl)
  have e : decide ((V.int i) = V.int j) = decide (i = j) := by
    by_cases z : i = j
    · subst z; simp
    · rw [decide_eq_false z, decide_eq_false (fun q => z (V.int.inj q))]
  rw [e] at q
  exact q
end
end KC
set_option Elab.async false
set_option linter.all false
set_option maxRecDepth 100000
set_option maxHeartbeats 4000000
namespace KC
open PySem PySem.Spec PyProof.Rows L2 GX Evl
def capC (N N' : List Str) (cm : List (Option Nat)) (scope sc : Scope) : Bool :=
  decide (scope.kind = .function) && !scope.isCoroutine && (scope.names.all fun y => decide (y.2 ≠ .cell)) && decide (scope.names.lookup (".0" : Str) = some NameKind.local) &&
    (scope.names.all fun y => !decide (y.2 = .free) || (decide (sc.names.lookup y.1 = some .cell) || decide (sc.names.lookup y.1 = some .free))) && decide (cm.length = N'.length) &&
    ((cm.zip N').all fun p => match p.1 with | some j => (N[j]? == some p.2) && (scope.names.lookup p.2 == some .free) | none => true)
theorem capOk_by {N N' : List Str} {cm : List (Option Nat)} {scope sc : Scope} (h : capC N N' cm scope sc = true) : CapOk N N' cm scope sc := by
  unfold capC at h
  simp only [Bool.and_eq_true, List.all_eq_true, decide_eq_true_eq, Bool.not_eq_true', Bool.or_eq_true, decide_eq_false_iff_not] at h
  obtain ⟨⟨⟨⟨⟨⟨h1, h2⟩, h3⟩, h4⟩, h5⟩, h6⟩, h7⟩ := h
  refine ⟨h1, h2, h3, h4, fun y hy e => ?_, h6, ?_⟩
  · rcases h5 y hy with z | z
    · exact absurd e z
    · exact z
  · rw [List.all_eq_true]
    intro p hp
    have := h7 p hp
    revert this
    cases p.1 <;> simp
theorem ix_listK {X : Cx} {K : PySem.W.Frag} (h : X.K = K) : IxR X (rIxL K) := by
  subst h
  exact ix_list
theorem ix_tupK {X : Cx} {K : PySem.W.Frag} (h : X.K = K) : IxR X (rIxT K) := by
  subst h
  exact ix_tup
theorem canLayAll0_map {α : Type} {f : α → PyData} (h : ∀ a, (f a).canLay0 = true) : ∀ xs : List α, PyData.canLayAll0 (xs.map f) = true
  | [] => by simp [PyData.canLayAll0]
  | a :: r => by simp [PyData.canLayAll0, h a, canLayAll0_map h r]
theorem depthAll_map {α : Type} {f : α → PyData} {n : Nat} (h : ∀ a, (f a).depth ≤ n) : ∀ xs : List α, PyData.depthAll (xs.map f) ≤ n
  | [] => by simp [PyData.depthAll]
  | a :: r => by
    have h1 := depthAll_map h r
    have h2 := h a
    simp only [List.map_cons, PyData.depthAll]
    omega
theorem shaped_list {α : Type} {f : α → PyData} {n : Nat} (hn : n ≤ 60) (h1 : ∀ a, (f a).canLay0 = true) (h2 : ∀ a, (f a).depth ≤ n) (xs : List α) : SeqAt.shaped (.list (xs.map f)) = true := by
  have h3 := depthAll_map h2 xs
  have h4 : PyData.depth (.list (xs.map f)) ≤ 64 := by simp only [PyData.depth]; omega
  show (PyData.canLay0 (.list (xs.map f)) && decide (PyData.depth (.list (xs.map f)) ≤ 64)) = true
  rw [Bool.and_eq_true]
  exact ⟨by simp only [PyData.canLay0]; exact canLayAll0_map h1 xs, decide_eq_true h4⟩
theorem shaped_ints (ns : List Int) : SeqAt.shaped (.list (ns.map PyData.int)) = true := shaped_list (n := 1) (by decide) (fun a => by simp [PyData.canLay0]) (fun a => by simp [PyData.depth]) ns
theorem eqvAll_map {α : Type} {f : α → PyData} (h : ∀ a, PyData.eqv (f a) (f a) = true) : ∀ xs : List α, PyData.eqvAll (xs.map f) (xs.map f) = true
  | [] => by simp [PyData.eqvAll]
  | a :: r => by simp [PyData.eqvAll, h a, eqvAll_map h r]
theorem eqv_list {α : Type} {f : α → PyData} (h : ∀ a, PyData.eqv (f a) (f a) = true) (xs : List α) : PyData.eqv (.list (xs.map f)) (.list (xs.map f)) = true := by
  simp only [PyData.eqv]
  exact eqvAll_map h xs
theorem eqv_ints (xs : List Int) : PyData.eqv (.list (xs.map PyData.int)) (.list (xs.map PyData.int)) = true := eqv_list (fun a => by simp [PyData.eqv]) xs
section
variable {K : PySem.W.Frag} {σ : L2.St} {H H' : Hp} {ta tb tc te tx : TE}
theorem ev_sumL {ns : List Int} (h : EvL te σ H (ns.map V.int)) : Ev (tCB (rSum K) (tCons te tNil)) σ H (.int ns.sum) := fun H1 e Q q =>
  h H1 e _ fun p H2 _ e2 hp => ⟨p, ns, rfl, sq_of hp, q H2 e2⟩
theorem ev_sumLa {ns : List Int} {a : Addr} (h : Ev te σ H (.ref a)) (hs : SqL K H a (ns.map V.int)) : Ev (tCB (rSum K) (tCons te tNil)) σ H (.int ns.sum) := fun H1 e Q q =>
  h H1 e _ fun H2 e2 => ⟨a, ns, rfl, ex_l (e.trans e2) hs, q H2 e2⟩
theorem et_yes : EvT tYes σ H true := fun H1 _ _ q => q H1 (Ex.refl H1)
/-- list(xs) -/
theorem el_listOf {p : Addr} {xs : List V} (ha : Ev ta σ H (.ref p)) (h : SqL K H p xs) : EvL (tCB (fun xs H Q => ∃ p ys, xs = [.ref p] ∧ (SqL K H p ys ∨ SqT K H p ys) ∧ ∀ l, H l = none → Q (.ref l) (upd H l (.lst ys))) (tCons ta tNil)) σ H xs := fun H1 e Q q =>
  ha H1 e _ fun H2 e2 => ⟨p, xs, rfl, .inl (ex_l (e.trans e2) h), fun l hl => q l _ (fresh_back e2 hl) (e2.trans (Ex.new hl)) upd_same⟩
/-- a call whose third argument is a new tuple -/
theorem ed_call3U {sp : Sp} {E : XK} {x y : V} {xs : List V} {d : PyData} (h1 : Ev ta σ H x) (h2 : Ev tb σ H y) (h3 : EvU tc σ H xs) (hs : ∀ p H1, Ex H H1 → H1 p = some (.tup xs) → SpD K sp [x, y, .ref p] H1 d) : EvD K (tCall sp [] E (tCons ta (tCons tb (tCons tc tNil)))) σ H d := fun H1 e Q q =>
  h1 H1 e _ fun H2 e2 => h2 H2 (e.trans e2) _ fun H3 e3 => h3 H3 ((e.trans e2).trans e3) _ fun p H4 hp e4 h4 =>
    hs p H4 (((e.trans e2).trans e3).trans e4) h4 H4 (Ex.refl _) Q (fun v H5 e5 hv => q v H5 (((e2.trans e3).trans e4).trans e5) hv) E
end
end KC
set_option Elab.async false
set_option linter.all false
set_option maxRecDepth 100000
set_option maxHeartbeats 4000000
namespace KC
open PySem PySem.Spec PyProof.Rows L2 StX GX Evl
section
variable {K : PySem.W.Frag} {σ : L2.St} {H H' : Hp} {ta tb tc te tx tl : TE} {D : Ends} {tz : TS}
theorem tt_yes {A B : Hp → Prop} (h : A H) : tYes σ H (fun b H3 => if b = true then A H3 else B H3) := by
  show (if true = true then A H else B H)
  rw [if_pos rfl]
  exact h
/-- a < b < c -/
theorem ev_chain {r r2 : R2} {x y z : V} {b1 b2 : Bool} (h1 : Ev ta σ H x) (h2 : Ev tb σ H y) (h3 : RV r x y H (.bl b1)) (h4 : b1 = true → Ev tc σ H z) (h5 : b1 = true → RV r2 y z H (.bl b2)) : Ev (tChain r r2 ta tb tc) σ H (.bl (b1 && b2)) := fun H1 e Q q =>
  h1 H1 e _ fun H2 e2 => h2 H2 (e.trans e2) _ fun H3 e3 => h3 H3 ((e.trans e2).trans e3) _ fun H4 e4 => by
    have e14 := (e2.trans e3).trans e4
    refine ⟨b1, rfl, ?_⟩
    cases b1 with
    | false =>
      rw [if_neg Bool.false_ne_true]
      exact q H4 e14
    | true =>
      rw [if_pos rfl]
      exact h4 rfl H4 (e.trans e14) _ fun H5 e5 => h5 rfl H5 ((e.trans e14).trans e5) _ fun H6 e6 => q H6 ((e14.trans e5).trans e6)
/-- max([c, *xs]) where c is not below any -/
theorem ev_maxStar {c : Int} {l : Addr} {ls : List Int} (h : Ev ta σ H (.int c)) (h2 : Ev tb σ H (.ref l)) (hs : SqL K H l (ls.map V.int)) (hb : ∀ x ∈ ls, x ≤ c) (hz : ls.length ≤ 1000) :
    Ev (tCB (rMax K) (tCons (tLst (tCons ta (tStar K tb tNil))) tNil)) σ H (.int c) := fun H1 e Q q =>
  h H1 e _ fun H2 e2 => h2 H2 (e.trans e2) _ fun H3 e3 => by
    refine ⟨l, ls.map V.int, rfl, .inr (ex_l ((e.trans e2).trans e3) hs), sz_of ?_, fun p hp => ⟨p, c :: ls, rfl, sq_of ?_, Nat.succ_pos _, fun m hm hall => ?_⟩⟩
    · simp
      omega
    · rw [upd_same, List.append_nil]
      rfl
    · have h1 := hall c List.mem_cons_self
      have h3 : m ≤ c := by
        rcases List.mem_cons.mp hm with z | z
        · omega
        · exact hb m z
      have h4 : m = c := by omega
      subst h4
      exact q _ ((e2.trans e3).trans (Ex.new hp))
theorem max_of : ∀ ls : List Int, ls ≠ [] → ∃ m, m ∈ ls ∧ ∀ y ∈ ls, y ≤ m
  | [], h => absurd rfl h
  | [x], _ => ⟨x, List.mem_cons_self, fun y hy => by rw [List.mem_singleton.mp hy]; exact Int.le_refl _⟩
  | x :: y :: r, _ => by
    obtain ⟨m, h1, h2⟩ := max_of (y :: r) (by simp)
    by_cases e : m ≤ x
    · refine ⟨x, List.mem_cons_self, fun z hz => ?_⟩
      rcases List.mem_cons.mp hz with h | h
      · omega
      · have := h2 z h; omega
    · refine ⟨m, List.mem_cons_of_mem _ h1, fun z hz => ?_⟩
      rcases List.mem_cons.mp hz with h | h
      · omega
      · exact h2 z h
/-- max(xs) -/
theorem ev_maxL {l : Addr} {ls : List Int} {m : Int} (h : Ev ta σ H (.ref l)) (hs : SqL K H l (ls.map V.int)) (hm : m ∈ ls) (hall : ∀ y ∈ ls, y ≤ m) : Ev (tCB (rMax K) (tCons ta tNil)) σ H (.int m) := fun H1 e Q q =>
  h H1 e _ fun H2 e2 => ⟨l, ls, rfl, ex_l (e.trans e2) hs, List.length_pos_of_mem hm, fun n hn hal => by
    have h1 := hal m hm
    have h2 := hall n hn
    have : n = m := by omega
    subst this
    exact q H2 e2⟩
theorem sum_bd : ∀ (l : List Int) (B : Int), (∀ x ∈ l, 0 ≤ x ∧ x ≤ B) → 0 ≤ l.sum ∧ l.sum ≤ l.length * B
  | [], B, _ => by simp
  | x :: r, B, h => by
    have h1 := sum_bd r B fun y hy => h y (List.mem_cons_of_mem _ hy)
    have h2 := h x List.mem_cons_self
    have e : ((x :: r).length : Int) * B = r.length * B + B := by
      rw [List.length_cons, Int.natCast_add, Int.add_mul]
      simp
    rw [List.sum_cons, e]
    omega
/-- sum(f(x) for x in xs if b(x)) -/
theorem ev_sumLF {tt : TT} {Pt l : Addr} {cm : List (Option Nat)} {own : List Nat} {xs : List Int} (f : Int → Int) (b : Int → Bool) (h : Ev tl σ H (.ref l)) (hx : SqL K H l (xs.map V.int)) (hn : xs.length ≤ 1000) (tab : H Pt = some (TabX Pt))
    (hf : ∀ x ∈ xs, 0 ≤ f x ∧ f x ≤ 2 ^ 40) (hw : ∀ x, wipe ((captS cm σ).set 0 (some x)) own = captS cm σ) (ht : ∀ x ∈ xs, ∀ H1, Ex H H1 → EvT tt ((captS cm σ).set 0 (some (.int x))) H1 (b x))
    (he : ∀ x ∈ xs, b x = true → ∀ H1, Ex H H1 → Ev te ((captS cm σ).set 0 (some (.int x))) H1 (.int (f x))) :
    Ev (tSumG (tGx Pt (iList K tl) (gName 0) tt te cm own)) σ H (.int ((xs.filter b).map f).sum) := fun H1 e Q q =>
  h H1 e _ fun H3 e13 => by
    have e03 := e.trans e13
    have hxl : (xs.map V.int).length = xs.length := List.length_map _
    refine ⟨l, rfl, ⟨_, ex_l e03 hx⟩, e03 Pt _ tab, fun i m zs H' => m + i = xs.length ∧ Ex H3 H' ∧ zs = (((xs.take i).filter b).map f).map V.int, ⟨xs.length, by omega, Ex.refl _, rfl⟩, ?_⟩
    rintro i m zs H' ⟨hm, e4, rfl⟩
    have e04 := e03.trans e4
    by_cases hi : i < xs.length
    · right
      refine ⟨⟨_, _, ex_l e04 hx, int_at hi⟩, fun zs H5 => (m - 1) + (i + 1) = xs.length ∧ Ex H3 H5 ∧ zs = (((xs.take (i + 1)).filter b).map f).map V.int, fun zs H5 q => ⟨m - 1, by omega, q⟩, ?_⟩
      rintro v H5 ⟨rfl, hx1⟩
      have ex1 := (Option.some.inj ((int_at hi).symm.trans (hx1 _ (ex_l e04 hx)))).symm
      subst ex1
      have hxi : xs.getD i 0 = xs[i] := by rw [List.getD_eq_getElem?_getD, List.getElem?_eq_getElem hi] <;> rfl
      have hmem : xs.getD i 0 ∈ xs := by rw [hxi]; exact List.getElem_mem hi
      have htk : xs.take (i + 1) = xs.take i ++ [xs.getD i 0] := by rw [hxi]; exact (List.take_append_getElem hi).symm
      refine ⟨hw _, ht _ hmem _ e04 _ (Ex.refl _) _ fun H6 e6 => ?_⟩
      cases hb : b (xs.getD i 0) with
      | false =>
        rw [if_neg Bool.false_ne_true]
        refine ⟨by omega, e4.trans e6, ?_⟩
        rw [htk, List.filter_append, List.filter_cons, if_neg (by rw [hb]; decide), List.filter_nil, List.append_nil]
      | true =>
        rw [if_pos rfl]
        refine he _ hmem hb _ (e04.trans e6) _ (Ex.refl _) _ fun H7 e7 => ?_
        have hall : ∀ y ∈ ((xs.take i).filter b).map f, 0 ≤ y ∧ y ≤ 2 ^ 40 := fun y hy => by
          obtain ⟨x, hx2, rfl⟩ := List.mem_map.mp hy
          exact hf x (List.mem_of_mem_take (List.mem_filter.mp hx2).1)
        have hb1 := sum_bd _ _ hall
        have hb2 := hf _ hmem
        have hlen : (((xs.take i).filter b).map f).length ≤ i := by
          rw [List.length_map]
          exact Nat.le_trans (List.length_filter_le _ _) (by rw [List.length_take]; omega)
        have hB : ((((xs.take i).filter b).map f).length : Int) * 2 ^ 40 ≤ 1000 * 2 ^ 40 := by omega
        refine ⟨sz_lt (by rw [List.length_map]; omega), ⟨f _, rfl, ⟨by omega, by omega⟩, ?_⟩, by omega, (e4.trans e6).trans e7, ?_⟩
        · rw [vsum_ints]
          exact ⟨by omega, by omega⟩
        · rw [htk, List.filter_append, List.filter_cons, if_pos hb, List.filter_nil, List.map_append, List.map_append]
          rfl
    · left
      have hin : i = xs.length := by omega
      subst hin
      refine ⟨⟨_, ex_l e04 hx, by rw [hxl]; exact Nat.le_refl _⟩, ?_⟩
      show Q (.int (vsum _)) H'
      rw [vsum_ints, List.take_length]
      exact q H' (e13.trans e4)
/-- any(b(x) for x in xs) -/
theorem ev_anyL {Pt l : Addr} {cm : List (Option Nat)} {own : List Nat} {xs : List Int} (b : Int → Bool) (h : Ev tl σ H (.ref l)) (hx : SqL K H l (xs.map V.int)) (hn : xs.length ≤ 1000) (tab : H Pt = some (TabX Pt))
    (hw : ∀ x, wipe ((captS cm σ).set 0 (some x)) own = captS cm σ) (he : ∀ x ∈ xs, ∀ H1, Ex H H1 → Ev te ((captS cm σ).set 0 (some (.int x))) H1 (.bl (b x))) :
    Ev (tAnyG (tGx Pt (iList K tl) (gName 0) tYes te cm own)) σ H (.bl (xs.any b)) := fun H1 e Q q =>
  h H1 e _ fun H3 e13 => by
    have e03 := e.trans e13
    have hxl : (xs.map V.int).length = xs.length := List.length_map _
    refine ⟨l, rfl, ⟨_, ex_l e03 hx⟩, e03 Pt _ tab, fun i m zs H' => m + i = xs.length ∧ Ex H3 H' ∧ zs = (xs.take i).map fun x => V.bl (b x), ⟨xs.length, by omega, Ex.refl _, rfl⟩, ?_⟩
    rintro i m zs H' ⟨hm, e4, rfl⟩
    have e04 := e03.trans e4
    by_cases hi : i < xs.length
    · right
      refine ⟨⟨_, _, ex_l e04 hx, int_at hi⟩, fun zs H5 => (m - 1) + (i + 1) = xs.length ∧ Ex H3 H5 ∧ zs = (xs.take (i + 1)).map fun x => V.bl (b x), fun zs H5 q => ⟨m - 1, by omega, q⟩, ?_⟩
      rintro v H5 ⟨rfl, hx1⟩
      have ex1 := (Option.some.inj ((int_at hi).symm.trans (hx1 _ (ex_l e04 hx)))).symm
      subst ex1
      have hxi : xs.getD i 0 = xs[i] := by rw [List.getD_eq_getElem?_getD, List.getElem?_eq_getElem hi] <;> rfl
      have hmem : xs.getD i 0 ∈ xs := by rw [hxi]; exact List.getElem_mem hi
      have htk : xs.take (i + 1) = xs.take i ++ [xs.getD i 0] := by rw [hxi]; exact (List.take_append_getElem hi).symm
      refine ⟨hw _, tt_yes ?_⟩
      refine he _ hmem _ e04 _ (Ex.refl _) _ fun H7 e7 => ?_
      have hyes : b (xs.getD i 0) = true → xs.any b = true := fun z => List.any_eq_true.mpr ⟨_, hmem, z⟩
      refine ⟨sz_lt (by rw [List.length_map, List.length_take]; omega), ⟨_, rfl, fun z => ?_⟩, by omega, e4.trans e7, ?_⟩
      · have := hyes z
        rw [← this]
        exact q _ ((e13.trans e4).trans e7)
      · rw [htk, List.map_append]
        rfl
    · left
      have hin : i = xs.length := by omega
      subst hin
      refine ⟨⟨_, ex_l e04 hx, by rw [hxl]; exact Nat.le_refl _⟩, fun hno => ?_⟩
      rw [List.take_length] at hno
      have hr : xs.any b = false := by
        rw [List.any_eq_false]
        intro x hx2 hb
        exact hno _ (List.mem_map.mpr ⟨x, hx2, rfl⟩) (by rw [hb])
      rw [← hr]
      exact q H' (e13.trans e4)
end
end KC
set_option Elab.async false
set_option linter.all false
set_option maxRecDepth 100000
set_option maxHeartbeats 4000000
/-! Objects: methods by the kind of the receiver's class, instances made, attributes. -/
namespace KC
open PySem PySem.Spec PyProof.Rows L2 GX Evl

/-- a method by the kind of its receiver's class: the class of kind i stands at Cl i -/
structure MCal (P : Program) (w : World) (K : PySem.W.Frag) (mg : Str → Option Value) (base : Heap) (Cl : Nat → Addr) (Is : Nat → Prop) (m : Str) (k : Nat) (ps : List Str) (sp : Nat → Sp) : Prop where
  out : ∀ i, Is i → Cls K (Cl i) ∧ ∃ f fd, Meth K (Cl i) m f ∧ Binds K fd ps [] ∧ FnOk P w K mg base CX0 k f fd ps (sp i)
def tMethD (Cl : Nat → Addr) (Is : Nat → Prop) (m : Str) (sp : Nat → Sp) (ta : TE) (t : TA) : TE := fun σ H Q => ta σ H fun x H1 => ∃ i a dx fs, Is i ∧ x = .ref a ∧ H1 a = some (.ins (Cl i) dx fs) ∧ fs.lookup m = none ∧
  t σ H1 fun vs H2 => sp i (x :: (vs ++ [])) H2 Q E0
section
variable {X : Cx} {k : Nat} {Cl : Nat → Addr} {Is : Nat → Prop} {ps : List Str} {sp : Nat → Sp} {m : Str} {pos apos : Pos} {e o : Expr} {es : List Expr} {ta : TE} {t : TA}
theorem pe_methD {pl : Sem Bool} (he : PE X o ta) (M : MCal X.prog X.w X.K X.mg X.base Cl Is m k ps sp) (hr : Room k X.A) (ha : PA X (e :: es) t)
    (hst : starEach (e :: es) X.env = (false, eval e X.env) :: starEach es X.env := by rfl) (hpl : (backTo pos (starEach es X.env)).any (·.1) = false := by rfl)
    (ht : eval (.Call (.Attribute o m apos) (e :: es) [] pos) X.env = (do
      let ov ← eval o X.env
      standAt apos.atName
      let (f, first) ← holding [ov] (getMethod ov m pl)
      callWith pos f first (backTo pos (starEach (e :: es) X.env)) (backToKw pos (keywordEach [] X.env))) := by rfl) :
    PE X (.Call (.Attribute o m apos) (e :: es) [] pos) (tMethD Cl Is m sp ta t) := by
  refine ⟨fun pins s σ H Q I h => ?_⟩
  refine PySem.W.methodCall_KW (pl := pl) (thn (he.run pins s σ H _ I h) fun u s1 ⟨x, H1, I1, rx, i, a, dx, fs, hi, ex, ea, l, q⟩ => ?_) ht
  subst ex
  obtain rfl : u = Value.ref a := rx
  obtain ⟨c, f, fd, hm, hb, F⟩ := M.out i hi
  refine getmeth_ok I1 ea c hm l ?_
  refine PySem.W.callWith_K (first := [.ref a]) (h₀ := X.base) I1.ok.mod.kin hm.kp (thn (ha.run pos pins s1 σ H1 _ I1 q) fun us s2 ⟨vs, H2, I2, r, q2⟩ => ⟨I2.kIn, ?_⟩) hst hpl
  exact run_fn (us := .ref a :: us) (vs := .ref a :: vs) F hr hb .nil pass0 I2 (.cons rfl r) q2
theorem pe_methD0 {pl : Sem Bool} (he : PE X o ta) (M : MCal X.prog X.w X.K X.mg X.base Cl Is m k ps sp) (hr : Room k X.A)
    (ht : eval (.Call (.Attribute o m apos) [] [] pos) X.env = (do
      let ov ← eval o X.env
      standAt apos.atName
      let (f, first) ← holding [ov] (getMethod ov m pl)
      callWith pos f first (backTo pos (starEach [] X.env)) (backToKw pos (keywordEach [] X.env))) := by rfl) :
    PE X (.Call (.Attribute o m apos) [] [] pos) (tMethD Cl Is m sp ta tNil) := by
  refine ⟨fun pins s σ H Q I h => ?_⟩
  refine PySem.W.methodCall_KW (pl := pl) (thn (he.run pins s σ H _ I h) fun u s1 ⟨x, H1, I1, rx, i, a, dx, fs, hi, ex, ea, l, q⟩ => ?_) ht
  subst ex
  obtain rfl : u = Value.ref a := rx
  obtain ⟨c, f, fd, hm, hb, F⟩ := M.out i hi
  refine getmeth_ok I1 ea c hm l ?_
  exact PySem.W.callWith_K0 (first := [.ref a]) I1.kIn hm.kp (run_fn (us := [.ref a]) (vs := [.ref a]) F hr hb .nil pass0 I1 (.cons rfl .nil) q)
end
/-- a class called by its name -/
structure CalM (P : Program) (w : World) (K : PySem.W.Frag) (mg : Str → Option Value) (base : Heap) (nm : Str) (C : Addr) (k : Nat) (ps : List Str) (sp : Sp) : Prop where
  out : ∃ f fd, mg nm = some (.ref C) ∧ Mk K C f ∧ Binds K fd ps [] ∧ FnOk P w K mg base CX0 k f fd ps sp
theorem pe_makeC {X : Cx} {nm : Str} {C : Addr} {k : Nat} {ps : List Str} {sp : Sp} {p pos : Pos} {e : Expr} {es : List Expr} {t : TA} (M : CalM X.prog X.w X.K X.mg X.base nm C k ps sp) (hr : Room (k + 1) X.A) (hg : Gl X nm) (ha : PA X (e :: es) t)
    (hdb : (nm == ("__debug__" : Str)) = false := by decide) (he : starEach (e :: es) X.env = (false, eval e X.env) :: starEach es X.env := by rfl) (hpl : (backTo pos (starEach es X.env)).any (·.1) = false := by rfl) :
    PE X (.Call (.Name nm p) (e :: es) [] pos) (tMake C sp [] E0 t) := by
  obtain ⟨f, fd, h1, h2, h3, h4⟩ := M.out
  exact pe_make h2 h4 hr hg h1 h3 .nil pass0 ha hdb he hpl
/-- xs[i] of a list, the index from 0 -/
def rIxL0 (K : PySem.W.Frag) : R2 := fun x y H Q => ∃ p xs, ∃ (i : Nat), ∃ v, x = .ref p ∧ y = .int (i : Int) ∧ SqL K H p xs ∧ xs[i]? = some v ∧ Q v H
theorem get_list {X : Cx} : PGet X (rIxL0 X.K) := by
  intro pins s σ H x y v u Q I rx ry h
  obtain ⟨p, xs, i, z, rfl, rfl, hq, he, q⟩ := h
  cases rx
  obtain ⟨t, rfl⟩ := ry
  obtain ⟨its, r, pl, hz⟩ := I.list hq
  obtain ⟨w, ew, rw'⟩ := r.get he
  have hn := line63
  have hl := r.length
  have hi := (List.getElem?_eq_some_iff.mp he).1
  refine wpAny_getItem_list pl.isList (by omega) (by omega) (x := w) ?_ ⟨z, H, I, rw', q⟩
  simpa using ew

/-! ### readings -/
section
variable {K : PySem.W.Frag} {σ : L2.St} {H H' : Hp} {ta tb te tx : TE} {v x : V} {D : Ends} {tz : TS} {a C dx : Addr} {fs : List (Str × V)} {f : Str}
theorem ev_fld (ha : Ev ta σ H (.ref a)) (h : H a = some (.ins C dx fs)) (c : Cls K C) (n : NoAttr K C f) (l : fs.lookup f = some v) : Ev (tFld K ta f) σ H v := fun H1 e Q q =>
  ha H1 e _ fun H2 e2 => ⟨a, C, dx, fs, v, rfl, (e.trans e2) a _ h, c, n, l, q H2 e2⟩
theorem s_fld (hv : Ev te σ H v) (ha : Ev ta σ H (.ref a)) (h : H a = some (.ins C dx fs)) (c : Cls K C) (n : NoAttr K C f) (hl : fs.length < 1000) (k : ∀ H1, Ex H H1 → D.nx σ (upd H1 a (.ins C dx (putF f v fs)))) : sFld K ta te f D σ H :=
  hv H (Ex.refl H) _ fun H1 e1 => ha H1 e1 _ fun H2 e2 => ⟨a, C, dx, fs, rfl, (e1.trans e2) a _ h, c, n, hl, k H2 (e1.trans e2)⟩
theorem q_fld (hv : Ev te σ H v) (ha : Ev ta σ H (.ref a)) (h : H a = some (.ins C dx fs)) (c : Cls K C) (n : NoAttr K C f) (hl : fs.length < 1000) (k : ∀ H1, Ex H H1 → tz D σ (upd H1 a (.ins C dx (putF f v fs)))) : tSeq (sFld K ta te f) tz D σ H :=
  s_fld (D := { D with nx := tz D }) hv ha h c n hl k
theorem s_fldL {xs : List V} (hv : EvL te σ H xs) (ha : Ev ta σ H (.ref a)) (h : H a = some (.ins C dx fs)) (c : Cls K C) (n : NoAttr K C f) (hl : fs.length < 1000) (k : ∀ p H1, H p = none → Ex H H1 → H1 p = some (.lst xs) → D.nx σ (upd H1 a (.ins C dx (putF f (.ref p) fs)))) : sFld K ta te f D σ H :=
  hv H (Ex.refl H) _ fun p H1 hp e1 h1 => ha H1 e1 _ fun H2 e2 => ⟨a, C, dx, fs, rfl, (e1.trans e2) a _ h, c, n, hl, k p H2 hp (e1.trans e2) (e2 p _ h1)⟩
theorem q_fldL {xs : List V} (hv : EvL te σ H xs) (ha : Ev ta σ H (.ref a)) (h : H a = some (.ins C dx fs)) (c : Cls K C) (n : NoAttr K C f) (hl : fs.length < 1000) (k : ∀ p H1, H p = none → Ex H H1 → H1 p = some (.lst xs) → tz D σ (upd H1 a (.ins C dx (putF f (.ref p) fs)))) : tSeq (sFld K ta te f) tz D σ H :=
  s_fldL (D := { D with nx := tz D }) hv ha h c n hl k
theorem ev_meth {Cl : Nat → Addr} {Is : Nat → Prop} {m : Str} {sp : Nat → Sp} {t : TA} {i : Nat} {vs : List V} (ha : Ev ta σ H (.ref a)) (hi : Is i) (h : H a = some (.ins (Cl i) dx fs)) (l : fs.lookup m = none) (ht : EvA t σ H vs) (hs : SpV (sp i) (.ref a :: (vs ++ [])) H v) : Ev (tMethD Cl Is m sp ta t) σ H v := fun H1 e Q q =>
  ha H1 e _ fun H2 e2 => ⟨i, a, dx, fs, hi, rfl, (e.trans e2) a _ h, l, ht H2 (e.trans e2) _ fun H3 e3 => hs H3 ((e.trans e2).trans e3) Q (fun H4 e4 => q H4 ((e2.trans e3).trans e4)) E0⟩
theorem cutV_to (xs : List V) (n : Nat) : cutV xs none (some (n : Int)) = xs.take n := by
  unfold cutV
  rw [HT.sIx_none, HT.sIx_nat, List.drop_zero, Nat.sub_zero]
  by_cases h : n ≤ xs.length
  · rw [Nat.min_eq_left h]
  · rw [Nat.min_eq_right (by omega), List.take_of_length_le (Nat.le_refl _), List.take_of_length_le (by omega)]
theorem s_augS {to ti : TE} {l : Addr} {xs : List V} {s : Nat} {p q : Int} {g : Int → Int → Int} (hl : H l = some (.lst xs)) (ho : Ev to σ H (.ref l)) (hi : Ev ti σ H (.int (s : Int))) (hx : xs[s]? = some (.int p)) (he : Ev te σ H (.int q)) (k : ∀ H1, Ex H H1 → D.nx σ (upd H1 l (.lst (xs.set s (.int (g p q)))))) :
    tAugS to ti te (rIxL0 K) (ipI g) rSetL D σ H :=
  ho H (Ex.refl H) _ fun H1 e1 => hi H1 e1 _ fun H2 e2 => ⟨l, xs, s, _, rfl, rfl, sq_of ((e1.trans e2) l _ hl), hx, he H2 (e1.trans e2) _ fun H3 e3 => ⟨p, q, rfl, rfl, l, xs, (s : Int), s, rfl, rfl, ((e1.trans e2).trans e3) l _ hl, ixN_nat ((List.getElem?_eq_some_iff.mp hx).1), k H3 ((e1.trans e2).trans e3)⟩⟩
theorem q_augS {to ti : TE} {l : Addr} {xs : List V} {s : Nat} {p q : Int} {g : Int → Int → Int} (hl : H l = some (.lst xs)) (ho : Ev to σ H (.ref l)) (hi : Ev ti σ H (.int (s : Int))) (hx : xs[s]? = some (.int p)) (he : Ev te σ H (.int q)) (k : ∀ H1, Ex H H1 → tz D σ (upd H1 l (.lst (xs.set s (.int (g p q)))))) :
    tSeq (tAugS to ti te (rIxL0 K) (ipI g) rSetL) tz D σ H := s_augS (D := { D with nx := tz D }) hl ho hi hx he k
/-- it gives something that is so -/
def EvP (te : TE) (σ : L2.St) (H : Hp) (R : V → Hp → Prop) : Prop := ∀ H1, Ex H H1 → ∀ Q : VK, (∀ v H2, Ex H1 H2 → R v H2 → Q v H2) → te σ H1 Q
theorem s_retP {R : V → Hp → Prop} (h : EvP te σ H R) (k : ∀ v H1, Ex H H1 → R v H1 → D.rt v H1) : tRet te D σ H := h H (Ex.refl H) _ k
theorem s_asgP {i : Nat} {R : V → Hp → Prop} (h : EvP te σ H R) (k : ∀ v H1, Ex H H1 → R v H1 → D.nx (σ.set i (some v)) H1) : tAsg te (gName i) D σ H := h H (Ex.refl H) _ k
theorem q_asgP {i : Nat} {R : V → Hp → Prop} (h : EvP te σ H R) (k : ∀ v H1, Ex H H1 → R v H1 → tz D (σ.set i (some v)) H1) : tSeq (tAsg te (gName i)) tz D σ H := h H (Ex.refl H) _ k
theorem q_fldP {R : V → Hp → Prop} (hv : EvP te σ H R) (ha : Ev ta σ H (.ref a)) (h : H a = some (.ins C dx fs)) (c : Cls K C) (n : NoAttr K C f) (hl : fs.length < 1000) (k : ∀ v H1 H2, Ex H H1 → R v H1 → Ex H1 H2 → tz D σ (upd H2 a (.ins C dx (putF f v fs)))) : tSeq (sFld K ta te f) tz D σ H :=
  hv H (Ex.refl H) _ fun v H1 e1 r => ha H1 e1 _ fun H2 e2 => ⟨a, C, dx, fs, rfl, (e1.trans e2) a _ h, c, n, hl, k v H1 H2 e1 r e2⟩
/-- [e for x in range(n)] whose items are new objects -/
theorem ep_lcR1 {ta : TA} {j n : Nat} {vs : List Nat} {R : V → Hp → Prop} (h : EvA ta σ H [.int (n : Int)]) (hn : n ≤ 40000) (hw : ∀ x, wipe ((wipe σ vs).set j (some x)) vs = wipe σ vs) (Pv : Hp → Addr → Nat → Hp → Prop)
    (h0 : ∀ H1 Dl, Ex H H1 → H1 Dl = none → Pv H1 Dl 0 (upd H1 Dl (.lst [])))
    (hs : ∀ H1 Dl i H', Ex H H1 → H1 Dl = none → i < n → Pv H1 Dl i H' → te ((wipe σ vs).set j (some (.int (i : Int)))) H' fun y H4 => ∃ acc, H4 Dl = some (.lst acc) ∧ acc.length < sizeLine ∧ Pv H1 Dl (i + 1) (upd H4 Dl (.lst (acc ++ [y]))))
    (hd : ∀ H1 Dl H', Ex H H1 → H1 Dl = none → Pv H1 Dl n H' → Ex H1 H' ∧ R (.ref Dl) H') : EvP (tLc (iRng1 ta) (gName j) tYes te vs) σ H R := fun H0 e0 Q q =>
  h H0 e0 _ fun H1 e1 => ⟨(n : Int), rfl, by omega, by omega, fun Dl hD => lc_range (lo := 0) (n := n) (Pv H1 Dl) (h0 H1 Dl (e0.trans e1) hD) (fun i H' hi p => by
    have e2 : (0 : Int) + (i : Int) = (i : Int) := Int.zero_add _
    show wipe ((wipe σ vs).set j (some (.int ((0 : Int) + (i : Int))))) vs = wipe σ vs ∧ tYes ((wipe σ vs).set j (some (.int ((0 : Int) + (i : Int))))) H' fun b H3 => _
    rw [e2]
    exact ⟨hw _, tt_yes (hs H1 Dl i H' (e0.trans e1) hD hi p)⟩) fun H' p => by
      obtain ⟨e3, r⟩ := hd H1 Dl H' (e0.trans e1) hD p
      exact q _ H' (e1.trans e3) r⟩
theorem ev_methP {Cl : Nat → Addr} {Is : Nat → Prop} {m : Str} {sp : Nat → Sp} {t : TA} {i : Nat} {vs : List V} {R : V → Hp → Prop} (ha : Ev ta σ H (.ref a)) (hi : Is i) (h : H a = some (.ins (Cl i) dx fs)) (l : fs.lookup m = none) (ht : EvA t σ H vs)
    (hs : ∀ H1, Ex H H1 → ∀ Q : VK, (∀ v H2, Ex H1 H2 → R v H2 → Q v H2) → sp i (.ref a :: (vs ++ [])) H1 Q E0) : EvP (tMethD Cl Is m sp ta t) σ H R := fun H1 e Q q =>
  ha H1 e _ fun H2 e2 => ⟨i, a, dx, fs, hi, rfl, (e.trans e2) a _ h, l, ht H2 (e.trans e2) _ fun H3 e3 => hs H3 ((e.trans e2).trans e3) Q (fun v H4 e4 r => q v H4 ((e2.trans e3).trans e4) r)⟩
/-- C(..) -/
theorem ev_make {sp : Sp} {t : TA} {vs : List V} {R : V → Hp → Prop} (ht : EvA t σ H vs)
    (hs : ∀ H1 x dx, Ex H H1 → H1 x = none → H1 dx = none → dx ≠ x → ∀ Q : VK, (∀ H2, Ex H1 H2 → R (.ref x) H2 → Q .non H2) → sp (.ref x :: (vs ++ [])) (upd (upd H1 dx (.own x)) x (.ins C dx [])) Q E0) : EvP (tMake C sp [] E0 t) σ H R := fun H1 e Q q =>
  ht H1 e _ fun H2 e2 x dx nx nd ne => hs H2 x dx (e.trans e2) nx nd ne _ fun H3 e3 r => ⟨rfl, q _ H3 (e2.trans e3) r⟩
theorem made_ex {x : Addr} (nx : H x = none) (nd : H dx = none) : Ex H (upd (upd H dx (.own x)) x (.ins C dx [])) := fun b o e => by
  rw [upd_ne (ne_of_none e nx), upd_ne (ne_of_none e nd)]
  exact e
/-- the heap behind a change that touches only what stands at F -/
def Kp (F : Addr → Prop) (H H' : Hp) : Prop := ∀ b o, H b = some o → ¬ F b → H' b = some o
theorem Kp.of_ex {F : Addr → Prop} (e : Ex H H') : Kp F H H' := fun b o h _ => e b o h
theorem Kp.trans {F : Addr → Prop} {H1 H2 H3 : Hp} (a : Kp F H1 H2) (b : Kp F H2 H3) : Kp F H1 H3 := fun x o h n => b x o (a x o h n) n
theorem Kp.put {F : Addr → Prop} {p : Addr} {o : HO} (a : Kp F H H') (h : F p) : Kp F H (upd H' p o) := fun b u e n => by
  have hb : b ≠ p := fun z => by
    subst z
    exact n h
  rw [upd_ne hb]
  exact a b u e n
theorem Kp.mono {F G : Addr → Prop} (a : Kp F H H') (h : ∀ b o, F b → H b = some o → G b) : Kp G H H' := fun b o e n => a b o e fun f => n (h b o f e)
theorem Kp.ex {F : Addr → Prop} (a : Kp F H H') (h : ∀ b, F b → H b = none) : Ex H H' := fun b o e => a b o e fun f => by
  rw [h b f] at e
  cases e
/-- for i, x in enumerate(xs) -/
theorem s_forEn {tu : TS} {xs : List V} {j k : Nat} (h : Ev ta σ H (.ref a)) (hx : SqL K H a xs) (Pv : Nat → L2.St → Hp → Prop) (h0 : ∀ H1, Ex H H1 → Pv 0 σ H1) (hl : ∀ i σ' H', Pv i σ' H' → SqL K H' a xs)
    (hs : ∀ i x σ' H' H2, xs[i]? = some x → Pv i σ' H' → Ex H' H2 → tu { D with nx := Pv (i + 1), ct := Pv (i + 1), bk := D.nx } ((σ'.set j (some (.int (i : Int)))).set k (some x)) H2) (hd : ∀ σ' H', Pv xs.length σ' H' → D.nx σ' H') :
    tFor (iEnum K (tCons ta tNil)) (gTup K 2 (gCons (gName j) (gCons (gName k) gNil))) tu D σ H :=
  h H (Ex.refl H) _ fun H1 e => ⟨a, xs, rfl, ex_l e hx, fun i m σ' H' => m + i = xs.length ∧ Pv i σ' H', ⟨xs.length, by omega, h0 H1 e⟩, fun i m σ' H' ⟨hm, p⟩ => by
    by_cases hi : i < xs.length
    · right
      obtain ⟨v, hv⟩ : ∃ v, xs[i]? = some v := ⟨_, List.getElem?_eq_getElem hi⟩
      refine ⟨⟨xs, v, hl i σ' H' p, hv⟩, Pv (i + 1), fun σ2 H2 q => ⟨m - 1, by omega, by omega, q⟩, ?_⟩
      rintro x H5 ⟨t, v2, rfl, ht, rfl, hv2⟩
      have ev := Option.some.inj (hv.symm.trans (hv2 _ (hl i σ' H' p)))
      subst ev
      exact ⟨t, _, rfl, .inl (.inl upd_same), rfl, _, _, rfl, _, _, rfl, rfl, hs i v σ' H' _ hv p (Ex.new ht)⟩
    · left
      have e2 : i = xs.length := by omega
      subst e2
      exact ⟨⟨xs, hl _ σ' H' p, by omega⟩, hd σ' H' p⟩⟩
theorem q_forEn {tu : TS} {xs : List V} {j k : Nat} (h : Ev ta σ H (.ref a)) (hx : SqL K H a xs) (Pv : Nat → L2.St → Hp → Prop) (h0 : ∀ H1, Ex H H1 → Pv 0 σ H1) (hl : ∀ i σ' H', Pv i σ' H' → SqL K H' a xs)
    (hs : ∀ i x σ' H' H2, xs[i]? = some x → Pv i σ' H' → Ex H' H2 → tu { D with nx := Pv (i + 1), ct := Pv (i + 1), bk := tz D } ((σ'.set j (some (.int (i : Int)))).set k (some x)) H2) (hd : ∀ σ' H', Pv xs.length σ' H' → tz D σ' H') :
    tSeq (tFor (iEnum K (tCons ta tNil)) (gTup K 2 (gCons (gName j) (gCons (gName k) gNil))) tu) tz D σ H := s_forEn (D := { D with nx := tz D }) h hx Pv h0 hl hs hd
/-- if t: xs[j] = e -/
theorem q_ifSetL {t : TT} {b : Bool} {l : Addr} {xs ys : List V} {j : Nat} (hl : H l = some (.lst xs)) (h : EvT t σ H b) (he : b = true → Ev te σ H v) (ho : b = true → Ev ta σ H (.ref l)) (hi : b = true → Ev tb σ H (.int (j : Int))) (hj : b = true → j < xs.length) (hy : ys = if b = true then xs.set j v else xs)
    (k : ∀ H1, Kp (fun b => b = l) H H1 → (∀ x, H1 x = none → H x = none) → H1 l = some (.lst ys) → tz D σ H1) : tSeq (tIfS t (tAsg te (gSub ta tb rSetL)) tNext) tz D σ H := by
  refine q_when h (fun hb H1 e1 => ?_) (fun hb H1 e1 => ?_)
  · refine s_setL (e1 _ _ hl) ((he hb).mono e1) ((ho hb).mono e1) ((hi hb).mono e1) (hj hb) fun H2 e2 => k _ (Kp.put (Kp.of_ex (e1.trans e2)) rfl) (fun x hx => ?_) (by rw [upd_same, hy, if_pos hb])
    by_cases z : x = l
    · rw [z, upd_same] at hx
      cases hx
    · rw [upd_ne z] at hx
      exact fresh_back (e1.trans e2) hx
  · exact k H1 (Kp.of_ex e1) (fun x hx => fresh_back e1 hx) (by rw [hy, if_neg (by rw [hb]; decide)]; exact e1 _ _ hl)
theorem putF_putF {f : Str} {u v : V} : ∀ fs : List (Str × V), putF f v (putF f u fs) = putF f v fs
  | [] => by
    show (if f = f then [(f, v)] else (f, u) :: putF f v []) = [(f, v)]
    rw [if_pos rfl]
  | (g, y) :: r => by
    by_cases h : g = f
    · show putF f v (if g = f then (g, u) :: r else _) = (if g = f then (g, v) :: r else _)
      rw [if_pos h, if_pos h]
      show (if g = f then (g, v) :: r else _) = _
      rw [if_pos h]
    · show putF f v (if g = f then (g, u) :: r else (g, y) :: putF f u r) = (if g = f then (g, v) :: r else (g, y) :: putF f v r)
      rw [if_neg h, if_neg h]
      show (if g = f then (g, v) :: putF f u r else (g, y) :: putF f v (putF f u r)) = _
      rw [if_neg h, putF_putF r]
end
end KC
set_option Elab.async false
set_option linter.all false
set_option maxRecDepth 100000
set_option maxHeartbeats 4000000
/-! Own exceptions whose __init__ reads self.__class__.__name__: the two attributes. -/
namespace KX
open PySem PySem.W PySem.Calls PyProof.Rows Builtin Builtin.ObjectAttr Builtin.Getset_descriptor
section
variable {prog : Program} {w : World} {A : Around} {E : Value → Shared → Prop} {s : Shared} {K : Frag} {R : Result → Shared → Prop} {C : Addr}
theorem nam_args (d tp : Value) (C : Addr) : descrGetArgs ⟨[d, .ref C, tp], []⟩ = pure (d, some (.ref C), given tp) := by first | rfl | kernel_rfl
/-- the getter of a class's name, where the name is kept -/
theorem nam_get {tp v : Value} {o : Obj} (X : K.In s.heap) (hk : K.lookup C = some o) (hs : o.slots[2]? = some (some v)) (tC : typeIn K (.ref C) = some (.type "type")) (h : R (.ok (.ret v)) s) :
    codeAny (model prog w) A (.call (.builtin "getset_descriptor.__get__") ⟨[.builtin "type.__name__", .ref C, tp], []⟩) R s := by
  obtain ⟨hh, g, dr, t, os⟩ := s
  have T0 : Looks (model prog w) hh (typeOf (.ref C)) (.type "type") := looks_typeIn X tC
  have T1 : Looks (model prog w) hh (isSubtype (.type "type") (.type "type")) true := Looks.of_pure (by rw [isSubtype_type] <;> kernel_rfl)
  refine codeAny_call_builtin KF.slot_gs.plain KF.entry_gs (KF.slot_gs.check _ _ _ _ _ _ _ _ ktyn_type (KF.args_gs _ _ _) ?_)
  unfold Builtin.«getset_descriptor.__get__» descrGet
  rw [nam_args]
  refine wpAny_bind (wpAny_pure ?_)
  unfold descrGetter descrCheckInstance descrNameAndClass isInstance
  simp only [ktyn_owner]
  repeat lk
  refine ⟨Code.quiet_builtin _ (by decide +kernel), codeAny_builtin ktyn_entry ?_⟩
  unfold Builtin.«type.__name__»
  dsimp only
  unfold keptObject slotAt
  dsimp only
  have ho := X _ _ hk
  refine wpAny_bind (wpAny_bind (wpAny_loadPart ho (wpAny_pure ?_)))
  rw [hs]
  first
    | exact wpAny_bind (wpAny_pure (wpAny_pure h))
    | exact wpAny_pure (wpAny_pure h)
    | exact wpAny_bind (wpAny_bind (wpAny_pure h))
    | (show wpAny _ _ (ret v >>= _) _ _ _; exact wpAny_bind (wpAny_pure (wpAny_pure h)))
/-- e.__class__, e an exception of an own class -/
theorem exc_cls {x : Addr} {ox : Obj} {od : Option Obj} {expr : Bool} {gt : Option Value} {Q : Value → Shared → Prop} (X : K.In s.heap) (I : InstAt s.heap x ox C od) (g1 : findIn K (.ref C) "__getattribute__" = some (some (.builtin "BaseException.__getattribute__")))
    (g2 : findIn K (.ref C) "__getattr__" = some gt) (g3 : subIn K (.ref C) (.type "BaseException") = some true) (g4 : findObj K C od "__class__" = some (.bind (.builtin "getset_descriptor.__get__") (.builtin "object.__class__"))) (g5 : mroIn K C (.type "object") = some true)
    (q : Q (.ref C) { s with toks := s.toks + 1 }) : wpAny (model prog w) A (getAttr (.ref x) "__class__" expr) Q E s := by
  obtain ⟨hh, gg, dd, tt, oo⟩ := s
  have a0 := I.type (M := model prog w)
  have a3 := looks_find (M := model prog w) X I g4
  have sub : Looks (model prog w) hh (isInstance (.ref x) (.type "BaseException")) true := a0.andThen (looks_subIn X g3)
  have nb : (Value.builtin "BaseException.__getattribute__" == Value.builtin "object.__getattribute__") = false := by decide +kernel
  have n1 : (onTheHeap (Value.ref C) && Value.builtin "BaseException.__getattribute__" == Value.builtin "object.__getattribute__") = false := (congrArg (onTheHeap (Value.ref C) && ·) nb).trans (Bool.and_false _)
  have n0 : (expr && onTheHeap (Value.builtin "BaseException.__getattribute__")) = false := by cases expr <;> rfl
  unfold getAttr getAttrBy
  refine wpAny_bind (wpAny_mkText (wpAny_holding (wpAny_bind (a0.at (wpAny_bind ((looks_findIn X g1).at ?_)))))); show wpAny _ _ (if (onTheHeap (Value.ref C) && Value.builtin "BaseException.__getattribute__" == Value.builtin "object.__getattribute__") = true then _ else _) _ _ _
  rw [n1, if_neg Bool.false_ne_true]; unfold getAttrByItsOwn hookBefore
  refine wpAny_bind ?_; rw [if_pos (show onTheHeap (Value.ref C) = true from rfl)]
  refine (looks_findIn X g2).at (wpAny_bind (wpAny_attempt (wpAny_holding ?_))); unfold callGetattribute
  rw [n0, if_neg Bool.false_ne_true]; unfold boundAndCalled
  rw [PySem.F.excAttr_ValueError.ga.bind (.ref x)]; refine wpAny_bind (wpAny_pure ?_); show wpAny _ _ (call (.builtin "BaseException.__getattribute__") [.ref x, .str "__class__" tt]) _ _ _
  refine wpAny_call (codeAny_call_builtin PySem.F.excAttr_ValueError.ga.plain PySem.F.entry_bexc_ga (@PySem.W.check_slot (model prog w) _ _ ⟨hh, gg, dd, tt + 1, oo⟩ "BaseException.__getattribute__" "BaseException" "__getattribute__" (.ref x) [.str "__class__" tt] [] _ (by decide +kernel) (by decide +kernel) sub (PySem.F.args_bexc_ga (.ref x) (.str "__class__" tt)) ?_))
  unfold Builtin.«object.__getattribute__»; refine wpAny_bind (wpAny_of_eq (a := ((Value.ref x : Value), [Value.str "__class__" tt])) (by first | rfl | (simp only [slotArgs]; rfl)) (wpAny_bind (wpAny_pure (wpAny_bind (a0.at (wpAny_bind (a3.at ?_)))))))
  refine wpAny_bind (wpAny_holding (wpAny_call (class_get (s := ⟨hh, gg, dd, tt + 1, oo⟩) (ox := ox) (od := od) X I g5 ?_))); refine wpAny_pure ?_
  show wpAny _ _ (handedOut (.ref C)) _ _ _
  rw [handedOut_of (show handedIn (.ref C) = true from rfl)]
  first
    | exact wpAny_pure q
    | exact wpAny_pure (wpAny_pure q)
end
open L2
/-- what the written part says of a class's name -/
structure NamK (K : PySem.W.Frag) (C : Addr) (nm : Str) : Prop where
  ob : ∃ (o : Obj) (tk : Tok), K.lookup C = some o ∧ o.slots[2]? = some (some (.str nm tk))
  ty : PySem.W.typeIn K (.ref C) = some (.type "type")
  rd : PySem.W.readsIn K C (.type "type") = true
  fd : PySem.W.findCls K (.ref C) (.type "type") "__name__" = some (.get (.builtin "getset_descriptor.__get__") (.builtin "type.__name__") (.ref C) (.type "type"))
def tECls (K : PySem.W.Frag) (te : TE) : TE := fun σ H Q => te σ H fun x H1 => ∃ (a C dx : Addr) (fs : List (Str × V)), x = .ref a ∧ ExcC K C ∧ H1 a = some (exo a C (some dx)) ∧ H1 dx = some (exd dx fs) ∧ Q (.ref C) H1
def tCNam (K : PySem.W.Frag) (te : TE) : TE := fun σ H Q => te σ H fun x H1 => ∃ (C : Addr) (nm : Str), x = .ref C ∧ NamK K C nm ∧ Q (.str nm) H1
/-- BaseException.__init__ over an exception that has its dict -/
theorem init_dict {prog : Program} {w : World} {A : Around} {R : Result → Shared → Prop} {h : Heap} {g : Array GenState} {d : Drawn} {t : Nat} {os : OsState} {nm q : Str} {C N : Addr} {bs bm bmB : List Value} {hdct : Bool} {sn : List Str} {sub : List Value} {ab : Bool} {col : Option Bool} {dd : Option Addr} {k0 k1 k2 k3 k5 : Option Value} {B newId initId : String}
    (F : ExcBaseFacts B newId initId bmB) (hT : ∀ X : String, bm.contains (.type X) = bmB.contains (.type X)) {e t0 : Addr} {od : Option Addr} {rest : List Value} (hC : h.get? C = some (excClassObj nm q C N bs bm hdct sn sub ab col dd k0 k1 k2 k3 k5 newId))
    (he : h.get? e = some ({ cls := .ref C, dict := od, data := .fields #[.ref t0, .none, .none, .none, .bool false, .none] } : Obj)) (hr : rest.length ≤ sizeLine)
    (hq : ∀ h' (t1 : Addr), (∀ b o, b ≠ e → h.get? b = some o → h'.get? b = some o) → h'.get? e = some ({ cls := .ref C, dict := od, data := .fields #[.ref t1, .none, .none, .none, .bool false, .none] } : Obj) → R (.ok (.ret .none)) ⟨h', g, d, t, os⟩) :
    codeAny (model prog w) A (.call (.builtin initId) ⟨.ref e :: rest, []⟩) R ⟨h, g, d, t, os⟩ := by
  refine codeAny_call_builtin F.init.plain F.initEntry (PySem.HandSPX.check_init_own F hT hC he rfl ?_)
  wp_walk
  refine hq _ h.objs.size (fun b o hb ho => ?_) ?_
  · rw [Heap.get?_update_other _ _ (fun z => hb z.symm), Heap.get?_push_of_some _ ho]
  · rw [Heap.get?_update_self _ (Heap.get?_push_of_some _ he) rfl]; rfl
section
variable {X : Cx} {pins : List (Addr × Obj)} {σ : L2.St} {H : Hp} {s : Shared} {A : Around} {E : Value → Shared → Prop} {C a : Addr}
theorem init_okD {us : List Value} {od : Option Addr} {Q : Value → Shared → Prop} (T : OexC X.K C) (I : Inv X pins σ H s) (e : H a = some (exo a C od)) (hl : us.length ≤ sizeLine) (h : ∀ s', Inv X pins σ H s' → Q .none s') :
    wpAny (model X.prog X.w) A (call (.builtin "ValueError.__init__") (.ref a :: us)) Q E s := by
  obtain ⟨nm, q, N, bs, bm, sn, sub, ab, col, dd, k0, k1, k2, k3, k5, hC, hbm⟩ := T.cls
  obtain ⟨t1, ho⟩ := exo_at I.hok e
  obtain ⟨hp, g, d, t, os⟩ := s
  refine wpAny_call (init_dict F.excBase_ValueError (fun Y => PySem.HandSPX.refsVE_contains Y bm hbm) (I.kIn _ _ hC) ho hl fun h' t2 k hx => ?_)
  have J := I.write (t' := t) (x := a) (e := a) (o := exo a C od) (by rw [e]; exact True.intro) (.inl rfl) k ⟨_, hx⟩ (exo_ok hx)
  have eu : upd H a (exo a C od) = H := GX.upd_id e
  rw [eu] at J
  exact h _ J
end
section
variable {X : Cx} {e : Expr} {te : TE} {pos : Pos}
/-- ValueError.__init__(self, ..), self with or without its dict -/
def tVeD (K : PySem.W.Frag) (ta : TA) : TE := fun σ H Q => ta σ H fun vs H1 => ∃ (a C : Addr) (od : Option Addr) (ws : List V), vs = .ref a :: ws ∧ ws.length ≤ 1000 ∧ OexC K C ∧ H1 a = some (exo a C od) ∧ Q .non H1
theorem pe_veD {es : List Expr} {ta : TA} {p1 p2 : Pos} {pl : Sem Bool} (hg : Gl X "ValueError") (hm : X.mg "ValueError" = none) (vV : PySem.W.findCls X.K (.type "ValueError") (.type "type") "__init__" = some (.val (.builtin "ValueError.__init__"))) (ha : PA X (e :: es) ta)
    (hc : eval (.Call (.Attribute (.Name "ValueError" p1) "__init__" p2) (e :: es) [] pos) X.env = (eval (.Name "ValueError" p1) X.env >>= fun ov => standAt p2.atName >>= fun _ => holding [ov] (getMethod ov "__init__" pl) >>= fun r => callWith pos r.1 r.2 (backTo pos (starEach (e :: es) X.env)) (backToKw pos (keywordEach [] X.env))) := by rfl)
    (he : starEach (e :: es) X.env = (false, eval e X.env) :: starEach es X.env := by rfl) (hpl : (backTo pos (starEach es X.env)).any (·.1) = false := by rfl) :
    PE X (.Call (.Attribute (.Name "ValueError" p1) "__init__" p2) (e :: es) [] pos) (tVeD X.K ta) := by
  refine ⟨fun pins s σ H Q I h => ?_⟩
  refine PySem.W.methodCall_KW (ld_blt I hg hm PyProof.Rows.Boot.«ValueError» ?_ (by decide) (by decide)) hc
  obtain ⟨m, fr⟩ := I.fr
  refine PySem.W.method_type fr I.ok.mod.kin PySem.OEX.typ_VE (by decide +kernel) vV (by decide +kernel) ?_
  show wpAny _ _ (callWith pos (Value.builtin "ValueError.__init__") [] (backTo pos (starEach (e :: es) X.env)) []) _ _ _
  refine PyProof.Rows.callWith_method1 (thn (ha.run pos pins _ σ H _ (I.tok _) h) fun us s1 ⟨vs, H1, I1, r1, a, C, od, ws, ev, hl, T, ea, q⟩ => ?_) he hpl
  subst ev
  cases r1 with
  | @cons _ u0 _ ur ra rr =>
    obtain rfl : u0 = Value.ref a := ra
    exact init_okD T I1 ea (by rw [← Paired.length rr, sizeLine_eq]; omega) fun s' J => ⟨.non, H1, J, rfl, q⟩
end
section
variable {X : Cx} {e : Expr} {te : TE} {pos : Pos}
theorem pe_cnam (he : PE X e te) (hb : attributeBase e "__name__" X.env (eval e X.env) = eval e X.env := by rfl) : PE X (.Attribute e "__name__" pos) (tCNam X.K te) := by
  refine ⟨fun pins s σ H Q I h => ?_⟩
  refine attr_of hb (thn (he.run pins s σ H _ I h) fun u s1 ⟨x, H1, I1, rx, C, nm, ex, N, q⟩ => ?_)
  subst ex
  obtain rfl : u = Value.ref C := rx
  obtain ⟨o, tk, k1, k2⟩ := N.ob
  refine PySem.W.cls_bind I1.kIn N.rd N.fd ?_
  have I2 := I1.tok (s1.toks + 1)
  refine wpAny_call (nam_get (s := { s1 with toks := s1.toks + 1 }) I2.kIn k1 k2 N.ty ?_)
  exact PySem.W.handed_on rfl ⟨.str nm, H1, I2, ⟨tk, rfl⟩, q⟩
theorem pe_ecls (he : PE X e te) (hb : attributeBase e "__class__" X.env (eval e X.env) = eval e X.env := by rfl) : PE X (.Attribute e "__class__" pos) (tECls X.K te) := by
  refine ⟨fun pins s σ H Q I h => ?_⟩
  refine attr_of hb (thn (he.run pins s σ H _ I h) fun u s1 ⟨x, H1, I1, rx, a, C, dx, fs, ex, T, ea, ed, q⟩ => ?_)
  subst ex
  obtain rfl : u = Value.ref a := rx
  obtain ⟨t1, ho⟩ := exo_at I1.hok ea
  obtain ⟨mA, hns, rel⟩ := exd_at I1.hok ed
  obtain ⟨oD, _, _, hoD, _, _⟩ := hns.count (within_of rel)
  have J : PySem.W.InstAt s1.heap a { cls := .ref C, dict := some dx, data := .fields #[.ref t1, .none, .none, .none, .bool false, .none] } C (some oD) := ⟨ho, rfl, rfl, hoD⟩
  obtain ⟨cd, hc, _⟩ := PySem.W.any_some T.hd
  exact exc_cls I1.kIn J T.hg T.hk T.hs (PySem.W.findObj_dataE (by rw [hc] <;> rfl) T.ha T.hn T.ht) T.hm ⟨.ref C, H1, I1.tok _, rfl, q⟩
end
end KX
set_option Elab.async false
set_option linter.all false
set_option maxRecDepth 100000
set_option maxHeartbeats 4000000
/-! try with several 'except C as e' that take all that comes. -/
namespace KX
open PySem PySem.Spec PyProof.Rows L2
def endsAs (i : Nat) (D : Ends) : Ends := { nx := fun σ H => D.nx (σ.set i none) H, rt := D.rt, bk := fun σ H => D.bk (σ.set i none) H, ct := fun σ H => D.ct (σ.set i none) H }
abbrev Cl := Value × Nat × (Addr → Value → Option Addr → TS)
def wAsAll (K : PySem.W.Frag) (D : Ends) : List Cl → WX
  | [] => fun _ _ _ _ => False
  | (c, i, ts) :: r => fun cls d σ H => ∃ b, PySem.W.exmOne K cls c = some b ∧ (b = true → ∀ a, H a = none → ts a cls d (endsAs i D) (σ.set i (some (.ref a))) H) ∧ (b = false → wAsAll K D r cls d σ H)
inductive ClOk (X : Cx) : List ExceptHandler → List Cl → Prop
  | nil {hs : List ExceptHandler} : ClOk X hs []
  | cons {x n : Str} {c : Value} {i : Nat} {ts : Addr → Value → Option Addr → TS} {b₀ : Stmt} {su : List Stmt} {np p : Pos} {hs : List ExceptHandler} {l : List Cl} (hc : Names X x c) (hi : X.N[i]? = some n) (hn : X.env.kindOf n = some .local)
      (hb : ∀ (a : Addr) (oe : Obj) (cls : Value) (d : Option Addr) (pn : List (Addr × Obj)), Zc cls d oe → (∃ vs, oe.data = .fields vs) → PSs (X.suite a ((a, oe) :: pn)) (b₀ :: su) (ts a cls d)) (r : ClOk X hs l) : ClOk X (.ExceptHandler (some (.Name x np)) (some n) (b₀ :: su) p :: hs) ((c, i, ts) :: l)
section
variable {X : Cx} {body : List Stmt} {h₀ : ExceptHandler} {hds : List ExceptHandler} {l : List Cl} {pos : Pos} {tb : WX → TS}
theorem ps_try_all (hst : X.stack = X.env :: X.outer) (hfm : X.env.frame = some X.env.locals) (hN : X.N.Nodup) (hb : ∀ (W : WX) (pn : List (Addr × Obj)) (xe : Value → Shared → Prop), Takes (X.tr pn xe) W → PassesOwn (model X.prog X.w) X.A X.env xe → PSs (X.tr pn xe) body (tb W)) (hh : ClOk X (h₀ :: hds) l) :
    PS X (.Try body (h₀ :: hds) [] [] pos) (fun D σ H => tb (wAsAll X.K D l) D σ H) := by
  refine ⟨fun pins s σ H D I h => wpAny_Try_except ?_⟩
  have okX := I.ok
  have frX : X.A.frames = some (X.env :: X.outer) := okX.frames.trans (congrArg some hst)
  refine wpAny_mono ((hb (wAsAll X.K D l) (X.pn ++ pins) (fun e t₁ => wpAny (model X.prog X.w) X.A (noteFrame e X.env) (fun _ t₂ => wpAny (model X.prog X.w) X.A (setFlight e none) (fun _ t₃ => wpAny (model X.prog X.w) X.A (handleBy e X.env (h₀ :: hds)) (SP X pins D) X.xe t₃) X.xe t₂) X.xe t₁) (fun u t xx => ?_) PassesOwn.looking).run [] s σ H D (I.toTry _) h) (fun f t ht => ?_) fun _ _ z => z
  · obtain ⟨a, B, sI, pins1, σ1, H1, cls, d, rfl, J0, nb, up, sky, na, os, ag, w⟩ := xx
    have J : Inv X pins σ1 H1 sI := J0.ofTry okX
    refine Sky.land Zc.steady frX hfm (by rw [← hst] <;> exact sky) fun h3 fl3 up3 => ?_
    have J3 : Inv X pins σ1 H1 { t with heap := h3 } := J.landed nb fl3.1 (up.trans up3) os ag
    obtain ⟨oe, vs, he, hz, hd⟩ := fl3.there
    have nfr : a ∉ frs (X.env :: X.outer) := fun hm => by
      obtain ⟨_, o, eo, no⟩ := fl3.2.2.1.mem hm
      exact no vs ((congrArg Obj.data (Option.some.inj (eo.symm.trans he))).trans hd)
    have nL : a ≠ X.env.locals := fun z => nfr (List.mem_filterMap.mpr ⟨X.env, List.mem_cons_self, hfm.trans (congrArg some z.symm)⟩)
    have nF : a ∉ X.fs := fun hm => let ⟨e, m, q⟩ := List.mem_filterMap.mp hm; nfr (List.mem_filterMap.mpr ⟨e, List.mem_cons_of_mem _ m, q⟩)
    have S3 := J3.suite he hd na nL nF
    have LT : PySem.W.Looks (model X.prog X.w) h3 (typeOf (.ref a)) cls := fun A Q E s k q => wpAny_typeOf_ref (k _ _ he) (hz.1 ▸ q)
    have go : ∀ {hs : List ExceptHandler} {l1 : List Cl}, ClOk X hs l1 → wAsAll X.K D l1 cls d σ1 H1 → wpAny (model X.prog X.w) X.A (handleBy (.ref a) X.env hs) (SP X pins D) X.xe { t with heap := h3 } := by
      intro hs l1 hk
      induction hk with
      | nil => exact fun z => False.elim z
      | @cons x n c i ts b₀ su np p hs2 l2 hc hi hn hsu r ih =>
        rintro ⟨b, hb1, yes, no⟩
        refine wpAny_handleBy_cons (codeAny_handlers_test ?_) (fun q => nomatch q)
        have nm : ∀ {Q : Value → Shared → Prop} {E : Value → Shared → Prop}, Q c { t with heap := h3 } → wpAny (model X.prog X.w) (X.A.mark (some (.ref a))) (eval (.Name x np) X.env) Q E { t with heap := h3 } := fun {Q E} q => match hc with
          | ⟨hg, hdb, .inl hm⟩ => ld_glob (X := X.suite a ((a, oe) :: (X.pn ++ pins))) S3 hg hm q hdb
          | ⟨hg, hdb, .inr ⟨hm, hv, hnn⟩⟩ => ld_blt (X := X.suite a ((a, oe) :: (X.pn ++ pins))) S3 hg hm hv q hnn hdb
        refine nm ((PySem.W.exm_one (M := model X.prog X.w) J3.kIn LT hb1).here ?_)
        cases b with
        | false =>
          show wpAny _ X.A (handleBy (.ref a) X.env hs2) _ _ _
          exact ih (no rfl)
        | true =>
          refine codeAny_handlers_suite_as (HandSPX.lands_againZ fl3 fun h4 fl4 up4 => ?_)
          have J4 : Inv X pins σ1 H1 { t with heap := h4 } := J.landed nb fl4.1 ((up.trans up3).trans up4) os ag
          obtain ⟨oe4, vs4, he4, hz4, hd4⟩ := fl4.there
          refine store_ok (X := X.suite a ((a, oe4) :: (X.pn ++ pins))) (v := .ref a) (J4.suite he4 hd4 na nL nF) hN hi (.inl hn) rfl (fun s5 S5 => ?_) (.inr hn)
          refine wpAny_mono ((hsu a oe4 cls d (X.pn ++ pins) hz4 ⟨_, hd4⟩).run [] s5 _ H1 _ S5 (yes rfl a na)) (fun f s6 hsp => ?_) fun _ _ z => z.elim
          have fin : ∀ {σ6 : L2.St} {H6 : Hp} {Q : Shared → Prop}, Inv (X.suite a ((a, oe4) :: (X.pn ++ pins))) [] σ6 H6 s6 → (∀ s7, Inv X pins (σ6.set i none) H6 s7 → Q s7) → wpAny (model X.prog X.w) X.A (do bindName X.env n .none; unbindBehindTheSuite X.env n p) (fun _ s7 => Q s7) X.xe s6 := fun S6 hq => gone_ok (S6.unsuite okX) hN hi hn hq
          match f, hsp with
          | .next, ⟨_, _, S6, q6⟩ => exact fin S6 fun _ J7 => ⟨_, _, J7, q6⟩
          | .brk, ⟨_, _, S6, q6⟩ => exact fin S6 fun _ J7 => ⟨_, _, J7, q6⟩
          | .cont, ⟨_, _, S6, q6⟩ => exact fin S6 fun _ J7 => ⟨_, _, J7, q6⟩
          | .ret u, ⟨_, _, _, S6, r6, q6⟩ => exact fin S6 fun _ J7 => ⟨_, _, _, J7, r6, q6⟩
    exact go hh w
  · match f, ht with
    | .next, ⟨_, _, J, q⟩ => exact wpAny_execs_nil ⟨_, _, J.ofTry okX, q⟩
    | .brk, ⟨_, _, J, q⟩ => exact ⟨_, _, J.ofTry okX, q⟩
    | .cont, ⟨_, _, J, q⟩ => exact ⟨_, _, J.ofTry okX, q⟩
    | .ret u, ⟨_, _, _, J, r, q⟩ => exact ⟨_, _, _, J.ofTry okX, r, q⟩
end
end KX
set_option Elab.async false
set_option linter.all false
set_option maxRecDepth 100000
set_option maxHeartbeats 4000000
/-! Own error classes: what a law needs of them. -/
namespace KX
open PySem PySem.Spec PyProof.Rows L2 GX KC Evl
/-- what the written part says of an own error class and its fields -/
structure ErrK (K : PySem.W.Frag) (C : Addr) (nm : Str) : Prop where
  oc : OexC K C
  ec : L2.ExcC K C
  nk : NamK K C nm
  f1 : PySem.W.findIn K (.ref C) "place" = some none
  f2 : PySem.W.findIn K (.ref C) "name" = some none
def flds (nm : Str) (i : Int) : List (Str × V) := [("name", .str nm), ("place", .int i)]
def spInit (K : PySem.W.Frag) : Sp := fun vs H Q _ => ∃ (a C : Addr) (i : Int) (nm : Str), vs = [.ref a, .int i] ∧ H a = some (exo a C none) ∧ ErrK K C nm ∧ i.natAbs < 2 ^ 100 ∧
  ∀ dx H2, H dx = none → dx ≠ a → H2 a = some (exo a C (some dx)) → H2 dx = some (exd dx (flds nm i)) → (∀ b, b ≠ a → b ≠ dx → H2 b = H b) → Q .non H2
theorem log_bd {n : Nat} (h : n < 2 ^ 100) : n.log2 < 1920 := by
  by_cases z : n = 0
  · subst z; decide
  · have := (Nat.log2_lt z).mpr h
    omega
theorem ofString_len (s : String) : (Str.ofString s).length = s.length := by
  rw [Str.ofString_eq_toList]
  show (s.toList.map Char.toNat).toArray.size = _
  rw [List.size_toArray, List.length_map, String.length_toList]
theorem text_fits {i : Int} (h : i.natAbs < 2 ^ 100) : (Str.empty ++ Str.ofString "at place " ++ Str.ofString (toString i)).length ≤ sizeLine := by
  have h1 := int_text_length_le (a := i) (k := 1920) (by decide) (log_bd h)
  have h2 := ofString_len (toString i)
  show (((#[] : Array Nat) ++ (Str.ofString "at place ").cps) ++ (Str.ofString (toString i)).cps).size ≤ _
  rw [Array.size_append, Array.size_append]
  have h3 : (Str.ofString (toString i)).cps.size = (toString i).length := h2
  have h4 : (Str.ofString "at place ").cps.size = 9 := by decide
  have h5 : 10000 ≤ sizeLine := by decide
  rw [h3, h4]
  show 0 + 9 + _ ≤ _
  omega
section
variable {P : Program} {w : World} {K : PySem.W.Frag} {mg : Str → Option Value} {base : Heap}
/-- an own error class of the text, its __init__ -/
structure ErrG (P : Program) (w : World) (K : PySem.W.Frag) (mg : Str → Option Value) (base : Heap) (nm : Str) (C fI : Addr) (fd : FuncData) : Prop where
  er : ErrK K C nm
  iC : PySem.W.findIn K (.ref C) "__init__" = some (some (.ref fI))
  tI : PySem.W.typeIn K (.ref fI) = some (.type "function")
  g : mg nm = some (.ref C)
  ok : FnOk P w K mg base CX0 1 fI fd ["self", "place"] (spInit K)
  bd : Binds K fd ["self", "place"] []
def ErrOut (C : Addr) (nm : Str) (i : Int) (H : Hp) (E : XK) : Prop := ∀ (d : Addr) H2, H d = none → Ex H H2 → H2 d = some (.xd (flds nm i)) → E (.ref C) (some d) H2
theorem s_mk {σ : L2.St} {H : Hp} {te : TE} {C : Addr} {nm : Str} {i : Int} {W : XK} (T : ErrK K C nm) (h : Ev te σ H (.int i)) (hi : i.natAbs < 2 ^ 100) (k : ErrOut C nm i H W) : tMkO C (spInit K) [] (tCons te tNil) σ H W :=
  h H (Ex.refl H) _ fun H1 e1 => ⟨by show 1 ≤ 1000; decide, fun a ha => ⟨a, C, i, nm, rfl, upd_same, T, hi, fun dx H2 hdx hne h1 h2 hr => by
    have hd1 : H1 dx = none := by rw [upd_ne hne] at hdx; exact hdx
    refine ⟨rfl, dx, _, h1, h2, hd1, k dx _ (fresh_back e1 hd1) (fun x o hx => ?_) upd_same⟩
    have hx1 := e1 x o hx
    have n1 : x ≠ a := fun z => by rw [z, ha] at hx1; cases hx1
    have n2 : x ≠ dx := fun z => by rw [z, hd1] at hx1; cases hx1
    rw [upd_ne n2, del_ne n1, hr x n1 n2, upd_ne n1]
    exact hx1⟩⟩
structure CalX (P : Program) (w : World) (K : PySem.W.Frag) (mg : Str → Option Value) (base : Heap) (nm : Str) (k : Nat) (ps : List Str) (sp : Sp) : Prop where
  out : ∃ f fd, mg nm = some (.ref f) ∧ PySem.W.keepIn K (.ref f) = true ∧ Binds K fd ps [] ∧ FnOk P w K mg base (L2.CX P w) k f fd ps sp
theorem pe_callX {X : Cx} {nm : Str} {k : Nat} {ps : List Str} {sp : Sp} {E : XK} {p pos : Pos} {e : Expr} {es : List Expr} {t : TA} (C : CalX X.prog X.w X.K X.mg X.base nm k ps sp) (hr : Room k X.A) (hg : Gl X nm) (hx : Passes (L2.CX X.prog X.w) X E) (ha : PA X (e :: es) t)
    (hdb : (nm == ("__debug__" : Str)) = false := by decide) (he : starEach (e :: es) X.env = (false, eval e X.env) :: starEach es X.env := by rfl) (hpl : (backTo pos (starEach es X.env)).any (·.1) = false := by rfl) :
    PE X (.Call (.Name nm p) (e :: es) [] pos) (tCall sp [] E t) := by
  obtain ⟨f, fd, h1, h2, h3, h4⟩ := C.out
  exact pe_call h4 hr hg h1 h2 h3 .nil hx ha hdb he hpl
end
end KX
set_option Elab.async false
set_option linter.all false
set_option maxRecDepth 100000
set_option maxHeartbeats 4000000
/-! Pairs (a key, a symbol) in a list, sorted. -/
namespace KC
open PySem PySem.Spec PyProof.Rows L2 StX GX Evl
def PrG (key : Nat → Int) (H : Hp) (ys : List V) (o : List Nat) : Prop := ys.length = o.length ∧ ∀ (j s : Nat), o[j]? = some s → ∃ t, ys[j]? = some (.ref t) ∧ H t = some (.tup [.int (key s), .int (s : Int)])
section
variable {key : Nat → Int} {H H' : Hp} {ys zs : List V} {o : List Nat}
theorem PrG.nil : PrG key H [] [] := ⟨rfl, fun j s h => by simp at h⟩
theorem PrG.ext (e : Ex H H') (h : PrG key H ys o) : PrG key H' ys o := ⟨h.1, fun j s hj => by
  obtain ⟨t, h1, h2⟩ := h.2 j s hj
  exact ⟨t, h1, e t _ h2⟩⟩
theorem PrG.put {p : Addr} {us ws : List V} (hp : H p = some (.lst us)) (h : PrG key H ys o) : PrG key (upd H p (.lst ws)) ys o := ⟨h.1, fun j s hj => by
  obtain ⟨t, h1, h2⟩ := h.2 j s hj
  exact ⟨t, h1, by rw [upd_ne (fun z => by rw [z, hp] at h2; cases h2)]; exact h2⟩⟩
theorem PrG.add {t : Addr} {s : Nat} (h : PrG key H ys o) (ht : H t = some (.tup [.int (key s), .int (s : Int)])) : PrG key H (ys ++ [.ref t]) (o ++ [s]) := by
  refine ⟨by rw [List.length_append, List.length_append, h.1] <;> rfl, fun j u hj => ?_⟩
  by_cases e : j < o.length
  · rw [List.getElem?_append_left e] at hj
    obtain ⟨w, h1, h2⟩ := h.2 j u hj
    exact ⟨w, by rw [List.getElem?_append_left (by rw [h.1]; exact e)]; exact h1, h2⟩
  · rw [List.getElem?_append_right (by omega)] at hj
    have hj0 : j - o.length = 0 := by
      have := (List.getElem?_eq_some_iff.mp hj).1
      simp at this
      omega
    rw [hj0] at hj
    have hu : s = u := by simpa using hj
    subst hu
    exact ⟨t, by rw [List.getElem?_append_right (by rw [h.1]; omega), h.1, hj0]; rfl, ht⟩
def keyOf (H : Hp) : V → Int × Int
  | .ref t => match H t with
    | some (.tup [.int a, .int b]) => (a, b)
    | _ => (0, 0)
  | _ => (0, 0)
theorem keyOf_tup {t : Addr} {a b : Int} (h : H t = some (.tup [.int a, .int b])) : keyOf H (.ref t) = (a, b) := by
  show (match H t with | some (.tup [.int a, .int b]) => (a, b) | _ => ((0 : Int), (0 : Int))) = _
  rw [h]
def symOf (H : Hp) (z : V) : Nat := (keyOf H z).2.toNat
theorem PrG.mem (h : PrG key H ys o) {z : V} (hz : z ∈ ys) : ∃ s t, s ∈ o ∧ z = .ref t ∧ H t = some (.tup [.int (key s), .int (s : Int)]) ∧ symOf H z = s := by
  obtain ⟨j, hj⟩ := List.mem_iff_getElem?.mp hz
  have hjl : j < o.length := by rw [← h.1]; exact (List.getElem?_eq_some_iff.mp hj).1
  obtain ⟨t, h1, h2⟩ := h.2 j _ (List.getElem?_eq_getElem hjl)
  rw [hj] at h1
  have e := Option.some.inj h1
  subst e
  exact ⟨_, t, List.getElem_mem hjl, rfl, h2, by unfold symOf; rw [keyOf_tup h2]; simp⟩
theorem PrG.syms (h : PrG key H ys o) : ys.map (symOf H) = o := by
  refine List.ext_getElem? fun j => ?_
  rw [List.getElem?_map]
  by_cases hj : j < o.length
  · obtain ⟨t, h1, h2⟩ := h.2 j _ (List.getElem?_eq_getElem hj)
    rw [h1, List.getElem?_eq_getElem hj]
    show some (symOf H (.ref t)) = _
    unfold symOf
    rw [keyOf_tup h2]
    simp
  · rw [List.getElem?_eq_none (by rw [h.1]; omega), List.getElem?_eq_none (by omega)]
    rfl
theorem PrG.sorted (h : PrG key H ys o) (hp : zs.Perm ys) (hs : SrtO.Srtd (ltP (keyOf H)) zs) (hn : o.Nodup) :
    PrG key H zs (zs.map (symOf H)) ∧ (zs.map (symOf H)).Perm o ∧ (zs.map (symOf H)).Pairwise fun a b => key a < key b ∨ (key a = key b ∧ a < b) := by
  have hperm : (zs.map (symOf H)).Perm o := by
    have := hp.map (symOf H)
    rwa [h.syms] at this
  refine ⟨⟨(List.length_map _).symm, fun j s hj => ?_⟩, hperm, ?_⟩
  · rw [List.getElem?_map] at hj
    cases hz : zs[j]? with
    | none => rw [hz] at hj; cases hj
    | some z =>
      rw [hz] at hj
      obtain ⟨s1, t, _, rfl, ht, es⟩ := h.mem (hp.mem_iff.mp (List.mem_of_getElem? hz))
      have e2 : s1 = s := by rw [← es]; exact Option.some.inj hj
      subst e2
      exact ⟨t, rfl, ht⟩
  · have hnd : (zs.map (symOf H)).Nodup := hperm.nodup_iff.mpr hn
    have hnd2 : zs.Pairwise fun a b => symOf H a ≠ symOf H b := List.pairwise_map.mp hnd
    refine List.pairwise_map.mpr ?_
    refine List.Pairwise.imp_of_mem (fun {a b} ha hb hab => ?_) (hs.and hnd2)
    obtain ⟨s1, t1, _, rfl, ht1, es1⟩ := h.mem (hp.mem_iff.mp ha)
    obtain ⟨s2, t2, _, rfl, ht2, es2⟩ := h.mem (hp.mem_iff.mp hb)
    obtain ⟨h4, h5⟩ := hab
    have h6 := SrtO.lexB_no.mp h4
    rw [keyOf_tup ht1, keyOf_tup ht2] at h6
    rw [es1, es2] at h5 ⊢
    simp only at h6
    omega
end
section
variable {K : PySem.W.Frag} {σ : L2.St} {H H' : Hp} {ta tb te : TE} {D : Ends} {tz : TS}
/-- sorted((key, symbol) for symbol, w in enumerate(xs) if ..): what comes of it -/
theorem tSort_use {ys : List V} {key : Nat → Int} {o : List Nat} {H1 : Hp} {R : Addr → Hp → Prop} (h : PrG key H1 ys o) (hn : o.Nodup) (q : ∀ p zs o', H1 p = none → PrG key (upd H1 p (.lst zs)) zs o' → o'.Perm o → (o'.Pairwise fun a b => key a < key b ∨ (key a = key b ∧ a < b)) → R p (upd H1 p (.lst zs))) :
    ∀ p, H1 p = none → rSortPO (.ref p) [] (upd H1 p (.lst ys)) fun _ H2 => R p H2 := fun p hp => by
  have e1 : Ex H1 (upd H1 p (.lst ys)) := Ex.new hp
  refine ⟨p, ys, keyOf H1, rfl, rfl, upd_same, fun y hy => ?_, fun zs hsr hst => ?_⟩
  · obtain ⟨s, t, _, rfl, ht, _⟩ := h.mem hy
    refine ⟨t, rfl, ?_⟩
    rw [keyOf_tup ht]
    exact e1 t _ ht
  · have hov : upd (upd H1 p (.lst ys)) p (.lst zs) = upd H1 p (.lst zs) := by
      funext b
      by_cases e : b = p
      · rw [e, upd_same, upd_same]
      · rw [upd_ne e, upd_ne e, upd_ne e]
    rw [hov]
    obtain ⟨h1, h2, h3⟩ := h.sorted hst.perm hsr hn
    exact q p zs _ hp (h1.ext (Ex.new hp)) h2 h3
/-- xs[i] = a new list -/
theorem s_setLL {l : Addr} {xs ys : List V} {j : Nat} (hl : H l = some (.lst xs)) (h : EvL te σ H ys) (ho : Ev ta σ H (.ref l)) (hi : Ev tb σ H (.int (j : Int))) (hj : j < xs.length) (k : ∀ p H1, H p = none → Ex H H1 → H1 p = some (.lst ys) → D.nx σ (upd H1 l (.lst (xs.set j (.ref p))))) :
    tAsg te (gSub ta tb rSetL) D σ H := h H (Ex.refl H) _ fun p H1 hp e1 h1 => ho H1 e1 _ fun H2 e2 => hi H2 (e1.trans e2) _ fun H3 e3 =>
  ⟨l, xs, (j : Int), j, rfl, rfl, ((e1.trans e2).trans e3) l _ hl, ixN_nat hj, k p H3 hp ((e1.trans e2).trans e3) ((e2.trans e3) p _ h1)⟩
theorem q_setLL {l : Addr} {xs ys : List V} {j : Nat} (hl : H l = some (.lst xs)) (h : EvL te σ H ys) (ho : Ev ta σ H (.ref l)) (hi : Ev tb σ H (.int (j : Int))) (hj : j < xs.length) (k : ∀ p H1, H p = none → Ex H H1 → H1 p = some (.lst ys) → tz D σ (upd H1 l (.lst (xs.set j (.ref p))))) :
    tSeq (tAsg te (gSub ta tb rSetL)) tz D σ H := s_setLL (D := { D with nx := tz D }) hl h ho hi hj k
theorem flat_rep (n : Nat) (v : V) : (List.replicate n [v]).flatten = List.replicate n v := by
  induction n with
  | zero => rfl
  | succ n ih => rw [List.replicate_succ, List.replicate_succ, List.flatten_cons, ih] <;> rfl
end
end KC
set_option Elab.async false
set_option linter.all false
set_option maxRecDepth 100000
set_option maxHeartbeats 4000000
/-! Pairs, calls that may raise, isinstance, a, b = x, y. -/
namespace KQ
open PySem PySem.Spec PyProof.Rows L2 StX GX KC Evl KX
structure Bs2 (mg : Str → Option Value) : Prop where
  str : mg "str" = none
  tuple : mg "tuple" = none
  all : mg "all" = none
/-! ### a, b = x, y with plain local names -/
def tPar2 (i j : Nat) (ta : TA) : TS := fun D σ H => ta σ H fun vs H1 => ∃ u v, vs = [u, v] ∧ D.nx ((σ.set i (some u)).set j (some v)) H1
section
variable {X : Cx}
theorem ps_par2 {i j : Nat} {x y : Str} {a b : Expr} {ta : TA} {px py pt pos : Pos} {kt k2 pt2} (hc : X.calm = true) (hN : X.N.Nodup) (hi : X.N[i]? = some x) (hj : X.N[j]? = some y) (hij : i ≠ j)
    (hx : X.env.scope.names.lookup x = some .local) (hy : X.env.scope.names.lookup y = some .local) (ha : PA X [a, b] ta)
    (hw : swappedStores [.Tuple [.Name x px, .Name y py] kt pt] (.Tuple [a, b] k2 pt2) X.env = pure (some [x, y])) (hs : swapsWithSole [.Tuple [.Name x px, .Name y py] kt pt] (.Tuple [a, b] k2 pt2) pos.line X.env = pure false := by rfl) :
    PS X (.Assign [.Tuple [.Name x px, .Name y py] kt pt] (.Tuple [a, b] k2 pt2) pos) (tPar2 i j ta) := by
  refine ⟨fun pins s σ H D I h => ?_⟩
  refine (exec_Assign_arm .. ▸ wpAny_bind (wpAny_standAt ?_) : _)
  refine hs ▸ wpAny_bind (wpAny_pure ?_)
  refine (if_neg (show ¬ false = true by decide)).symm ▸ ?_
  refine wpAny_bind (Tuple_ (thn (ha.run _ pins s σ H _ I h) fun us s1 w0 => ?_))
  obtain ⟨vs, H1, I1, r1, v1, v2, e1, q1⟩ := w0
  subst e1
  obtain ⟨u1, u2, rfl, ra, rb⟩ := vals2 r1
  refine wpAny_newObj_type ?_ (by show 2 ≤ sizeLine; decide)
  have I2 : Inv X pins σ H1 { s1 with heap := s1.heap.push { cls := .type "tuple", data := .seq [u1, u2].toArray } } := I1.kept (t' := s1.toks) fun b o e => Heap.get?_push_of_some _ e
  refine hw ▸ wpAny_bind (wpAny_pure ?_)
  show wpAny (model X.prog X.w) X.A (rule "assign.swapped-stores" >>= fun _ => unpackItems (.ref s1.heap.objs.size) 2 none >>= fun its => assignInOrder [fun v => bindName X.env y v, fun v => bindName X.env x v] its.reverse >>= fun _ => pure Flow.next) _ _ _
  refine wpAny_bind (wpAny_rule (wpAny_bind (unpackItems_tuple (items := #[u1, u2]) (I.ok.hd hc) (IsTup.new s1.heap _) fun hp hx2 => ?_)))
  have I3 := I2.kept (h' := hp) (t' := s1.toks) fun b o e => hx2 b o (Nat.ne_of_lt (Heap.lt_size e)) e
  show wpAny _ _ (assignInOrder [fun v => bindName X.env y v, fun v => bindName X.env x v] [u2, u1] >>= fun _ => pure Flow.next) _ _ _
  refine wpAny_bind (assignInOrder_cons (wpAny_bindName (store_ok I3 hN hj (.inl hy) rb (fun s2 I4 => ?_) (.inr hy))))
  refine assignInOrder_cons (wpAny_bindName (store_ok I4 hN hi (.inl hx) ra (fun s3 I5 => assignInOrder_nil (wpAny_pure ?_)) (.inr hx)))
  rw [List.set_comm _ _ (Ne.symm hij)] at I5
  exact ⟨_, H1, I5, q1⟩
end
/-! ### calls that may raise -/
theorem ErrOut.mono {C : Addr} {nm : Str} {i : Int} {H H' : Hp} {E : XK} (e : Ex H H') (h : ErrOut C nm i H E) : ErrOut C nm i H' E := fun d H2 hd e2 h2 => h d H2 (fresh_back e hd) (e.trans e2) h2
/-- a new tuple -/
def RetT (xs : List V) (H : Hp) (Q : VK) : Prop := ∀ p H2, H p = none → Ex H H2 → H2 p = some (.tup xs) → Q (.ref p) H2
theorem RetT.mono {xs : List V} {H H' : Hp} {Q : VK} (e : Ex H H') (h : RetT xs H Q) : RetT xs H' Q := fun p H2 hp e2 h2 => h p H2 (fresh_back e hp) (e.trans e2) h2
section
variable {K : PySem.W.Frag} {σ : L2.St} {H H' : Hp} {ta tb tc te tx tl : TE} {D : Ends} {tz : TS} {x y z v : V} {t u : TT}
theorem q_par2 {i j : Nat} {ta : TA} (h : EvA ta σ H [x, y]) (k : ∀ H1, Ex H H1 → tz D ((σ.set i (some x)).set j (some y)) H1) : tSeq (tPar2 i j ta) tz D σ H := h H (Ex.refl H) _ fun H1 e1 => ⟨_, _, rfl, k H1 e1⟩
theorem s_par2 {i j : Nat} {ta : TA} (h : EvA ta σ H [x, y]) (k : ∀ H1, Ex H H1 → D.nx ((σ.set i (some x)).set j (some y)) H1) : tPar2 i j ta D σ H := h H (Ex.refl H) _ fun H1 e1 => ⟨_, _, rfl, k H1 e1⟩
theorem q_asg2 {i j : Nat} {ta : TA} (h : EvA ta σ H [x, y]) (k : ∀ H1, Ex H H1 → tz D ((σ.set i (some x)).set j (some y)) H1) : tSeq (tAsg (tTup ta) (gTup K 2 (gCons (gName i) (gCons (gName j) gNil)))) tz D σ H :=
  h H (Ex.refl H) _ fun H1 e1 => ⟨by show 2 ≤ sizeLine; decide, fun p hp => ⟨p, _, rfl, .inl (.inl upd_same), rfl, _, _, rfl, _, _, rfl, rfl, k _ (e1.trans (Ex.new hp))⟩⟩
theorem g_two {i j : Nat} {p : Addr} {Q : L2.St → Hp → Prop} (hp : SqT K H p [x, y]) (k : Q ((σ.set i (some x)).set j (some y)) H) : gTup K 2 (gCons (gName i) (gCons (gName j) gNil)) (.ref p) σ H Q := ⟨p, _, rfl, hp, rfl, _, _, rfl, _, _, rfl, rfl, k⟩
theorem g_three {i j l : Nat} {p : Addr} {Q : L2.St → Hp → Prop} (hp : SqT K H p [x, y, z]) (k : Q (((σ.set i (some x)).set j (some y)).set l (some z)) H) : gTup K 3 (gCons (gName i) (gCons (gName j) (gCons (gName l) gNil))) (.ref p) σ H Q := ⟨p, _, rfl, hp, rfl, _, _, rfl, _, _, rfl, _, _, rfl, rfl, k⟩
theorem q_unp2 {i j : Nat} {p : Addr} (h : Ev te σ H (.ref p)) (hp : SqT K H p [x, y]) (k : ∀ H1, Ex H H1 → tz D ((σ.set i (some x)).set j (some y)) H1) : tSeq (tAsg te (gTup K 2 (gCons (gName i) (gCons (gName j) gNil)))) tz D σ H :=
  h H (Ex.refl H) _ fun H1 e1 => g_two (ex_t e1 hp) (k H1 e1)
theorem q_unp3' {i j l : Nat} {p : Addr} (h : Ev te σ H (.ref p)) (hp : SqT K H p [x, y, z]) (k : ∀ H1, Ex H H1 → tz D (((σ.set i (some x)).set j (some y)).set l (some z)) H1) : tSeq (tAsg te (gTup K 3 (gCons (gName i) (gCons (gName j) (gCons (gName l) gNil))))) tz D σ H :=
  h H (Ex.refl H) _ fun H1 e1 => g_three (ex_t e1 hp) (k H1 e1)
/-- a, b = f(..) -/
theorem q_unpX {sp : Sp} {E : XK} {vs : List V} {ta : TA} {g : TG} (h : EvA ta σ H vs) (k : ∀ H1, Ex H H1 → sp (vs ++ []) H1 (fun v H2 => g v σ H2 fun σ' H' => tz D σ' H') E) : tSeq (tAsg (tCall sp [] E ta) g) tz D σ H := h H (Ex.refl H) _ fun H1 e1 => k H1 e1
theorem s_unpX {sp : Sp} {E : XK} {vs : List V} {ta : TA} {g : TG} (h : EvA ta σ H vs) (k : ∀ H1, Ex H H1 → sp (vs ++ []) H1 (fun v H2 => g v σ H2 fun σ' H' => D.nx σ' H') E) : tAsg (tCall sp [] E ta) g D σ H := h H (Ex.refl H) _ fun H1 e1 => k H1 e1
theorem s_retX {sp : Sp} {E : XK} {vs : List V} {ta : TA} (h : EvA ta σ H vs) (k : ∀ H1, Ex H H1 → sp (vs ++ []) H1 D.rt E) : tRet (tCall sp [] E ta) D σ H := h H (Ex.refl H) _ fun H1 e1 => k H1 e1
/-- return xs, y with a new list -/
theorem s_retLT {xs : List V} (h : EvL ta σ H xs) (h2 : ∀ H1, Ex H H1 → Ev tb σ H1 y) (k : ∀ b p H2, H b = none → H p = none → Ex H H2 → H2 b = some (.lst xs) → H2 p = some (.tup [.ref b, y]) → D.rt (.ref p) H2) : tRet (tTup (tCons ta (tCons tb tNil))) D σ H :=
  h H (Ex.refl H) _ fun b H1 nb e1 h1 => h2 H1 e1 H1 (Ex.refl H1) _ fun H2 e2 => ⟨by show 2 ≤ sizeLine; decide, fun p hp => k b p _ nb (fresh_back (e1.trans e2) hp) ((e1.trans e2).trans (Ex.new hp)) ((e2.trans (Ex.new hp)) b _ h1) upd_same⟩
/-- return x, y -/
theorem s_ret2 (h : Ev ta σ H x) (h2 : Ev tb σ H y) (k : RetT [x, y] H D.rt) : tRet (tTup (tCons ta (tCons tb tNil))) D σ H := s_retU (eu_tup (ea2 h h2) (by show 2 ≤ 100000; decide)) k
theorem s_ret3 (h : Ev ta σ H x) (h2 : Ev tb σ H y) (h3 : Ev tc σ H z) (k : RetT [x, y, z] H D.rt) : tRet (tTup (tCons ta (tCons tb (tCons tc tNil)))) D σ H := s_retU (eu_tup (ea3 h h2 h3) (by show 3 ≤ 100000; decide)) k
theorem ep_call {sp : Sp} {dvs vs : List V} {E : XK} {ta : TA} {R : V → Hp → Prop} (h : EvA ta σ H vs) (hs : ∀ H1, Ex H H1 → ∀ Q : VK, (∀ v H2, Ex H1 H2 → R v H2 → Q v H2) → sp (vs ++ dvs) H1 Q E) : EvP (tCall sp dvs E ta) σ H R := fun H1 e Q q =>
  h H1 e _ fun H2 e2 => hs H2 (e.trans e2) Q fun v H3 e3 r => q v H3 (e2.trans e3) r
theorem el_cat3 {xs ys : List V} {a : Addr} (ha : Ev ta σ H (.ref a)) (h0 : H a = some (.lst xs)) (hb : EvL tb σ H ys) (hz : xs.length + ys.length ≤ 100000) : EvL (tOp rCat ta tb) σ H (xs ++ ys) := fun H1 e Q q =>
  ha H1 e _ fun H2 e2 => hb H2 (e.trans e2) _ fun p H3 np e3 hp => ⟨a, p, xs, ys, rfl, rfl, ((e.trans e2).trans e3) a _ h0, hp, sz_of hz, fun p2 hp2 => q p2 _ (fresh_back (e2.trans e3) hp2) ((e2.trans e3).trans (Ex.new hp2)) upd_same⟩
theorem el_catLL {xs ys : List V} (ha : EvL ta σ H xs) (hb : EvL tb σ H ys) (hz : xs.length + ys.length ≤ 100000) : EvL (tOp rCat ta tb) σ H (xs ++ ys) := fun H1 e Q q =>
  ha H1 e _ fun a H2 na e2 h2 => hb H2 (e.trans e2) _ fun p H3 np e3 hp => ⟨a, p, xs, ys, rfl, rfl, e3 a _ h2, hp, sz_of hz, fun p2 hp2 => q p2 _ (fresh_back (e2.trans e3) hp2) ((e2.trans e3).trans (Ex.new hp2)) upd_same⟩
/-- isinstance(x, C) of a value that is at hand -/
theorem ev_isi {c : String} {t : Value} {b : Bool} (h : Ev ta σ H x) (ty : ∀ H1, Ex H H1 → TyX K H1 x t) (hk : PySem.W.kitOne K t (.type c) = some b) : Ev (tCB (rIsi K) (tCons ta (tCons (tC (.ty c)) tNil))) σ H (.bl b) := fun H1 e Q q =>
  h H1 e _ fun H2 e2 => ⟨x, .ty c, t, .type c, b, rfl, .ty c, ty H2 (e.trans e2), hk, q H2 e2⟩
theorem EvP.of_ev (h : Ev te σ H v) : EvP te σ H fun w _ => w = v := fun H1 e Q q => h H1 e Q fun H2 e2 => q _ H2 e2 rfl
theorem dpAll_at {ds : List PyData} {vs : List V} (h : DpAll K H vs ds) {j : Nat} {d : PyData} (hj : ds[j]? = some d) : ∃ v, vs[j]? = some v ∧ Dp K H v d := by
  induction ds generalizing vs j with
  | nil => simp at hj
  | cons d0 r ih =>
    cases h with
    | cons a b =>
      cases j with
      | zero =>
        have : d0 = d := by simpa using hj
        subst this
        exact ⟨_, rfl, a⟩
      | succ j =>
        obtain ⟨v, h1, h2⟩ := ih b (j := j) (by simpa using hj)
        exact ⟨v, by simpa using h1, h2⟩
/-- [a, b, ..][j], data -/
theorem ed_ixNew {ta : TA} {ds : List PyData} {d : PyData} {j : Nat} {i : Int} (h : EvDA K ta σ H ds) (hl : ds.length ≤ 100000) (hb : Ev tb σ H (.int i)) (ei : i = (j : Int)) (hj : ds[j]? = some d) : EvD K (tOp (rIxL K) (tLst ta) tb) σ H d := fun H1 e Q q =>
  h H1 e _ fun vs H2 e2 hvs => ⟨sz_of (by rw [DpAll.len hvs]; exact hl), fun p hp => hb _ ((e.trans e2).trans (Ex.new hp)) _ fun H3 e3 => by
    obtain ⟨v, h1, h2⟩ := dpAll_at hvs hj
    exact ⟨p, vs, i, v, rfl, rfl, sq_of (e3 p _ upd_same), at_of ei h1, q v H3 ((e2.trans (Ex.new hp)).trans e3) (Dp.ext ((Ex.new hp).trans e3) _ _ h2)⟩⟩
end
section
variable {K : PySem.W.Frag} {σ : L2.St} {H H' : Hp} {ta tb tc te tx tl : TE} {D : Ends} {tu tz : TS} {g : TG} {x y z v : V}
/-- for .. in reversed(f(..)): over a list that is made -/
theorem s_forRevP {C : Addr → List V → Hp → Prop} (h : EvP te σ H fun v H1 => ∃ p xs, v = .ref p ∧ H1 p = some (.lst xs) ∧ C p xs H1) (Pv : Addr → List V → Nat → L2.St → Hp → Prop) (h0 : ∀ p xs H1, Ex H H1 → H1 p = some (.lst xs) → C p xs H1 → Pv p xs 0 σ H1) (hl : ∀ p xs i σ' H', i ≤ xs.length → Pv p xs i σ' H' → SqL K H' p xs)
    (hs : ∀ p xs i x σ' H', xs[xs.length - 1 - i]? = some x → i < xs.length → Pv p xs i σ' H' → g x σ' H' fun σ2 H2 => tu { D with nx := Pv p xs (i + 1), ct := Pv p xs (i + 1), bk := D.nx } σ2 H2) (hd : ∀ p xs σ' H', Pv p xs xs.length σ' H' → D.nx σ' H') : tFor (iRev K (tCons te tNil)) g tu D σ H := by
  refine h H (Ex.refl H) _ fun v H1 e1 hv => ?_
  obtain ⟨p, xs, rfl, h1, hc⟩ := hv
  refine ⟨p, xs, rfl, sq_of h1, fun i m σ H => m = xs.length - i ∧ i ≤ xs.length ∧ Pv p xs i σ H, ⟨xs.length, by simp, Nat.zero_le _, h0 p xs H1 e1 h1 hc⟩, ?_⟩
  rintro i m σ H ⟨rfl, hi, pv⟩
  have q := hl p xs i σ H hi pv
  by_cases hlt : i < xs.length
  · have hx : xs[xs.length - 1 - i]? = some (xs[xs.length - 1 - i]'(by omega)) := List.getElem?_eq_getElem (by omega)
    refine .inr ⟨⟨hlt, xs, _, q, hx⟩, Pv p xs (i + 1), fun σ' H' p' => ⟨xs.length - (i + 1), by omega, rfl, hlt, p'⟩, fun x H' y => ?_⟩
    obtain ⟨rfl, hy⟩ := y
    exact hs p xs i x σ _ (hy xs q) hlt pv
  · have : i = xs.length := by omega
    subst this
    exact .inl ⟨Nat.le_refl _, hd p xs σ H pv⟩
theorem q_forRevP {C : Addr → List V → Hp → Prop} (h : EvP te σ H fun v H1 => ∃ p xs, v = .ref p ∧ H1 p = some (.lst xs) ∧ C p xs H1) (Pv : Addr → List V → Nat → L2.St → Hp → Prop) (h0 : ∀ p xs H1, Ex H H1 → H1 p = some (.lst xs) → C p xs H1 → Pv p xs 0 σ H1) (hl : ∀ p xs i σ' H', i ≤ xs.length → Pv p xs i σ' H' → SqL K H' p xs)
    (hs : ∀ p xs i x σ' H', xs[xs.length - 1 - i]? = some x → i < xs.length → Pv p xs i σ' H' → g x σ' H' fun σ2 H2 => tu { D with nx := Pv p xs (i + 1), ct := Pv p xs (i + 1), bk := tz D } σ2 H2) (hd : ∀ p xs σ' H', Pv p xs xs.length σ' H' → tz D σ' H') : tSeq (tFor (iRev K (tCons te tNil)) g tu) tz D σ H :=
  s_forRevP (D := { D with nx := tz D }) h Pv h0 hl hs hd
theorem q_forRevN {xs : List V} (h : EvL te σ H xs) (Pv : Addr → Nat → L2.St → Hp → Prop) (h0 : ∀ p H1, H p = none → Ex H H1 → H1 p = some (.lst xs) → Pv p 0 σ H1) (hl : ∀ p i σ' H', i ≤ xs.length → Pv p i σ' H' → SqL K H' p xs)
    (hs : ∀ p i x σ' H', xs[xs.length - 1 - i]? = some x → i < xs.length → Pv p i σ' H' → g x σ' H' fun σ2 H2 => tu { D with nx := Pv p (i + 1), ct := Pv p (i + 1), bk := tz D } σ2 H2) (hd : ∀ p σ' H', Pv p xs.length σ' H' → tz D σ' H') : tSeq (tFor (iRev K (tCons te tNil)) g tu) tz D σ H :=
  q_forRevP (C := fun p ys H1 => ys = xs ∧ H p = none ∧ H1 p = some (.lst xs)) (fun H1 e Q q => h H1 e Q fun p H2 np e2 h2 => q _ H2 e2 ⟨p, xs, rfl, h2, rfl, fresh_back e np, h2⟩) (fun p ys i σ' H' => ys = xs ∧ Pv p i σ' H') (fun p ys H1 e1 h1 ⟨a, b, c⟩ => ⟨a, h0 p H1 b e1 c⟩) (fun p ys i σ' H' hi ⟨a, b⟩ => by subst a; exact hl p i σ' H' hi b)
    (fun p ys i x σ' H' hx hi ⟨a, b⟩ => by
      subst a
      have key : ∀ σ2 H2, (fun σ H => Pv p (i + 1) σ H) σ2 H2 ↔ (ys = ys ∧ Pv p (i + 1) σ2 H2) := fun σ2 H2 => ⟨fun z => ⟨rfl, z⟩, fun z => z.2⟩
      have e : (fun σ2 H2 => ys = ys ∧ Pv p (i + 1) σ2 H2) = Pv p (i + 1) := by
        funext σ2 H2
        exact propext (key σ2 H2).symm
      rw [e]
      exact hs p i x σ' H' hx hi b) (fun p ys σ' H' ⟨a, b⟩ => by subst a; exact hd p σ' H' b)
/-- xs[i:j] of a new list -/
theorem el_slN {tl th : TO} {xs : List V} {lo hi : Option Int} (h : EvL te σ H xs) (h1 : ∀ H1, Ex H H1 → EvO tl σ H1 lo) (h2 : ∀ H1, Ex H H1 → EvO th σ H1 hi) : EvL (tSl (rSlL K) te tl th) σ H (cutV xs lo hi) := fun H1 e Q q =>
  h H1 e _ fun a H2 na e2 ha => h1 H2 (e.trans e2) H2 (Ex.refl _) _ fun H3 e3 => h2 H3 ((e.trans e2).trans e3) H3 (Ex.refl _) _ fun H4 e4 =>
    ⟨a, xs, rfl, sq_of ((e3.trans e4) a _ ha), fun p hp => q p _ (fresh_back ((e2.trans e3).trans e4) hp) (((e2.trans e3).trans e4).trans (Ex.new hp)) upd_same⟩
theorem cutV_from (xs : List V) (n : Nat) : cutV xs (some (n : Int)) none = xs.drop n := by
  unfold cutV
  rw [HT.sIx_none, HT.sIx_nat]
  by_cases h : n ≤ xs.length
  · rw [Nat.min_eq_left h, List.take_of_length_le (by rw [List.length_drop]; omega)]
  · rw [Nat.min_eq_right (by omega), List.drop_eq_nil_of_le (Nat.le_refl _), List.drop_eq_nil_of_le (by omega), List.take_nil]
theorem ev_bits {i : Int} (h : Ev te σ H (.int i)) : Ev (tBits te) σ H (.int (Builtin.Int.intBits i : Nat)) := fun H1 e Q q => h H1 e _ fun H2 e2 => ⟨i, rfl, q H2 e2⟩
/-- [e for j in range(a, b, -1)] -/
theorem el_lcDown {ta : TA} {te : TE} {j : Nat} {vs : List Nat} {a b : Int} {n : Nat} (v : Nat → V) (h : EvA ta σ H [.int a, .int b, .int (-1)]) (hn : (a - b).toNat = n) (ha : -100000 ≤ a ∧ a ≤ 100000) (hb : -100000 ≤ b ∧ b ≤ 100000) (hn2 : n ≤ 40000)
    (hw : ∀ x, wipe ((wipe σ vs).set j (some x)) vs = wipe σ vs) (he : ∀ (i : Nat) H1, Ex H H1 → i < n → Ev te ((wipe σ vs).set j (some (.int (a + (i : Nat) * (-1))))) H1 (v i)) : EvL (tLc (iRng3 ta) (gName j) tYes te vs) σ H ((List.range n).map v) := fun H1 e Q q =>
  h H1 e _ fun H2 e2 => ⟨a, b, -1, n, rfl, by rw [← hn]; exact RgC.neg (by omega) (by omega) (by omega) (by omega), fun Dl hD =>
    ⟨fun i m H' => m + i = n ∧ H2 Dl = none ∧ Ex H2 H' ∧ H' Dl = some (.lst ((List.range i).map v)), ⟨n, by omega, hD, Ex.new hD, upd_same⟩, fun i m H' hW => by
      obtain ⟨hm, hD2, e3, hl⟩ := hW
      by_cases hi : i < n
      · right
        refine ⟨hi, fun H' => (m - 1) + (i + 1) = n ∧ H2 Dl = none ∧ Ex H2 H' ∧ H' Dl = some (.lst ((List.range (i + 1)).map v)), fun H' q => ⟨m - 1, by omega, q⟩, ?_⟩
        rintro x H5 ⟨rfl, rfl⟩
        refine ⟨hw _, tt_yes ?_⟩
        refine he i _ ((e.trans e2).trans e3) hi _ (Ex.refl _) _ fun H6 e6 => ?_
        refine ⟨_, e6 Dl _ hl, sz_lt (by rw [List.length_map, List.length_range]; omega), by omega, hD2, Ex.mut (e3.trans e6) hD2, ?_⟩
        rw [upd_same, List.range_succ, List.map_append]
        rfl
      · left
        have hin : i = n := by omega
        subst hin
        exact ⟨Nat.le_refl _, q Dl H' (fresh_back e2 hD2) (e2.trans e3) hl⟩⟩⟩
theorem p2_abs (m : Nat) : ((2 : Int) ^ m).natAbs < 2 ^ (m + 1) := by
  rw [Int.natAbs_pow]
  exact Nat.pow_lt_pow_right (by decide) (Nat.lt_succ_self m)
theorem rv_divP {i : Int} {m : Nat} (h : m ≤ 8000) : RV (rI CDivW fun i j => .int (i / j)) (.int i) (.int (2 ^ m)) H (.int (i / 2 ^ m)) := rv_I (wide_div (b := m + 1) (Int.pow_pos (by decide)) (p2_abs m) (by omega) (by omega))
/-- 1 << m -/
theorem ev_shl1 {z : Int} {m : Nat} (h : Ev te σ H (.int z)) (e : z = (m : Int)) (hm : m ≤ 1000000) : Ev (tOp (rI CPow fun i j => .int (i * 2 ^ j.toNat)) (tC (.int 1)) te) σ H (.int (2 ^ m)) := by
  subst e
  refine ev_is (ev_op (ev_c (v := .int 1)) h (rv_shl ⟨by omega, by omega, by decide⟩)) ?_
  rw [Int.toNat_natCast, Int.one_mul]
/-- a list of lists of ints -/
def LL (H : Hp) (p : Addr) (cs : List (List Int)) : Prop := ∃ rs : List Addr, H p = some (.lst (rs.map V.ref)) ∧ rs.length = cs.length ∧ ∀ (j : Nat) (r : Addr) (c : List Int), rs[j]? = some r → cs[j]? = some c → H r = some (.lst (c.map V.int))
theorem LL.ext {p : Addr} {cs : List (List Int)} (e : Ex H H') (h : LL H p cs) : LL H' p cs := by
  obtain ⟨rs, h1, h2, h3⟩ := h
  exact ⟨rs, e _ _ h1, h2, fun j r c a b => e _ _ (h3 j r c a b)⟩
theorem LL.at_ {p : Addr} {cs : List (List Int)} (h : LL H p cs) {j : Nat} {c : List Int} (hc : cs[j]? = some c) : ∃ r, H r = some (.lst (c.map V.int)) ∧ ∀ {te ti : TE} {σ : L2.St} {H' : Hp} {i : Int}, Ex H H' → Ev te σ H' (.ref p) → Ev ti σ H' (.int i) → i = (j : Int) → Ev (tOp (rIxL K) te ti) σ H' (.ref r) := by
  obtain ⟨rs, h1, h2, h3⟩ := h
  obtain ⟨r, hr⟩ : ∃ r, rs[j]? = some r := ⟨_, List.getElem?_eq_getElem (by rw [h2]; exact (List.getElem?_eq_some_iff.mp hc).1)⟩
  refine ⟨r, h3 j r c hr hc, fun e a b ei => ev_op a b (rv_ixL (sq_of (e _ _ h1)) (at_of ei ?_))⟩
  rw [List.getElem?_map, hr]
  rfl
theorem LL.dp {p : Addr} {cs : List (List Int)} (h : LL H p cs) : Dp K H (.ref p) (.list (cs.map fun c => .list (c.map PyData.int))) := by
  obtain ⟨rs, h1, h2, h3⟩ := h
  refine .lst (sq_of h1) ?_
  clear h1
  induction cs generalizing rs with
  | nil =>
    have : rs = [] := List.length_eq_zero_iff.mp h2
    subst this
    exact .nil
  | cons c r ih =>
    match rs, h2, h3 with
    | a :: rs, h2, h3 => exact .cons (dp_listI (sq_of (h3 0 a c rfl rfl))) (ih rs (by simpa using h2) fun j r c a b => h3 (j + 1) r c a b)
theorem ll_eqv (cs : List (List Int)) : PyData.eqv (.list (cs.map fun c => .list (c.map PyData.int))) (.list (cs.map fun c => .list (c.map PyData.int))) = true := eqv_list (fun a => eqv_ints a) cs
theorem ll_shaped (cs : List (List Int)) : SeqAt.shaped (.list (cs.map fun c => .list (c.map PyData.int))) = true := shaped_list (n := 10) (by decide) (fun a => by simp only [PyData.canLay0]; exact canLayAll0_map (fun a => by simp [PyData.canLay0]) a) (fun a => by
  have := depthAll_map (f := PyData.int) (n := 1) (fun a => by simp [PyData.depth]) a
  simp only [PyData.depth]
  omega) cs
/-- [f(..), g(..), h(..), k(..)], four new lists -/
theorem ep_lst4L {t1 t2 t3 t4 : TE} {a b c d : List Int} (h1 : EvL t1 σ H (a.map V.int)) (h2 : EvL t2 σ H (b.map V.int)) (h3 : EvL t3 σ H (c.map V.int)) (h4 : EvL t4 σ H (d.map V.int)) : EvP (tLst (tCons t1 (tCons t2 (tCons t3 (tCons t4 tNil))))) σ H fun v H' => ∃ p, v = .ref p ∧ H p = none ∧ LL H' p [a, b, c, d] := fun H0 e0 Q q =>
  h1 H0 e0 _ fun p1 H1 n1 e1 x1 => h2 H1 (e0.trans e1) _ fun p2 H2 n2 e2 x2 => h3 H2 ((e0.trans e1).trans e2) _ fun p3 H3 n3 e3 x3 => h4 H3 (((e0.trans e1).trans e2).trans e3) _ fun p4 H4 n4 e4 x4 => ⟨by show 4 ≤ sizeLine; decide, fun l hl => by
    have e14 := (e2.trans e3).trans e4
    have e5 : Ex H4 (upd H4 l (.lst [.ref p1, .ref p2, .ref p3, .ref p4])) := Ex.new hl
    refine q _ _ ((e1.trans e14).trans e5) ⟨l, rfl, fresh_back (e0.trans (e1.trans e14)) hl, [p1, p2, p3, p4], upd_same, rfl, fun j r cc hr hc => ?_⟩
    match j, hr, hc with
    | 0, hr, hc =>
      cases hr
      cases hc
      exact (e14.trans e5) _ _ x1
    | 1, hr, hc =>
      cases hr
      cases hc
      exact ((e3.trans e4).trans e5) _ _ x2
    | 2, hr, hc =>
      cases hr
      cases hc
      exact (e4.trans e5) _ _ x3
    | 3, hr, hc =>
      cases hr
      cases hc
      exact e5 _ _ x4⟩
theorem given_all (n : Nat) (v : Nat → V) : given n (fun _ => true) v = (List.range n).map v := by
  unfold given
  rw [List.filter_eq_self.mpr fun _ _ => rfl]
/-- [e for j in range(n)] -/
theorem el_lcN {ta : TA} {te : TE} {j : Nat} {vs : List Nat} {n : Nat} {z : Int} (v : Nat → V) (h : EvA ta σ H [.int z]) (ez : z = (n : Int)) (hn : n ≤ 40000) (hw : ∀ x, wipe ((wipe σ vs).set j (some x)) vs = wipe σ vs) (he : ∀ (i : Nat) H1, Ex H H1 → i < n → Ev te ((wipe σ vs).set j (some (.int (i : Int)))) H1 (v i)) :
    EvL (tLc (iRng1 ta) (gName j) tYes te vs) σ H ((List.range n).map v) := by
  subst ez
  rw [← given_all]
  have := el_lcR1 (σ := σ) (H := H) (te := te) (j := j) (vs := vs) (fun _ => true) v h ⟨by omega, by omega⟩ hw (fun i H1 e hi => et_yes) (fun i H1 e hi _ => he i H1 e (by omega))
  rwa [Int.toNat_natCast] at this
theorem cutV_ints (ns : List Int) (lo hi : Option Int) : ∃ ys : List Int, cutV (ns.map V.int) lo hi = ys.map V.int ∧ ys.length ≤ ns.length ∧ ∀ y ∈ ys, y ∈ ns := by
  refine ⟨(ns.drop (HT.sIx ns.length 0 lo)).take (HT.sIx ns.length ns.length hi - HT.sIx ns.length 0 lo), ?_, ?_, fun y hy => List.mem_of_mem_drop (List.mem_of_mem_take hy)⟩
  · unfold cutV
    rw [List.length_map, List.map_take, List.map_drop]
  · rw [List.length_take, List.length_drop]
    omega
/-- [f(x) for x in xs], xs a new list of ints -/
theorem el_lcMap {tl : TE} {j : Nat} {vs : List Nat} {xs : List Int} (f : Int → Int) (h : EvL tl σ H (xs.map V.int)) (hz : xs.length ≤ 40000) (hw : ∀ x, wipe ((wipe σ vs).set j (some x)) vs = wipe σ vs)
    (he : ∀ (x : Int) H1, x ∈ xs → Ex H H1 → Ev te ((wipe σ vs).set j (some (.int x))) H1 (.int (f x))) : EvL (tLc (iList K tl) (gName j) tYes te vs) σ H ((xs.map f).map V.int) := by
  have e : (xs.map f).map V.int = given (xs.map V.int).length (fun _ => true) (fun i => V.int (f (xs.getD i 0))) := by
    rw [given_all, List.length_map]
    refine List.ext_getElem (by simp) fun i h1 h2 => ?_
    have hi : i < xs.length := by simpa using h1
    simp only [List.getElem_map, List.getElem_range]
    rw [List.getD_eq_getElem?_getD, List.getElem?_eq_getElem hi]
    rfl
  rw [e]
  refine el_lcNL (K := K) _ _ h (by rw [List.length_map]; exact hz) hw (fun i x H1 e1 hx => et_yes) (fun i x H1 e1 hx _ => ?_)
  have hi : i < xs.length := by
    have := (List.getElem?_eq_some_iff.mp hx).1
    rwa [List.length_map] at this
  rw [int_at hi] at hx
  have ex := Option.some.inj hx
  subst ex
  have hmem : xs.getD i 0 ∈ xs := by
    rw [List.getD_eq_getElem?_getD, List.getElem?_eq_getElem hi]
    exact List.getElem_mem hi
  exact he _ H1 hmem e1
theorem s_retXS {sp : Sp} {E : L2.St → XK} {vs : List V} {ta : TA} (h : EvA ta σ H vs) (k : ∀ H1, Ex H H1 → sp vs H1 D.rt (E σ)) : tRet (tCallS sp E ta) D σ H := h H (Ex.refl H) _ fun H1 e1 => k H1 e1
/-- return e.name, e.place -/
theorem s_caught {a C d : Addr} {nm : Str} {i : Int} {j : Nat} (hσ : σ[j]? = some (some (.ref a))) (hd : H d = some (.xd (flds nm i))) (q : RetT [.str nm, .int i] H D.rt) : tRet (tTup (tCons (tXf a (.ref C) (some d) C "name" (tVar j)) (tCons (tXf a (.ref C) (some d) C "place" (tVar j)) tNil))) D σ H :=
  ⟨_, hσ, rfl, rfl, d, _, _, rfl, hd, rfl, _, hσ, rfl, rfl, d, _, _, rfl, hd, rfl, by show 2 ≤ sizeLine; decide, fun p hp => q p _ hp (Ex.new hp) upd_same⟩
end
theorem passE0 {X : Cx} : Passes (L2.CX X.prog X.w) X E0 := fun _ _ _ _ _ _ _ ⟨_, _, _, _, _, _, _, _, _, _, _, _, h⟩ => h.elim
/-- what is never reached -/
theorem ps_never {X : Cx} {st : Stmt} : PS X st (fun _ _ _ => False) := ⟨fun _ _ _ _ _ _ h => h.elim⟩
/-- a call in a try's body -/
theorem pe_callXS {X : Cx} {nm : Str} {k : Nat} {ps : List Str} {sp : Sp} {E : L2.St → XK} {p pos : Pos} {e : Expr} {es : List Expr} {t : TA} (C : CalX X.prog X.w X.K X.mg X.base nm k ps sp) (hr : Room k X.A) (hg : Gl X nm) (hx : ∀ σ, PassesAt (L2.CX X.prog X.w) X σ (E σ)) (ha : PA X (e :: es) t)
    (hdb : (nm == ("__debug__" : Str)) = false := by decide) (he : starEach (e :: es) X.env = (false, eval e X.env) :: starEach es X.env := by rfl) (hpl : (backTo pos (starEach es X.env)).any (·.1) = false := by rfl) :
    PE X (.Call (.Name nm p) (e :: es) [] pos) (tCallS sp E t) := by
  obtain ⟨f, fd, h1, h2, h3, h4⟩ := C.out
  exact pe_callS h4 hr hg h1 h2 h3 hx ha hdb he hpl
end KQ
set_option linter.all false
set_option exponentiation.threshold 2000
/-! Integers read out of bits. -/
namespace M15
/-- bits read as an integer -/
def numB (bs : List Int) : Int := bs.foldl (fun v b => 2 * v + b) 0
theorem numB_snoc (bs : List Int) (b : Int) : numB (bs ++ [b]) = 2 * numB bs + b := by
  unfold numB
  rw [List.foldl_append]
  rfl
def Bit01 (bs : List Int) : Prop := ∀ b ∈ bs, b = 0 ∨ b = 1
/-- a reading: an integer and the place behind it, a bad word at a place, cut off -/
inductive RI where
  | ok (v : Int) (pl : Nat)
  | iw (a : Nat)
  | tr
/-- how many of the first are b -/
def lead (b : Int) : List Int → Nat
  | [] => 0
  | x :: r => if x = b then lead b r + 1 else 0
theorem lead_le (b : Int) : ∀ l : List Int, lead b l ≤ l.length
  | [] => Nat.le_refl _
  | x :: r => by
    have := lead_le b r
    unfold lead
    split
    · simp; omega
    · exact Nat.zero_le _
theorem lead_at {b : Int} : ∀ {l : List Int} {i : Nat}, i < lead b l → l[i]? = some b
  | [], i, h => absurd h (Nat.not_lt_zero i)
  | x :: r, i, h => by
    unfold lead at h
    split at h
    · rename_i e
      cases i with
      | zero => simp [e]
      | succ i => simpa using lead_at (l := r) (i := i) (by omega)
    · omega
theorem lead_no {b : Int} : ∀ {l : List Int}, l[lead b l]? ≠ some b
  | [] => by simp
  | x :: r => by
    unfold lead
    split
    · simpa using lead_no (b := b) (l := r)
    · rename_i e
      simpa using e
theorem lead_lt {b : Int} {l : List Int} {i : Nat} (h : i ≤ lead b l) (hi : l[i]? = some b) : i < lead b l := by
  rcases Nat.lt_or_eq_of_le h with z | z
  · exact z
  · rw [z] at hi
    exact absurd hi lead_no
theorem lead_eq {b : Int} {l : List Int} {i : Nat} (h : i ≤ lead b l) (hi : l[i]? ≠ some b) : lead b l = i := by
  rcases Nat.lt_or_eq_of_le h with z | z
  · exact absurd (lead_at z) hi
  · exact z.symm
theorem lead_same (b : Int) (l : List Int) : lead b (b :: l) = lead b l + 1 := by
  show (if b = b then lead b l + 1 else 0) = _
  rw [if_pos rfl]
theorem lead_rep {b : Int} : ∀ (n : Nat) (l : List Int), lead b (List.replicate n b ++ l) = n + lead b l
  | 0, l => by simp
  | n + 1, l => by
    rw [List.replicate_succ, List.cons_append, lead_same, lead_rep n l]
    omega
theorem lead_cons {b x : Int} (h : x ≠ b) (l : List Int) : lead b (x :: l) = 0 := by
  unfold lead
  rw [if_neg h]
def rdField (bs : List Int) (a w : Nat) : RI := if a + w ≤ bs.length then .ok (numB ((bs.drop a).take w)) (a + w) else .tr
def rdGamma (bs : List Int) (a : Nat) : RI := if 40 < lead 0 (bs.drop a) then .iw a else rdField bs (a + lead 0 (bs.drop a)) (lead 0 (bs.drop a) + 1)
def rdDelta (bs : List Int) (a : Nat) : RI := match rdGamma bs a with
  | .ok c p => if 40 < c then .iw a else match rdField bs p (c.toNat - 1) with
    | .ok r p2 => .ok (2 ^ (c.toNat - 1) + r) p2
    | e => e
  | e => e
def rdRice (k : Nat) (bs : List Int) (a : Nat) : RI := match rdField bs (a + lead 1 (bs.drop a)) (k + 1) with
  | .ok low p => .ok ((lead 1 (bs.drop a) : Int) * 2 ^ k + low) p
  | e => e
def fibGo : List Int → Int → Int → Int → Int → Nat → RI
  | [], _, _, _, _, _ => .tr
  | b :: r, n, t, f, p, pl => if b = 1 ∧ p = 1 then .ok n (pl + 1) else fibGo r (n + b * t) f (t + f) b (pl + 1)
def rdFib (bs : List Int) (a : Nat) : RI := fibGo (bs.drop a) 0 1 2 0 a
/-! numbers of bits -/
theorem num_from : ∀ (bs : List Int) (v : Int), Bit01 bs → ∃ x : Int, bs.foldl (fun v b => 2 * v + b) v = v * 2 ^ bs.length + x ∧ 0 ≤ x ∧ x < 2 ^ bs.length ∧ x = numB bs
  | [], v, _ => ⟨0, by simp, by decide, by simp, by simp [numB]⟩
  | b :: r, v, h => by
    have hr : Bit01 r := fun x hx => h x (by simp [hx])
    obtain ⟨x, e1, h0, h1, e2⟩ := num_from r (2 * v + b) hr
    obtain ⟨y, f1, g0, g1, f2⟩ := num_from r (2 * 0 + b) hr
    have hb := h b (by simp)
    have hp : (0 : Int) < 2 ^ r.length := Int.pow_pos (by decide)
    have e3 : numB (b :: r) = b * 2 ^ r.length + y := by
      show List.foldl _ (2 * 0 + b) r = _
      rw [f1]
      grind
    have exy : x = y := by rw [e2, f2]
    refine ⟨b * 2 ^ r.length + x, ?_, ?_, ?_, ?_⟩
    · show List.foldl _ (2 * v + b) r = _
      rw [e1, List.length_cons, Int.pow_succ]
      grind
    · rcases hb with z | z <;> rw [z] <;> omega
    · rw [List.length_cons, Int.pow_succ]
      rcases hb with z | z <;> rw [z] <;> omega
    · rw [e3, exy]
theorem num_range {bs : List Int} (h : Bit01 bs) : 0 ≤ numB bs ∧ numB bs < 2 ^ bs.length := by
  obtain ⟨x, e1, h0, h1, e2⟩ := num_from bs 0 h
  rw [← e2]
  exact ⟨h0, h1⟩
theorem num_cons {b : Int} {r : List Int} (h : Bit01 (b :: r)) : numB (b :: r) = b * 2 ^ r.length + numB r := by
  have hr : Bit01 r := fun x hx => h x (by simp [hx])
  obtain ⟨x, e1, _, _, e2⟩ := num_from r (2 * 0 + b) hr
  show List.foldl _ (2 * 0 + b) r = _
  rw [e1, e2]
  grind
theorem num_app {a b : List Int} (hb : Bit01 b) : numB (a ++ b) = numB a * 2 ^ b.length + numB b := by
  obtain ⟨x, e1, h0, h1, e2⟩ := num_from b (numB a) hb
  unfold numB at *
  rw [List.foldl_append, e1, e2]
theorem num_zero (bs : List Int) : numB (0 :: bs) = numB bs := rfl
theorem Bit01.drop {bs : List Int} (h : Bit01 bs) (n : Nat) : Bit01 (bs.drop n) := fun b hb => h b (List.mem_of_mem_drop hb)
theorem Bit01.take {bs : List Int} (h : Bit01 bs) (n : Nat) : Bit01 (bs.take n) := fun b hb => h b (List.mem_of_mem_take hb)
theorem Bit01.app {a b : List Int} (h : Bit01 a) (h2 : Bit01 b) : Bit01 (a ++ b) := fun x hx => (List.mem_append.mp hx).elim (h x) (h2 x)
theorem Bit01.at_ {bs : List Int} (h : Bit01 bs) (i : Nat) : bs.getD i 0 = 0 ∨ bs.getD i 0 = 1 := by
  rw [List.getD_eq_getElem?_getD]
  cases e : bs[i]? with
  | none => exact .inl rfl
  | some x => exact h x (List.mem_of_getElem? e)
theorem at_drop {bs : List Int} {a i : Nat} (h : a + i < bs.length) : (bs.drop a)[i]? = some (bs.getD (a + i) 0) := by
  rw [List.getElem?_drop, List.getD_eq_getElem?_getD, List.getElem?_eq_getElem h]
  rfl
theorem drop_cons {bs : List Int} {a : Nat} (h : a < bs.length) : bs.drop a = bs.getD a 0 :: bs.drop (a + 1) := by
  rw [List.drop_eq_getElem_cons h, List.getD_eq_getElem?_getD, List.getElem?_eq_getElem h]
  rfl
theorem drop_nil {bs : List Int} {a : Nat} (h : bs.length ≤ a) : bs.drop a = [] := List.drop_eq_nil_of_le h
theorem take_up {bs : List Int} {a w : Nat} (h : a + w < bs.length) : (bs.drop a).take (w + 1) = (bs.drop a).take w ++ [bs.getD (a + w) 0] := by
  have h1 : w < (bs.drop a).length := by rw [List.length_drop]; omega
  rw [← List.take_append_getElem h1]
  have := at_drop (a := a) (i := w) h
  rw [List.getElem?_eq_getElem h1] at this
  rw [Option.some.inj this]
/-! what the readings are, case by case -/
section
variable {bs : List Int} {a : Nat}
theorem lead_le_len (b : Int) (h : a ≤ bs.length) : a + lead b (bs.drop a) ≤ bs.length := by
  have := lead_le b (bs.drop a)
  rw [List.length_drop] at this
  omega
theorem gamma_tr {z : Nat} (h1 : lead 0 (bs.drop a) = z) (h2 : z ≤ 40) (h3 : ¬ a + 2 * z + 1 ≤ bs.length) : rdGamma bs a = .tr := by
  unfold rdGamma rdField
  rw [h1, if_neg (by omega), if_neg (by omega)]
theorem gamma_ok {z : Nat} (h1 : lead 0 (bs.drop a) = z) (h2 : z ≤ 40) (h3 : a + 2 * z + 1 ≤ bs.length) : rdGamma bs a = .ok (numB ((bs.drop (a + z)).take (z + 1))) (a + z + (z + 1)) := by
  unfold rdGamma rdField
  rw [h1, if_neg (by omega), if_pos (by omega)]
theorem gamma_iw (h : 40 < lead 0 (bs.drop a)) : rdGamma bs a = .iw a := by
  unfold rdGamma
  rw [if_pos h]
/-- what a gamma code tells has its bits -/
theorem gamma_val {v : Int} {p : Nat} (hb : Bit01 bs) (h : rdGamma bs a = .ok v p) : 1 ≤ v ∧ v < 2 ^ 41 ∧ p ≤ bs.length ∧ a < p := by
  unfold rdGamma rdField at h
  split at h
  · cases h
  · rename_i h1
    split at h
    · rename_i h2
      injection h with e1 e2
      generalize hz : lead 0 (bs.drop a) = z at *
      have hlt : a + z < bs.length := by omega
      have hx : (bs.drop a)[z]? = some (bs.getD (a + z) 0) := at_drop hlt
      have hn : bs.getD (a + z) 0 = 1 := by
        rcases hb.at_ (a + z) with y | y
        · exfalso
          rw [y] at hx
          rw [← hz] at hx
          exact lead_no hx
        · exact y
      have hd : (bs.drop (a + z)).take (z + 1) = 1 :: (bs.drop (a + z + 1)).take z := by
        rw [drop_cons hlt, hn, List.take_succ_cons]
      have hbt : Bit01 ((bs.drop (a + z)).take (z + 1)) := (hb.drop _).take _
      rw [hd] at hbt e1
      have hl : ((bs.drop (a + z + 1)).take z).length = z := by rw [List.length_take, List.length_drop]; omega
      have hr := num_range (fun x hx => hbt x (List.mem_cons_of_mem _ hx))
      rw [num_cons hbt, hl] at e1
      rw [hl] at hr
      have hp : (1 : Int) ≤ 2 ^ z := by
        have := Int.pow_pos (n := 2) (m := z) (by decide)
        omega
      have hm : (2 : Int) ^ z ≤ 2 ^ 40 := by
        have := Nat.pow_le_pow_right (show 0 < 2 by decide) (show z ≤ 40 by omega)
        exact_mod_cast this
      refine ⟨by omega, ?_, by omega, by omega⟩
      have : (2 : Int) ^ 41 = 2 ^ 40 + 2 ^ 40 := by decide
      omega
    · cases h
end
end M15
set_option Elab.async false
set_option linter.all false
set_option maxRecDepth 100000
set_option maxHeartbeats 4000000
namespace K14
open PySem PySem.Spec PyProof.Rows L2 StX GX KC Evl KX KQ M15
def topS (i : Nat) : Stmt := PySem.Challenge.pw_kraftroom_k14_codes_of_integers.main.body.getD i (.Pass ⟨0, 0, 0, 0⟩)
abbrev s_KraftroomError_init : Stmt := inClass (topS 1) 0
theorem sc_KraftroomError_init : FnScope ["self", "place"] ["self", "place"] (defScope s_KraftroomError_init) := ⟨rfl, rfl, rfl, by decide +kernel, rfl, by decide +kernel, by decide +kernel⟩
abbrev s_field_bits : Stmt := topS 5
theorem sc_field_bits : FnScope ["number", "width", "at"] ["number", "width"] (defScope s_field_bits) := ⟨rfl, rfl, rfl, by decide +kernel, rfl, by decide +kernel, by decide +kernel⟩
abbrev s_bits_number : Stmt := topS 6
theorem sc_bits_number : FnScope ["bits", "number", "bit"] ["bits"] (defScope s_bits_number) := ⟨rfl, rfl, rfl, by decide +kernel, rfl, by decide +kernel, by decide +kernel⟩
abbrev s_read_bits : Stmt := topS 7
theorem sc_read_bits : FnScope ["bits", "at", "count", "end"] ["bits", "at", "count"] (defScope s_read_bits) := ⟨rfl, rfl, rfl, by decide +kernel, rfl, by decide +kernel, by decide +kernel⟩
abbrev s_read_field : Stmt := topS 8
theorem sc_read_field : FnScope ["bits", "at", "width", "taken", "place"] ["bits", "at", "width"] (defScope s_read_field) := ⟨rfl, rfl, rfl, by decide +kernel, rfl, by decide +kernel, by decide +kernel⟩
abbrev s_gamma_bits : Stmt := topS 12
theorem sc_gamma_bits : FnScope ["n", "count"] ["n"] (defScope s_gamma_bits) := ⟨rfl, rfl, rfl, by decide +kernel, rfl, by decide +kernel, by decide +kernel⟩
abbrev s_delta_bits : Stmt := topS 13
theorem sc_delta_bits : FnScope ["n", "count"] ["n"] (defScope s_delta_bits) := ⟨rfl, rfl, rfl, by decide +kernel, rfl, by decide +kernel, by decide +kernel⟩
abbrev s_rice_bits : Stmt := topS 14
theorem sc_rice_bits : FnScope ["k", "n"] ["k", "n"] (defScope s_rice_bits) := ⟨rfl, rfl, rfl, by decide +kernel, rfl, by decide +kernel, by decide +kernel⟩
abbrev s_fibonacci_terms : Stmt := topS 15
theorem sc_fibonacci_terms : FnScope ["n", "found", "term", "following"] ["n"] (defScope s_fibonacci_terms) := ⟨rfl, rfl, rfl, by decide +kernel, rfl, by decide +kernel, by decide +kernel⟩
abbrev s_fibonacci_bits : Stmt := topS 16
theorem sc_fibonacci_bits : FnScope ["n", "found", "rest", "term"] ["n"] (defScope s_fibonacci_bits) := ⟨rfl, rfl, rfl, by decide +kernel, rfl, by decide +kernel, by decide +kernel⟩
abbrev s_count_zeros : Stmt := topS 17
theorem sc_count_zeros : FnScope ["bits", "at", "place"] ["bits", "at"] (defScope s_count_zeros) := ⟨rfl, rfl, rfl, by decide +kernel, rfl, by decide +kernel, by decide +kernel⟩
abbrev s_read_gamma : Stmt := topS 18
theorem sc_read_gamma : FnScope ["bits", "at", "zeros"] ["bits", "at"] (defScope s_read_gamma) := ⟨rfl, rfl, rfl, by decide +kernel, rfl, by decide +kernel, by decide +kernel⟩
abbrev s_read_delta : Stmt := topS 19
theorem sc_read_delta : FnScope ["bits", "at", "count", "place", "rest"] ["bits", "at"] (defScope s_read_delta) := ⟨rfl, rfl, rfl, by decide +kernel, rfl, by decide +kernel, by decide +kernel⟩
abbrev s_read_rice : Stmt := topS 20
theorem sc_read_rice : FnScope ["k", "bits", "at", "place", "ones", "low"] ["k", "bits", "at"] (defScope s_read_rice) := ⟨rfl, rfl, rfl, by decide +kernel, rfl, by decide +kernel, by decide +kernel⟩
abbrev s_read_fibonacci : Stmt := topS 21
theorem sc_read_fibonacci : FnScope ["bits", "at", "number", "term", "following", "before", "place", "bit"] ["bits", "at"] (defScope s_read_fibonacci) := ⟨rfl, rfl, rfl, by decide +kernel, rfl, by decide +kernel, by decide +kernel⟩
abbrev s_law_cell : Stmt := topS 23
theorem sc_law_cell : FnScope ["script", "k"] ["script", "k"] (defScope s_law_cell) := ⟨rfl, rfl, rfl, by decide +kernel, rfl, by decide +kernel, by decide +kernel⟩
abbrev s_law_number : Stmt := topS 24
theorem sc_law_number : FnScope ["cell"] ["cell"] (defScope s_law_number) := ⟨rfl, rfl, rfl, by decide +kernel, rfl, by decide +kernel, by decide +kernel⟩
abbrev s_law_binary : Stmt := topS 25
theorem sc_law_binary : FnScope ["n", "width", "k"] ["n"] (defScope s_law_binary) := ⟨rfl, rfl, rfl, by decide +kernel, rfl, by decide +kernel, by decide +kernel⟩
abbrev s_law_gamma : Stmt := topS 26
theorem sc_law_gamma : FnScope ["n", "row", "k"] ["n"] (defScope s_law_gamma) := ⟨rfl, rfl, rfl, by decide +kernel, rfl, by decide +kernel, by decide +kernel⟩
abbrev s_law_delta : Stmt := topS 27
theorem sc_law_delta : FnScope ["n", "row"] ["n"] (defScope s_law_delta) := ⟨rfl, rfl, rfl, by decide +kernel, rfl, by decide +kernel, by decide +kernel⟩
abbrev s_law_fibonacci : Stmt := topS 28
theorem sc_law_fibonacci : FnScope ["n", "terms", "k", "bits", "started", "back", "term"] ["n"] (defScope s_law_fibonacci) := ⟨rfl, rfl, rfl, by decide +kernel, rfl, by decide +kernel, by decide +kernel⟩
abbrev s_law_rice : Stmt := topS 29
theorem sc_law_rice : FnScope ["k", "n", "j"] ["k", "n"] (defScope s_law_rice) := ⟨rfl, rfl, rfl, by decide +kernel, rfl, by decide +kernel, by decide +kernel⟩
abbrev s_law_all : Stmt := topS 30
theorem sc_law_all : FnScope ["n", "k"] ["n", "k"] (defScope s_law_all) := ⟨rfl, rfl, rfl, by decide +kernel, rfl, by decide +kernel, by decide +kernel⟩
abbrev s_law : Stmt := topS 31
theorem sc_law : FnScope ["script", "cell", "k", "first", "other", "small", "due", "found", "before", "one", "behind", "at", "turn", "bits", "stop", "told", "codes", "same"] ["script"] (defScope s_law) := ⟨rfl, rfl, rfl, by decide +kernel, rfl, by decide +kernel, by decide +kernel⟩
theorem cutV_mid (xs : List V) {a b : Nat} (h1 : a ≤ b) (h2 : b ≤ xs.length) : cutV xs (some (a : Int)) (some (b : Int)) = (xs.drop a).take (b - a) := by
  unfold cutV
  have e1 : min a xs.length = a := by omega
  have e2 : min b xs.length = b := by omega
  rw [HT.sIx_nat, HT.sIx_nat, e1, e2]
theorem take_snoc {α : Type} {xs : List α} {i : Nat} {x : α} (h : xs[i]? = some x) : xs.take (i + 1) = xs.take i ++ [x] := by
  obtain ⟨h1, e⟩ := List.getElem?_eq_some_iff.mp h
  rw [← e, List.take_append_getElem h1]
section
variable {P : Program} {w : World} {K : PySem.W.Frag} {mg : Str → Option Value} {base : Heap} {σ : L2.St} {H H' : Hp} {CI CT : Addr}
theorem ok_init {f : Addr} {fd : FuncData} {k : Nat} (F : Fun K "__init__" "KraftroomError.__init__" s_KraftroomError_init f fd) (hV : mg "ValueError" = none) (vV : PySem.W.findCls K (.type "ValueError") (.type "type") "__init__" = some (.val (.builtin "ValueError.__init__"))) : FnOk P w K mg base CX0 (k + 1) f fd ["self", "place"] (spInit K) := by
  refine F.ok sc_KraftroomError_init (fun vs H Q E h => ?_) (fun cdv A outer s H vs Q E hr h => ?_)
  · obtain ⟨a, C, i, nm, rfl, _⟩ := h
    rfl
  · obtain ⟨a, C, i, nm, rfl, ha, ⟨T, EC, N, n1, n2⟩, hi, q⟩ := h
    refine ⟨_, pss_cons (ps_ost (pv 0) (pv 1)) (pss_cons (ps_ost (pv 0) (pe_cnam (pe_ecls (pv 0)))) (pss_one (ps_expr (pe_veD (by rfl) hV vV (pa_cons (pv 0) (pa_cons (pe_joined (.cons pe_str (.cons (pe_fmt (pv 1)) .nil))) pa_nil)))))), ?_⟩
    refine ⟨_, rfl, _, rfl, a, C, rfl, T, n1, .inl ⟨ha, fun dx hdx hne => ?_⟩⟩
    have hda : ∀ {H' : Hp} {o : HO}, (upd (upd H dx o) a (exo a C (some dx))) dx = some o := fun {H' o} => by rw [upd_ne hne, upd_same]
    refine ⟨_, rfl, a, C, dx, _, rfl, EC, upd_same, hda (H' := H), C, nm, rfl, N, _, rfl, a, C, rfl, T, n2, .inr ⟨dx, _, upd_same, hda (H' := H), by show 1 ≤ 900; decide, ?_⟩⟩
    refine ⟨_, rfl, _, rfl, by decide, _, rfl, .inr ⟨i, rfl, log_bd hi, _, rfl, ?_, a, C, some dx, _, rfl, by show 1 ≤ 1000; decide, T, ?_, ?_⟩⟩
    · exact text_fits hi
    · rw [upd_ne (fun z => hne z.symm), upd_same]
    · refine q dx _ hdx hne ?_ upd_same fun b hb hb2 => ?_
      · rw [upd_ne (fun z => hne z.symm), upd_same]
      · rw [upd_ne hb2, upd_ne hb, upd_ne hb2]
/-! fields -/
def spNumber (K : PySem.W.Frag) : Sp := fun vs H Q _ => ∃ (l : Addr) (bs : List Int), vs = [.ref l] ∧ SqL K H l (bs.map V.int) ∧ RetV (.int (numB bs)) H Q
theorem ok_bits_number {f : Addr} {fd : FuncData} {k : Nat} (Fn : Fun K "bits_number" "bits_number" s_bits_number f fd) (B : Bs mg) : FnOk P w K mg base CX0 (k + 1) f fd ["bits"] (spNumber K) := by
  refine Fn.ok sc_bits_number (fun vs H Q E h => ?_) (fun cdv A outer s H vs Q E hr h => ?_)
  · obtain ⟨l, bs, rfl, _⟩ := h
    rfl
  · obtain ⟨l, bs, rfl, hs, q⟩ := h
    refine ⟨_, (pss_cons (ps_set (i := 1) sc_bits_number.nd rfl (Or.inl rfl) pe_int)
      (pss_cons (ps_for PassesOwn.never rfl (pi_list (pv 0)) (pg_name (i := 2) sc_bits_number.nd rfl (Or.inl rfl)) (pss_one (ps_set (i := 1) sc_bits_number.nd rfl (Or.inl rfl) (pe_op op_add (pe_op op_mul pe_int (pv 1)) (pv 2)))))
      (pss_one (ps_ret (pv 1))))), ?_⟩
    refine q_asg (v := .int 0) ev_c fun H1 e1 => ?_
    refine q_forLn (ev_var rfl) (ex_l e1 hs) (fun i σ' H' => ∃ x, σ' = [some (.ref l), some (.int (numB (bs.take i))), x] ∧ Ex H H') (fun H2 e2 => ⟨none, rfl, e1.trans e2⟩) (fun i σ' H' _ ⟨_, _, e⟩ => ex_l e hs) ?_ ?_
    · rintro i v σ' H' hv ⟨x, rfl, ex⟩
      obtain ⟨b, hb⟩ : ∃ b, bs[i]? = some b := ⟨_, List.getElem?_eq_getElem (by have := (List.getElem?_eq_some_iff.mp hv).1; rwa [List.length_map] at this)⟩
      rw [List.getElem?_map, hb] at hv
      cases hv
      refine s_asg (v := .int (numB (bs.take (i + 1)))) (ev_is (ev_op (ev_op ev_c (ev_var rfl) (rv_mul (by decide))) (ev_var rfl) rv_I0) (by rw [take_snoc hb, numB_snoc])) fun H3 e3 => ⟨_, rfl, ex.trans e3⟩
    · rintro σ' H' ⟨x, rfl, ex⟩
      rw [List.length_map, List.take_length]
      exact s_ret (ev_var rfl) fun H3 e3 => q H3 (ex.trans e3)
/-- bits from a place on: a new list and the place behind, or cut off -/
def OutB (CT : Addr) (bs : List Int) (a c : Nat) (H : Hp) (Q : VK) (E : XK) : Prop :=
  if a + c ≤ bs.length then ∀ b p H2, H b = none → H p = none → Ex H H2 → H2 b = some (.lst (((bs.drop a).take c).map V.int)) → H2 p = some (.tup [.ref b, .int ((a + c : Nat) : Int)]) → Q (.ref p) H2
  else ErrOut CT "Truncated" bs.length H E
def spReadBits (K : PySem.W.Frag) (CT : Addr) : Sp := fun vs H Q E => ∃ (l : Addr) (bs : List Int) (a c : Nat), vs = [.ref l, .int (a : Int), .int (c : Int)] ∧ SqL K H l (bs.map V.int) ∧ bs.length ≤ 100000 ∧ OutB CT bs a c H Q E
theorem ok_read_bits {f fI : Addr} {fd fdI : FuncData} {k : Nat} (Fn : Fun K "read_bits" "read_bits" s_read_bits f fd) (B : Bs mg) (G_Truncated : ErrG P w K mg base "Truncated" CT fI fdI) : FnOk P w K mg base (L2.CX P w) (k + 3) f fd ["bits", "at", "count"] (spReadBits K CT) := by
  refine Fn.okX sc_read_bits (fun vs H Q E h => ?_) (fun cdv A outer s H vs Q E hr h => ?_)
  · obtain ⟨l, bs, a, c, rfl, _⟩ := h
    rfl
  · obtain ⟨l, bs, a, c, rfl, hs, hl, q⟩ := h
    refine ⟨_, (pss_cons (ps_set (i := 3) sc_read_bits.nd rfl (Or.inl rfl) (pe_op op_add (pv 1) (pv 2)))
      (pss_cons (ps_if (pt_cmpR op_gt (pv 3) (pe_callB call_len_seq (by rfl) B.len PySem.boot_len (pa_cons (pv 0) pa_nil)) (nomark _)) (pss_one (ps_raise rfl (takes_of rfl rfl rfl rfl) (pmk_oex G_Truncated.er.oc G_Truncated.iC G_Truncated.tI G_Truncated.ok (hr.mono (by omega)) G_Truncated.bd .nil pass0 (by rfl) G_Truncated.g (pa_cons (pe_callB call_len_seq (by rfl) B.len PySem.boot_len (pa_cons (pv 0) pa_nil)) pa_nil)))) pss_nil)
      (pss_one (ps_ret (pe_tup (pa_cons (pe_slice sl_list (pv 0) (po_some (pv 1)) (po_some (pv 3))) (pa_cons (pv 3) pa_nil))))))), ?_⟩
    unfold OutB at q
    refine q_asg (v := .int ((a + c : Nat) : Int)) (ev_is (ev_add (ev_var rfl) (ev_var rfl)) (by rw [Int.natCast_add])) fun H1 e1 => ?_
    have hs1 := ex_l e1 hs
    refine q_when (et_test (ev_op (ev_var rfl) (ev_is (ev_len (K := K) (ev_var rfl) hs1) (by rw [List.length_map])) rv_I0)) (fun hb H2 e2 => ?_) (fun hb H2 e2 => ?_)
    · have hgt := of_decide_eq_true hb
      rw [if_neg (by omega)] at q
      exact s_mk (i := (bs.length : Int)) G_Truncated.er (ev_is (ev_len (K := K) (ev_var rfl) (ex_l e2 hs1)) (by rw [List.length_map])) (by omega) (ErrOut.mono (e1.trans e2) q)
    · have hle := of_decide_eq_false hb
      have hle2 : a + c ≤ bs.length := by omega
      rw [if_pos hle2] at q
      have hcut : cutV (bs.map V.int) (some (a : Int)) (some ((a + c : Nat) : Int)) = ((bs.drop a).take c).map V.int := by
        rw [cutV_mid _ (by omega) (by rw [List.length_map]; omega), ← List.map_drop, ← List.map_take]
        congr 2
        omega
      refine s_retLT (xs := ((bs.drop a).take c).map V.int) (by rw [← hcut]; exact el_sl (ev_var rfl) (eo_some (ev_var rfl)) (eo_some (ev_var rfl)) (ex_l e2 hs1)) (fun H3 e3 => ev_var rfl) fun b p H3 nb np e3 h3 h4 => ?_
      have e02 := e1.trans e2
      exact q b p H3 (fresh_back e02 nb) (fresh_back e02 np) (e02.trans e3) h3 h4
/-- what a reading does -/
def OutI (CI CT : Addr) (len : Nat) (r : RI) (H : Hp) (Q : VK) (E : XK) : Prop := match r with
  | .ok v pl => RetT [.int v, .int (pl : Int)] H Q
  | .iw a => ErrOut CI "InvalidWord" (a : Int) H E
  | .tr => ErrOut CT "Truncated" (len : Int) H E
theorem OutI.mono {len : Nat} {r : RI} {Q : VK} {E : XK} (e : Ex H H') (h : OutI CI CT len r H Q E) : OutI CI CT len r H' Q E := by
  cases r with
  | ok v pl => exact RetT.mono e h
  | iw a => exact ErrOut.mono e h
  | tr => exact ErrOut.mono e h
def spReadField (K : PySem.W.Frag) (CI CT : Addr) : Sp := fun vs H Q E => ∃ (l : Addr) (bs : List Int) (a c : Nat), vs = [.ref l, .int (a : Int), .int (c : Int)] ∧ SqL K H l (bs.map V.int) ∧ bs.length ≤ 100000 ∧ OutI CI CT bs.length (rdField bs a c) H Q E
theorem ok_read_field {f : Addr} {fd : FuncData} {k : Nat} (Fn : Fun K "read_field" "read_field" s_read_field f fd) (B : Bs mg) (C_read_bits : CalX P w K mg base "read_bits" 3 ["bits", "at", "count"] (spReadBits K CT)) (C_bits_number : Cal P w K mg base "bits_number" 1 ["bits"] (spNumber K)) :
    FnOk P w K mg base (L2.CX P w) (k + 4) f fd ["bits", "at", "width"] (spReadField K CI CT) := by
  refine Fn.okX sc_read_field (fun vs H Q E h => ?_) (fun cdv A outer s H vs Q E hr h => ?_)
  · obtain ⟨l, bs, a, c, rfl, _⟩ := h
    rfl
  · obtain ⟨l, bs, a, c, rfl, hs, hl, q⟩ := h
    refine ⟨_, (pss_cons (ps_asg (pe_callX C_read_bits (hr.mono (by omega)) (by rfl) (passes_call (takes_of rfl rfl rfl rfl) (fun _ _ _ _ h => h)) (pa_cons (pv 0) (pa_cons (pv 1) (pa_cons (pv 2) pa_nil)))) (pg_tup rfl (pgs_cons (pg_name (i := 3) sc_read_field.nd rfl (Or.inl rfl)) (pgs_cons (pg_name (i := 4) sc_read_field.nd rfl (Or.inl rfl)) pgs_nil))))
      (pss_one (ps_ret (pe_tup (pa_cons (pe_callC C_bits_number (hr.mono (by omega)) (by rfl) (pa_cons (pv 3) pa_nil)) (pa_cons (pv 4) pa_nil)))))), ?_⟩
    refine q_unpX (vs := [.ref l, .int (a : Int), .int (c : Int)]) (ea3 (ev_var rfl) (ev_var rfl) (ev_var rfl)) fun H1 e1 => ⟨l, bs, a, c, rfl, ex_l e1 hs, hl, ?_⟩
    unfold rdField at q
    unfold OutB
    by_cases h : a + c ≤ bs.length
    · rw [if_pos h] at q ⊢
      intro b p H2 nb np e2 hb hp
      refine g_two (st_of hp) ?_
      exact s_ret2 (ev_call (vs := [.ref b]) (ea1 (ev_var rfl)) fun H3 e3 Q q E => ⟨b, _, rfl, sq_of (e3 _ _ hb), q⟩) (ev_var rfl) (RetT.mono (e1.trans e2) q)
    · rw [if_neg h] at q ⊢
      exact ErrOut.mono e1 q
end
end K14
set_option Elab.async false
set_option linter.all false
set_option maxRecDepth 100000
set_option maxHeartbeats 4000000
namespace K14
open PySem PySem.Spec PyProof.Rows L2 StX GX KC Evl KX KQ M15
structure GN (mg : Str → Option Value) (tz tt : Tok) : Prop where
  g_MOST_ZEROS : mg "MOST_ZEROS" = some (.int 40 tz)
  g_MOST_TOLD : mg "MOST_TOLD" = some (.int 40 tt)
section
variable {P : Program} {w : World} {K : PySem.W.Frag} {mg : Str → Option Value} {base : Heap} {σ : L2.St} {H H' : Hp} {CI CT : Addr} {tz tt : Tok}
theorem ev_bit {te ti : TE} {l : Addr} {bs : List Int} {i : Int} {j : Nat} (h : Ev te σ H (.ref l)) (hi : Ev ti σ H (.int i)) (e : i = (j : Int)) (hs : SqL K H l (bs.map V.int)) (hj : j < bs.length) : Ev (tOp (rIxL K) te ti) σ H (.int (bs.getD j 0)) := ev_op h hi (rv_ixL hs (atI_at e hj))
/-- how many zero bits stand at a place -/
def spZeros (K : PySem.W.Frag) (CI : Addr) : Sp := fun vs H Q E => ∃ (l : Addr) (bs : List Int) (a : Nat), vs = [.ref l, .int (a : Int)] ∧ SqL K H l (bs.map V.int) ∧ bs.length ≤ 100000 ∧ Bit01 bs ∧
  (if 40 < lead 0 (bs.drop a) then ErrOut CI "InvalidWord" (a : Int) H E else RetV (.int (lead 0 (bs.drop a) : Int)) H Q)
theorem ok_count_zeros {f fI : Addr} {fd fdI : FuncData} {k : Nat} (Fn : Fun K "count_zeros" "count_zeros" s_count_zeros f fd) (B : Bs mg) (T : GN mg tz tt) (G_InvalidWord : ErrG P w K mg base "InvalidWord" CI fI fdI) : FnOk P w K mg base (L2.CX P w) (k + 3) f fd ["bits", "at"] (spZeros K CI) := by
  refine Fn.okX sc_count_zeros (fun vs H Q E h => ?_) (fun cdv A outer s H vs Q E hr h => ?_)
  · obtain ⟨l, bs, a, rfl, _⟩ := h
    rfl
  · obtain ⟨l, bs, a, rfl, hs, hl, hb01, q⟩ := h
    refine ⟨_, (pss_cons (ps_set (i := 2) sc_count_zeros.nd rfl (Or.inl rfl) (pv 1))
      (pss_cons (ps_while (passes_of rfl) (PW.pt (pw_and (pt_cmpR op_lt (pv 2) (pe_callB call_len_seq (by rfl) B.len PySem.boot_len (pa_cons (pv 0) pa_nil)) (nomark _)) (pw_and1 (pt_cmpR op_eq (pe_ix ix_list (pv 0) (pv 2) (fun _ _ => rfl)) pe_int (nomark _))))) (pss_cons (ps_aug (i := 2) sc_count_zeros.nd rfl (Or.inl rfl) pe_int ip_add)
      (pss_one (ps_if (pt_cmpR op_gt (pe_op op_sub (pv 2) (pv 1)) (pe_glob (v := .int 40) (by rfl) T.g_MOST_ZEROS ⟨_, rfl⟩) (nomark _)) (pss_one (ps_raise rfl (takes_of rfl rfl rfl rfl) (pmk_oex G_InvalidWord.er.oc G_InvalidWord.iC G_InvalidWord.tI G_InvalidWord.ok (hr.mono (by omega)) G_InvalidWord.bd .nil pass0 (by rfl) G_InvalidWord.g (pa_cons (pv 1) pa_nil)))) pss_nil))))
      (pss_one (ps_ret (pe_op op_sub (pv 2) (pv 1)))))), ?_⟩
    refine q_asg (v := .int (a : Int)) (ev_var rfl) fun H1 e1 => ?_
    generalize hz : lead 0 (bs.drop a) = z at q
    have hzl := lead_le 0 (bs.drop a)
    rw [hz, List.length_drop] at hzl
    have hat : ∀ i, i ≤ z → (a + i < bs.length → (bs.getD (a + i) 0 = 0 ↔ i < z)) := fun i hi hlt => by
      have h1 := at_drop (a := a) (i := i) hlt
      constructor
      · intro e
        rw [e] at h1
        rw [← hz]
        exact lead_lt (by rw [hz]; exact hi) h1
      · intro e
        rw [← hz] at e
        have h2 := lead_at e
        rw [h1] at h2
        exact Option.some.inj h2
    refine q_while (fun m σ' H' => ∃ i : Nat, m + i = 41 ∧ i ≤ z ∧ i ≤ 40 ∧ σ' = [some (.ref l), some (.int (a : Int)), some (.int ((a + i : Nat) : Int))] ∧ Ex H H') 41 ⟨0, by omega, by omega, by omega, rfl, e1⟩ ?_
    rintro m σ' H' ⟨i, hm, hiz, hi40, rfl, ex⟩
    have hs2 := ex_l ex hs
    refine ⟨decide (i < z), et_is (et_and (a := decide (((a + i : Nat) : Int) < (bs.length : Int))) (b := decide (bs.getD (a + i) 0 = 0)) (et_test (ev_op (ev_var rfl) (ev_is (ev_len (K := K) (ev_var rfl) hs2) (by rw [List.length_map])) rv_I0)) fun hc => ?_) ?_, fun hb H2 e2 => ?_, fun hb H2 e2 => ?_⟩
    · exact et_test (ev_eq (ev_bit (ev_var rfl) (ev_var rfl) rfl hs2 (by have := of_decide_eq_true hc; omega)) ev_c)
    · by_cases h : a + i < bs.length
      · rw [decide_eq_true (show ((a + i : Nat) : Int) < (bs.length : Int) by omega), Bool.true_and]
        exact decide_eq_decide.mpr (hat i hiz h)
      · rw [decide_eq_false (show ¬ ((a + i : Nat) : Int) < (bs.length : Int) by omega), decide_eq_false (show ¬ i < z by omega)]
        rfl
    · have hlt := of_decide_eq_true hb
      refine ⟨fun σ2 H3 => ∃ j : Nat, (m - 1) + j = 41 ∧ j ≤ z ∧ j ≤ 40 ∧ σ2 = [some (.ref l), some (.int (a : Int)), some (.int ((a + j : Nat) : Int))] ∧ Ex H H3, fun σ2 H3 h => ⟨m - 1, by omega, h⟩, ?_⟩
      refine q_aug (a := ((a + i : Nat) : Int)) (b := 1) rfl ev_c fun H3 e3 => ?_
      have e03 := (ex.trans e2).trans e3
      refine s_when (et_test (ev_op (ev_sub (ev_var (v := .int (((a + i : Nat) : Int) + 1)) rfl) (ev_var (v := .int (a : Int)) rfl)) ev_c rv_I0)) (fun hb2 H4 e4 => ?_) (fun hb2 H4 e4 => ?_)
      · have hgt := of_decide_eq_true hb2
        rw [if_pos (by omega)] at q
        exact s_mk (i := (a : Int)) G_InvalidWord.er (ev_var rfl) (by omega) (ErrOut.mono (e03.trans e4) q)
      · have hle := of_decide_eq_false hb2
        exact ⟨i + 1, by omega, by omega, by omega, by
          have : (((a + i : Nat) : Int) + 1) = ((a + (i + 1) : Nat) : Int) := by omega
          show [some (V.ref l), some (.int (a : Int)), some (.int (((a + i : Nat) : Int) + 1))] = _
          rw [this], e03.trans e4⟩
    · have hge := of_decide_eq_false hb
      have hzi : z = i := by omega
      rw [if_neg (by omega)] at q
      exact s_ret (ev_is (ev_sub (ev_var (v := .int ((a + i : Nat) : Int)) rfl) (ev_var (v := .int (a : Int)) rfl)) (by rw [hzi]; congr 1; omega)) fun H3 e3 => q H3 ((ex.trans e2).trans e3)
def spRead (K : PySem.W.Frag) (CI CT : Addr) (rd : List Int → Nat → RI) : Sp := fun vs H Q E => ∃ (l : Addr) (bs : List Int) (a : Nat), vs = [.ref l, .int (a : Int)] ∧ SqL K H l (bs.map V.int) ∧ bs.length ≤ 10000 ∧ Bit01 bs ∧ a ≤ bs.length ∧ OutI CI CT bs.length (rd bs a) H Q E
theorem ok_read_gamma {f : Addr} {fd : FuncData} {k : Nat} (Fn : Fun K "read_gamma" "read_gamma" s_read_gamma f fd) (B : Bs mg) (C_count_zeros : CalX P w K mg base "count_zeros" 3 ["bits", "at"] (spZeros K CI)) (C_read_field : CalX P w K mg base "read_field" 4 ["bits", "at", "width"] (spReadField K CI CT)) :
    FnOk P w K mg base (L2.CX P w) (k + 5) f fd ["bits", "at"] (spRead K CI CT rdGamma) := by
  refine Fn.okX sc_read_gamma (fun vs H Q E h => ?_) (fun cdv A outer s H vs Q E hr h => ?_)
  · obtain ⟨l, bs, a, rfl, _⟩ := h
    rfl
  · obtain ⟨l, bs, a, rfl, hs, hl, hb01, ha, q⟩ := h
    refine ⟨_, (pss_cons (ps_set (i := 2) sc_read_gamma.nd rfl (Or.inl rfl) (pe_callX C_count_zeros (hr.mono (by omega)) (by rfl) (passes_call (takes_of rfl rfl rfl rfl) (fun _ _ _ _ h => h)) (pa_cons (pv 0) (pa_cons (pv 1) pa_nil))))
      (pss_one (ps_ret (pe_callX C_read_field (hr.mono (by omega)) (by rfl) (passes_call (takes_of rfl rfl rfl rfl) (fun _ _ _ _ h => h)) (pa_cons (pv 0) (pa_cons (pe_op op_add (pv 1) (pv 2)) (pa_cons (pe_op op_add (pv 2) pe_int) pa_nil))))))), ?_⟩
    refine q_unpX (g := gName 2) (vs := [.ref l, .int (a : Int)]) (ea2 (ev_var rfl) (ev_var rfl)) fun H1 e1 => ⟨l, bs, a, rfl, ex_l e1 hs, by omega, hb01, ?_⟩
    unfold rdGamma at q
    by_cases h : 40 < lead 0 (bs.drop a)
    · rw [if_pos h] at q ⊢
      exact ErrOut.mono e1 q
    · rw [if_neg h] at q ⊢
      intro H2 e2
      have e02 := e1.trans e2
      exact s_retX (vs := [.ref l, .int ((a + lead 0 (bs.drop a) : Nat) : Int), .int ((lead 0 (bs.drop a) + 1 : Nat) : Int)]) (ea3 (ev_var rfl) (ev_is (ev_add (ev_var (v := .int (a : Int)) rfl) (ev_var (v := .int (lead 0 (bs.drop a) : Int)) rfl)) (by rw [Int.natCast_add])) (ev_is (ev_add (ev_var (v := .int (lead 0 (bs.drop a) : Int)) rfl) ev_c) (by rw [Int.natCast_add]; rfl))) fun H3 e3 => ⟨l, bs, _, _, rfl, ex_l (e02.trans e3) hs, by omega, OutI.mono (e02.trans e3) q⟩
theorem two_pow_nat (k : Nat) : ((2 ^ k : Nat) : Int) = 2 ^ k := by simp
theorem ok_read_delta {f fI : Addr} {fd fdI : FuncData} {k : Nat} (Fn : Fun K "read_delta" "read_delta" s_read_delta f fd) (B : Bs mg) (T : GN mg tz tt) (G_InvalidWord : ErrG P w K mg base "InvalidWord" CI fI fdI) (C_read_gamma : CalX P w K mg base "read_gamma" 5 ["bits", "at"] (spRead K CI CT rdGamma)) (C_read_field : CalX P w K mg base "read_field" 4 ["bits", "at", "width"] (spReadField K CI CT)) :
    FnOk P w K mg base (L2.CX P w) (k + 6) f fd ["bits", "at"] (spRead K CI CT rdDelta) := by
  refine Fn.okX sc_read_delta (fun vs H Q E h => ?_) (fun cdv A outer s H vs Q E hr h => ?_)
  · obtain ⟨l, bs, a, rfl, _⟩ := h
    rfl
  · obtain ⟨l, bs, a, rfl, hs, hl, hb01, ha, q⟩ := h
    refine ⟨_, (pss_cons (ps_asg (pe_callX C_read_gamma (hr.mono (by omega)) (by rfl) (passes_call (takes_of rfl rfl rfl rfl) (fun _ _ _ _ h => h)) (pa_cons (pv 0) (pa_cons (pv 1) pa_nil))) (pg_tup rfl (pgs_cons (pg_name (i := 2) sc_read_delta.nd rfl (Or.inl rfl)) (pgs_cons (pg_name (i := 3) sc_read_delta.nd rfl (Or.inl rfl)) pgs_nil))))
      (pss_cons (ps_if (pt_cmpR op_gt (pv 2) (pe_glob (v := .int 40) (by rfl) T.g_MOST_TOLD ⟨_, rfl⟩) (nomark _)) (pss_one (ps_raise rfl (takes_of rfl rfl rfl rfl) (pmk_oex G_InvalidWord.er.oc G_InvalidWord.iC G_InvalidWord.tI G_InvalidWord.ok (hr.mono (by omega)) G_InvalidWord.bd .nil pass0 (by rfl) G_InvalidWord.g (pa_cons (pv 1) pa_nil)))) pss_nil)
      (pss_cons (ps_asg (pe_callX C_read_field (hr.mono (by omega)) (by rfl) (passes_call (takes_of rfl rfl rfl rfl) (fun _ _ _ _ h => h)) (pa_cons (pv 0) (pa_cons (pv 3) (pa_cons (pe_op op_sub (pv 2) pe_int) pa_nil)))) (pg_tup rfl (pgs_cons (pg_name (i := 4) sc_read_delta.nd rfl (Or.inl rfl)) (pgs_cons (pg_name (i := 3) sc_read_delta.nd rfl (Or.inl rfl)) pgs_nil))))
      (pss_one (ps_ret (pe_tup (pa_cons (pe_op op_add (pe_op op_shl pe_int (pe_op op_sub (pv 2) pe_int)) (pv 4)) (pa_cons (pv 3) pa_nil)))))))), ?_⟩
    refine q_unpX (vs := [.ref l, .int (a : Int)]) (ea2 (ev_var rfl) (ev_var rfl)) fun H1 e1 => ⟨l, bs, a, rfl, ex_l e1 hs, hl, hb01, ha, ?_⟩
    unfold rdDelta at q
    cases hg : rdGamma bs a with
    | iw b =>
      rw [hg] at q
      exact ErrOut.mono e1 q
    | tr =>
      rw [hg] at q
      exact ErrOut.mono e1 q
    | ok c p =>
      rw [hg] at q
      simp only at q
      obtain ⟨c1, c2, p1, p2⟩ := gamma_val hb01 hg
      intro t H2 nt e2 ht
      refine g_two (st_of ht) ?_
      have e02 := e1.trans e2
      refine q_when (et_test (ev_op (ev_var (v := .int c) rfl) ev_c rv_I0)) (fun hb H3 e3 => ?_) (fun hb H3 e3 => ?_)
      · have hgt := of_decide_eq_true hb
        rw [if_pos (by omega)] at q
        exact s_mk (i := (a : Int)) G_InvalidWord.er (ev_var rfl) (by omega) (ErrOut.mono (e02.trans e3) q)
      · have hle := of_decide_eq_false hb
        rw [if_neg (by omega)] at q
        have e03 := e02.trans e3
        obtain ⟨n, hn⟩ : ∃ n : Nat, c = (n : Int) := ⟨c.toNat, by omega⟩
        subst hn
        have hn1 : (n : Int) - 1 = ((n - 1 : Nat) : Int) := by omega
        rw [Int.toNat_natCast] at q
        refine q_unpX (vs := [.ref l, .int (p : Int), .int ((n - 1 : Nat) : Int)]) (ea3 (ev_var rfl) (ev_var rfl) (ev_is (ev_sub (ev_var (v := .int (n : Int)) rfl) ev_c) (by rw [hn1]))) fun H4 e4 => ⟨l, bs, p, n - 1, rfl, ex_l (e03.trans e4) hs, by omega, ?_⟩
        have e04 := e03.trans e4
        cases hf : rdField bs p (n - 1) with
        | iw b =>
          unfold rdField at hf
          split at hf <;> cases hf
        | tr =>
          rw [hf] at q
          exact ErrOut.mono e04 q
        | ok r p2 =>
          rw [hf] at q
          intro t2 H5 nt2 e5 ht2
          refine g_two (st_of ht2) ?_
          refine s_ret2 (ev_is (ev_add (ev_op (ev_c (v := .int 1)) (ev_sub (ev_var (v := .int (n : Int)) rfl) ev_c) (rv_shl (by omega))) (ev_var (v := .int r) rfl)) ?_) (ev_var rfl) (RetT.mono (e04.trans e5) q)
          rw [hn1, Int.toNat_natCast, Int.one_mul]
theorem rice_lead {k : Nat} {bs : List Int} {a : Nat} : rdRice k bs a = match rdField bs (a + lead 1 (bs.drop a)) (k + 1) with
  | .ok low p => .ok ((lead 1 (bs.drop a) : Int) * 2 ^ k + low) p
  | e => e := rfl
def spRice (K : PySem.W.Frag) (CI CT : Addr) : Sp := fun vs H Q E => ∃ (l : Addr) (bs : List Int) (a k : Nat), vs = [.int (k : Int), .ref l, .int (a : Int)] ∧ SqL K H l (bs.map V.int) ∧ bs.length ≤ 10000 ∧ Bit01 bs ∧ a ≤ bs.length ∧ k ≤ 100 ∧ OutI CI CT bs.length (rdRice k bs a) H Q E
theorem ok_read_rice {f : Addr} {fd : FuncData} {k : Nat} (Fn : Fun K "read_rice" "read_rice" s_read_rice f fd) (B : Bs mg) (C_read_field : CalX P w K mg base "read_field" 4 ["bits", "at", "width"] (spReadField K CI CT)) :
    FnOk P w K mg base (L2.CX P w) (k + 5) f fd ["k", "bits", "at"] (spRice K CI CT) := by
  refine Fn.okX sc_read_rice (fun vs H Q E h => ?_) (fun cdv A outer s H vs Q E hr h => ?_)
  · obtain ⟨l, bs, a, k, rfl, _⟩ := h
    rfl
  · obtain ⟨l, bs, a, k, rfl, hs, hl, hb01, ha, hk, q⟩ := h
    refine ⟨_, (pss_cons (ps_set (i := 3) sc_read_rice.nd rfl (Or.inl rfl) (pv 2))
      (pss_cons (ps_while (passes_of rfl) (PW.pt (pw_and (pt_cmpR op_lt (pv 3) (pe_callB call_len_seq (by rfl) B.len PySem.boot_len (pa_cons (pv 1) pa_nil)) (nomark _)) (pw_and1 (pt_cmpR op_eq (pe_ix ix_list (pv 1) (pv 3) (fun _ _ => rfl)) pe_int (nomark _))))) (pss_one (ps_aug (i := 3) sc_read_rice.nd rfl (Or.inl rfl) pe_int ip_add)))
      (pss_cons (ps_set (i := 4) sc_read_rice.nd rfl (Or.inl rfl) (pe_op op_sub (pv 3) (pv 2)))
      (pss_cons (ps_asg (pe_callX C_read_field (hr.mono (by omega)) (by rfl) (passes_call (takes_of rfl rfl rfl rfl) (fun _ _ _ _ h => h)) (pa_cons (pv 1) (pa_cons (pv 3) (pa_cons (pe_op op_add (pv 0) pe_int) pa_nil)))) (pg_tup rfl (pgs_cons (pg_name (i := 5) sc_read_rice.nd rfl (Or.inl rfl)) (pgs_cons (pg_name (i := 3) sc_read_rice.nd rfl (Or.inl rfl)) pgs_nil))))
      (pss_one (ps_ret (pe_tup (pa_cons (pe_op op_add (pe_op op_shl (pv 4) (pv 0)) (pv 5)) (pa_cons (pv 3) pa_nil))))))))), ?_⟩
    refine q_asg (v := .int (a : Int)) (ev_var rfl) fun H1 e1 => ?_
    rw [rice_lead] at q
    have hzl := lead_le 1 (bs.drop a)
    rw [List.length_drop] at hzl
    have hat : ∀ i, i ≤ lead 1 (bs.drop a) → (a + i < bs.length → (bs.getD (a + i) 0 = 1 ↔ i < lead 1 (bs.drop a))) := fun i hi hlt => by
      have h1 := at_drop (a := a) (i := i) hlt
      constructor
      · intro e
        rw [e] at h1
        exact lead_lt hi h1
      · intro e
        have h2 := lead_at e
        rw [h1] at h2
        exact Option.some.inj h2
    generalize lead 1 (bs.drop a) = z at q hzl hat
    refine q_while (fun m σ' H' => ∃ i : Nat, m + i = z ∧ σ' = [some (.int (k : Int)), some (.ref l), some (.int (a : Int)), some (.int ((a + i : Nat) : Int)), none, none] ∧ Ex H H') z ⟨0, by omega, rfl, e1⟩ ?_
    rintro m σ' H' ⟨i, hm, rfl, ex⟩
    have hs2 := ex_l ex hs
    refine ⟨decide (i < z), et_is (et_and (a := decide (((a + i : Nat) : Int) < (bs.length : Int))) (b := decide (bs.getD (a + i) 0 = 1)) (et_test (ev_op (ev_var rfl) (ev_is (ev_len (K := K) (ev_var rfl) hs2) (by rw [List.length_map])) rv_I0)) fun hc => ?_) ?_, fun hb H2 e2 => ?_, fun hb H2 e2 => ?_⟩
    · exact et_test (ev_eq (ev_bit (ev_var rfl) (ev_var rfl) rfl hs2 (by have := of_decide_eq_true hc; omega)) ev_c)
    · by_cases h : a + i < bs.length
      · rw [decide_eq_true (show ((a + i : Nat) : Int) < (bs.length : Int) by omega), Bool.true_and]
        exact decide_eq_decide.mpr (hat i (by omega) h)
      · rw [decide_eq_false (show ¬ ((a + i : Nat) : Int) < (bs.length : Int) by omega), decide_eq_false (show ¬ i < z by omega)]
        rfl
    · have hlt := of_decide_eq_true hb
      refine ⟨fun σ2 H3 => ∃ j : Nat, (m - 1) + j = z ∧ σ2 = [some (.int (k : Int)), some (.ref l), some (.int (a : Int)), some (.int ((a + j : Nat) : Int)), none, none] ∧ Ex H H3, fun σ2 H3 h => ⟨m - 1, by omega, h⟩, ?_⟩
      refine s_aug (a := ((a + i : Nat) : Int)) (b := 1) rfl ev_c fun H3 e3 => ⟨i + 1, by omega, ?_, (ex.trans e2).trans e3⟩
      have : (((a + i : Nat) : Int) + 1) = ((a + (i + 1) : Nat) : Int) := by omega
      show [some (V.int (k : Int)), some (V.ref l), some (.int (a : Int)), some (.int (((a + i : Nat) : Int) + 1)), none, none] = _
      rw [this]
    · have hge := of_decide_eq_false hb
      have hzi : i = z := by omega
      subst hzi
      have e02 := ex.trans e2
      refine q_asg (v := .int (i : Int)) (ev_is (ev_sub (ev_var (v := .int ((a + i : Nat) : Int)) rfl) (ev_var (v := .int (a : Int)) rfl)) (by congr 1; omega)) fun H3 e3 => ?_
      have e03 := e02.trans e3
      refine q_unpX (vs := [.ref l, .int ((a + i : Nat) : Int), .int ((k + 1 : Nat) : Int)]) (ea3 (ev_var rfl) (ev_var rfl) (ev_is (ev_add (ev_var (v := .int (k : Int)) rfl) ev_c) (by rw [Int.natCast_add]; rfl))) fun H4 e4 => ⟨l, bs, a + i, k + 1, rfl, ex_l (e03.trans e4) hs, by omega, ?_⟩
      have e04 := e03.trans e4
      cases hf : rdField bs (a + i) (k + 1) with
      | iw b =>
        unfold rdField at hf
        split at hf <;> cases hf
      | tr =>
        rw [hf] at q
        exact ErrOut.mono e04 q
      | ok r p2 =>
        rw [hf] at q
        intro t2 H5 nt2 e5 ht2
        refine g_two (st_of ht2) ?_
        have hi9 : i ≤ 10000 := by omega
        have hi64 : ((i : Int)).natAbs < 2 ^ 64 := by omega
        refine s_ret2 (ev_is (ev_add (ev_op (ev_var (v := .int (i : Int)) rfl) (ev_var (v := .int (k : Int)) rfl) (rv_shl ⟨by omega, by omega, hi64⟩)) (ev_var (v := .int r) rfl)) (by rw [Int.toNat_natCast])) (ev_var rfl) (RetT.mono (e04.trans e5) q)
theorem ok_read_fibonacci {f fI : Addr} {fd fdI : FuncData} {k : Nat} (Fn : Fun K "read_fibonacci" "read_fibonacci" s_read_fibonacci f fd) (B : Bs mg) (G_Truncated : ErrG P w K mg base "Truncated" CT fI fdI) : FnOk P w K mg base (L2.CX P w) (k + 3) f fd ["bits", "at"] (spRead K CI CT rdFib) := by
  refine Fn.okX sc_read_fibonacci (fun vs H Q E h => ?_) (fun cdv A outer s H vs Q E hr h => ?_)
  · obtain ⟨l, bs, a, rfl, _⟩ := h
    rfl
  · obtain ⟨l, bs, a, rfl, hs, hl, hb01, ha, q⟩ := h
    refine ⟨_, (pss_cons (ps_set (i := 2) sc_read_fibonacci.nd rfl (Or.inl rfl) pe_int)
      (pss_cons (ps_asg (pe_tup (pa_cons pe_int (pa_cons pe_int pa_nil))) (pg_tup rfl (pgs_cons (pg_name (i := 3) sc_read_fibonacci.nd rfl (Or.inl rfl)) (pgs_cons (pg_name (i := 4) sc_read_fibonacci.nd rfl (Or.inl rfl)) pgs_nil))))
      (pss_cons (ps_set (i := 5) sc_read_fibonacci.nd rfl (Or.inl rfl) pe_int)
      (pss_cons (ps_set (i := 6) sc_read_fibonacci.nd rfl (Or.inl rfl) (pv 1))
      (pss_cons (ps_while (passes_of rfl) (pt_cmpR op_lt (pv 6) (pe_callB call_len_seq (by rfl) B.len PySem.boot_len (pa_cons (pv 0) pa_nil)) (nomark _)) (pss_cons (ps_set (i := 7) sc_read_fibonacci.nd rfl (Or.inl rfl) (pe_ix ix_list (pv 0) (pv 6) (fun _ _ => rfl)))
      (pss_cons (ps_aug (i := 6) sc_read_fibonacci.nd rfl (Or.inl rfl) pe_int ip_add)
      (pss_cons (ps_if (PW.pt (pw_and (pt_cmpR op_eq (pv 7) pe_int (nomark _)) (pw_and1 (pt_cmpR op_eq (pv 5) pe_int (nomark _))))) (pss_one (ps_ret (pe_tup (pa_cons (pv 2) (pa_cons (pv 6) pa_nil))))) pss_nil)
      (pss_cons (ps_aug (i := 2) sc_read_fibonacci.nd rfl (Or.inl rfl) (pe_op op_mul (pv 7) (pv 3)) ip_add)
      (pss_cons (ps_par2 (i := 3) (j := 4) rfl sc_read_fibonacci.nd rfl rfl (by decide) rfl rfl (pa_cons (pv 4) (pa_cons (pe_op op_add (pv 3) (pv 4)) pa_nil)) rfl)
      (pss_one (ps_set (i := 5) sc_read_fibonacci.nd rfl (Or.inl rfl) (pv 7)))))))))
      (pss_one (ps_raise rfl (takes_of rfl rfl rfl rfl) (pmk_oex G_Truncated.er.oc G_Truncated.iC G_Truncated.tI G_Truncated.ok (hr.mono (by omega)) G_Truncated.bd .nil pass0 (by rfl) G_Truncated.g (pa_cons (pe_callB call_len_seq (by rfl) B.len PySem.boot_len (pa_cons (pv 0) pa_nil)) pa_nil))))))))), ?_⟩
    unfold rdFib at q
    refine q_asg (v := .int 0) ev_c fun H1 e1 => ?_
    refine q_asg2 (x := .int 1) (y := .int 2) (ea2 ev_c ev_c) fun H2 e2 => ?_
    refine q_asg (v := .int 0) ev_c fun H3 e3 => ?_
    refine q_asg (v := .int (a : Int)) (ev_var rfl) fun H4 e4 => ?_
    have e04 := ((e1.trans e2).trans e3).trans e4
    refine q_while (fun m σ' H' => ∃ (i : Nat) (n t f p : Int) (x : Option V), m + i = bs.length ∧ a ≤ i ∧ fibGo (bs.drop a) 0 1 2 0 a = fibGo (bs.drop i) n t f p i ∧ σ' = [some (.ref l), some (.int (a : Int)), some (.int n), some (.int t), some (.int f), some (.int p), some (.int (i : Int)), x] ∧ Ex H H') (bs.length - a) ⟨a, 0, 1, 2, 0, none, by omega, Nat.le_refl _, rfl, rfl, e04⟩ ?_
    rintro m σ' H' ⟨i, n, t, f, p, x, hm, hai, hgo, rfl, ex⟩
    have hs2 := ex_l ex hs
    refine ⟨decide ((i : Int) < (bs.length : Int)), et_test (ev_op (ev_var rfl) (ev_is (ev_len (K := K) (ev_var rfl) hs2) (by rw [List.length_map])) rv_I0), fun hb H5 e5 => ?_, fun hb H5 e5 => ?_⟩
    · have hlt : i < bs.length := by have := of_decide_eq_true hb; omega
      rw [drop_cons hlt] at hgo
      refine ⟨fun σ2 H3 => ∃ (i2 : Nat) (n t f p : Int) (x : Option V), (m - 1) + i2 = bs.length ∧ a ≤ i2 ∧ fibGo (bs.drop a) 0 1 2 0 a = fibGo (bs.drop i2) n t f p i2 ∧ σ2 = [some (.ref l), some (.int (a : Int)), some (.int n), some (.int t), some (.int f), some (.int p), some (.int (i2 : Int)), x] ∧ Ex H H3, fun σ2 H3 h => ⟨m - 1, by omega, h⟩, ?_⟩
      have h01 := hb01.at_ i
      have e05 := ex.trans e5
      refine q_asg (v := .int (bs.getD i 0)) (ev_bit (ev_var rfl) (ev_var rfl) rfl (ex_l e05 hs) hlt) fun H6 e6 => ?_
      refine q_aug (a := (i : Int)) (b := 1) rfl ev_c fun H7 e7 => ?_
      have e07 := (e05.trans e6).trans e7
      generalize hbv : bs.getD i 0 = b at *
      have hi1 : (i : Int) + 1 = ((i + 1 : Nat) : Int) := by omega
      refine q_when (b := decide (b = 1) && decide (p = 1)) (et_and (et_test (ev_eq (ev_var (v := .int b) rfl) ev_c)) fun _ => et_test (ev_eq (ev_var (v := .int p) rfl) ev_c)) (fun hb2 H8 e8 => ?_) (fun hb2 H8 e8 => ?_)
      · rw [Bool.and_eq_true, decide_eq_true_eq, decide_eq_true_eq] at hb2
        have hgo2 : fibGo (bs.drop a) 0 1 2 0 a = .ok n (i + 1) := by
          rw [hgo]
          show (if b = 1 ∧ p = 1 then RI.ok n (i + 1) else _) = _
          rw [if_pos hb2]
        rw [hgo2] at q
        exact s_ret2 (ev_var rfl) (ev_is (ev_var rfl) (by rw [hi1])) (RetT.mono (e07.trans e8) q)
      · have hno : ¬ (b = 1 ∧ p = 1) := by
          intro z
          rw [decide_eq_true z.1, decide_eq_true z.2] at hb2
          cases hb2
        refine q_aug (a := n) (b := b * t) rfl (ev_op (ev_var (v := .int b) rfl) (ev_var (v := .int t) rfl) (rv_mul (by omega))) fun H9 e9 => ?_
        refine q_par2 (x := .int f) (y := .int (t + f)) (ea2 (ev_var rfl) (ev_add (ev_var rfl) (ev_var rfl))) fun H10 e10 => ?_
        refine s_asg (v := .int b) (ev_var rfl) fun H11 e11 => ⟨i + 1, n + b * t, f, t + f, b, some (.int b), by omega, by omega, ?_, ?_, (((e07.trans e8).trans e9).trans e10).trans e11⟩
        · rw [hgo]
          show (if b = 1 ∧ p = 1 then RI.ok n (i + 1) else _) = _
          rw [if_neg hno]
        · show [some (V.ref l), some (.int (a : Int)), some (.int (n + b * t)), some (.int f), some (.int (t + f)), some (.int b), some (.int ((i : Int) + 1)), some (.int b)] = _
          rw [hi1]
    · have hge : bs.length ≤ i := by have := of_decide_eq_false hb; omega
      rw [hgo, drop_nil hge] at q
      exact s_mk (i := (bs.length : Int)) G_Truncated.er (ev_is (ev_len (K := K) (ev_var rfl) (ex_l e5 hs2)) (by rw [List.length_map])) (by omega) (ErrOut.mono (ex.trans e5) q)
end
end K14
set_option Elab.async false
set_option linter.all false
set_option maxRecDepth 100000
set_option maxHeartbeats 4000000
namespace K14
open PySem PySem.Spec PyProof.Rows L2 StX GX KC Evl KX KQ M15
section
variable {P : Program} {w : World} {K : PySem.W.Frag} {mg : Str → Option Value} {base : Heap} {σ : L2.St} {H H' : Hp} {CI CT : Addr} {D : Ends}
theorem len_is {te : TE} {l : Addr} {bs : List Int} (h : Ev te σ H (.ref l)) (hs : SqL K H l (bs.map V.int)) : Ev (tCB (Evl.rLenS K) (tCons te tNil)) σ H (.int (bs.length : Int)) := ev_is (ev_len h hs) (by rw [List.length_map])
def spCell (K : PySem.W.Frag) : Sp := fun vs H Q _ => ∃ (l : Addr) (ns : List Int) (j : Nat), vs = [.ref l, .int (j : Int)] ∧ SqL K H l (ns.map V.int) ∧ RetV (.int (ns.getD j 0)) H Q
theorem ok_cell {f : Addr} {fd : FuncData} {k : Nat} (F : Fun K "_law_cell" "_law_cell" s_law_cell f fd) (B : Bs mg) : FnOk P w K mg base CX0 (k + 1) f fd ["script", "k"] (spCell K) := by
  refine F.ok sc_law_cell (fun vs H Q E h => ?_) (fun cdv A outer s H vs Q E hr h => ?_)
  · obtain ⟨l, ns, j, rfl, _⟩ := h
    rfl
  · obtain ⟨l, ns, j, rfl, hs, q⟩ := h
    refine ⟨_, (pss_cons (ps_if (pt_cmpR op_lt (pv 1) (pe_callB call_len_seq (by rfl) B.len PySem.boot_len (pa_cons (pv 0) pa_nil)) (nomark _)) (pss_one (ps_ret (pe_callTy call_int1 (by rfl) B.int (by decide +kernel) (pa_cons (pe_ix ix_list (pv 0) (pv 1) (fun _ _ => rfl)) pa_nil)))) pss_nil)
      (pss_one (ps_ret pe_int))), ?_⟩
    refine q_when (et_test (ev_op (ev_var rfl) (len_is (ev_var rfl) hs) rv_I0)) (fun hb H1 e1 => ?_) (fun hb H1 e1 => ?_)
    · have hlt : j < ns.length := by have := of_decide_eq_true hb; omega
      exact s_ret (ev_cb (ea1 (ev_op (ev_var (v := .ref l) rfl) (ev_var (v := .int (j : Int)) rfl) (rv_ixL (ex_l e1 hs) (atI_at rfl hlt)))) rc_int) fun H2 e2 => q H2 (e1.trans e2)
    · have hge : ns.length ≤ j := by have := of_decide_eq_false hb; omega
      refine s_ret (v := .int (ns.getD j 0)) (ev_is ev_c ?_) fun H2 e2 => q H2 (e1.trans e2)
      rw [List.getD_eq_getElem?_getD, List.getElem?_eq_none hge]
      rfl
theorem spv_cell {l : Addr} {ns : List Int} {z : Int} {j : Nat} (hs : SqL K H l (ns.map V.int)) (e : z = (j : Int)) : SpV (spCell K) ([.ref l, .int z] ++ []) H (.int (ns.getD j 0)) := fun H1 e1 Q q E => ⟨l, ns, j, by rw [e]; rfl, ex_l e1 hs, q⟩
end
end K14
set_option linter.all false
/-! The mathematics of ranks, rests and choices: plain lists. -/
namespace M03
def wAt (ws : List Int) (k : Nat) : Int := ws.getD k 0
/-- k comes before j -/
def Rk (ws : List Int) (k j : Nat) : Prop := wAt ws j < wAt ws k ∨ (wAt ws k = wAt ws j ∧ k < j)
structure IsRank (ws : List Int) (ord : List Nat) : Prop where
  pw : ord.Pairwise (Rk ws)
  mem : ∀ k, k ∈ ord ↔ k < ws.length
theorem Rk.irrefl {ws : List Int} {k : Nat} (h : Rk ws k k) : False := by
  unfold Rk at h; omega
theorem Rk.asymm {ws : List Int} {k j : Nat} (h : Rk ws k j) (h2 : Rk ws j k) : False := by
  unfold Rk at h h2; omega
theorem Rk.trans {ws : List Int} {k j i : Nat} (h : Rk ws k j) (h2 : Rk ws j i) : Rk ws k i := by
  unfold Rk at *; omega
theorem Rk.total {ws : List Int} {k j : Nat} (h : k ≠ j) : Rk ws k j ∨ Rk ws j k := by
  unfold Rk; omega
theorem uniq (ws : List Int) : ∀ (a b : List Nat), a.Pairwise (Rk ws) → b.Pairwise (Rk ws) → (∀ k, k ∈ a ↔ k ∈ b) → a = b
  | [], [], _, _, _ => rfl
  | [], y :: b, _, _, h => absurd ((h y).mpr List.mem_cons_self) (by simp)
  | x :: a, [], _, _, h => absurd ((h x).mp List.mem_cons_self) (by simp)
  | x :: a, y :: b, ha, hb, h => by
    have ha' := List.pairwise_cons.mp ha
    have hb' := List.pairwise_cons.mp hb
    have e : x = y := by
      rcases List.mem_cons.mp ((h x).mp List.mem_cons_self) with e | e
      · exact e
      · rcases List.mem_cons.mp ((h y).mpr List.mem_cons_self) with e2 | e2
        · exact e2.symm
        · exact (Rk.asymm (hb'.1 x e) (ha'.1 y e2)).elim
    subst e
    rw [uniq ws a b ha'.2 hb'.2 fun k => ?_]
    constructor
    · intro hk
      rcases List.mem_cons.mp ((h k).mp (List.mem_cons_of_mem _ hk)) with e | e
      · subst e; exact (Rk.irrefl (ha'.1 _ hk)).elim
      · exact e
    · intro hk
      rcases List.mem_cons.mp ((h k).mpr (List.mem_cons_of_mem _ hk)) with e | e
      · subst e; exact (Rk.irrefl (hb'.1 _ hk)).elim
      · exact e
theorem IsRank.uniq {ws : List Int} {a b : List Nat} (ha : IsRank ws a) (hb : IsRank ws b) : a = b := M03.uniq ws a b ha.pw hb.pw fun k => (ha.mem k).trans (hb.mem k).symm
def leK (ws : List Int) (k j : Nat) : Bool := decide (wAt ws j < wAt ws k ∨ (wAt ws k = wAt ws j ∧ k ≤ j))
def rankL (ws : List Int) : List Nat := (List.range ws.length).mergeSort (leK ws)
theorem rank_perm (ws : List Int) : (rankL ws).Perm (List.range ws.length) := List.mergeSort_perm _ _
theorem rank_is (ws : List Int) : IsRank ws (rankL ws) := by
  refine ⟨?_, fun k => ?_⟩
  · have h1 : (rankL ws).Pairwise fun a b => leK ws a b = true := List.pairwise_mergeSort (fun a b c => by unfold leK; simp only [decide_eq_true_eq]; omega) (fun a b => by unfold leK; simp only [Bool.or_eq_true, decide_eq_true_eq]; omega) _
    have h2 : (rankL ws).Nodup := (rank_perm ws).nodup_iff.mpr List.nodup_range
    have h3 := h1.and h2
    refine h3.imp fun {a b} h => ?_
    obtain ⟨h4, h5⟩ := h
    unfold leK at h4
    unfold Rk
    have h6 := of_decide_eq_true h4
    have h7 : a ≠ b := h5
    omega
  · rw [(rank_perm ws).mem_iff, List.mem_range]
theorem rank_len (ws : List Int) : (rankL ws).length = ws.length := by rw [(rank_perm ws).length_eq, List.length_range]
theorem rank_lt {ws : List Int} {k : Nat} (h : k ∈ rankL ws) : k < ws.length := ((rank_is ws).mem k).mp h
/-- choosing the best of the rest again and again -/
structure Part (ws : List Int) (ord : List Nat) : Prop where
  pw : ord.Pairwise (Rk ws)
  lt : ∀ k ∈ ord, k < ws.length
  before : ∀ k ∈ ord, ∀ j, j < ws.length → j ∉ ord → Rk ws k j
theorem Part.nil (ws : List Int) : Part ws [] := ⟨.nil, by simp, by simp⟩
/-- b: the best among the first i that ord has not -/
def Best (ws : List Int) (ord : List Nat) (i : Nat) : Option Nat → Prop
  | none => ∀ j, j < i → j ∈ ord
  | some b => b < i ∧ b ∉ ord ∧ ∀ j, j < i → j ∉ ord → j ≠ b → Rk ws b j
theorem Part.add {ws : List Int} {ord : List Nat} {b : Nat} (p : Part ws ord) (h : Best ws ord ws.length (some b)) : Part ws (ord ++ [b]) := by
  obtain ⟨h1, h2, h3⟩ := h
  refine ⟨List.pairwise_append.mpr ⟨p.pw, List.pairwise_singleton _ _, fun a ha c hc => ?_⟩, fun k hk => ?_, fun k hk j hj hn => ?_⟩
  · rw [List.mem_singleton.mp hc]
    exact p.before a ha b h1 h2
  · rcases List.mem_append.mp hk with h | h
    · exact p.lt k h
    · rw [List.mem_singleton.mp h]; exact h1
  · have hn1 : j ∉ ord := fun z => hn (List.mem_append_left _ z)
    have hn2 : j ≠ b := fun z => hn (by rw [z]; exact List.mem_append_right _ (List.mem_singleton.mpr rfl))
    rcases List.mem_append.mp hk with h | h
    · exact p.before k h j hj hn1
    · rw [List.mem_singleton.mp h]
      exact h3 j hj hn1 hn2
theorem nodup_sub : ∀ (l m : List Nat), l.Nodup → (∀ x ∈ l, x ∈ m) → l.length ≤ m.length
  | [], _, _, _ => Nat.zero_le _
  | x :: l, m, h, hs => by
    have h' := List.nodup_cons.mp h
    have hx := hs x List.mem_cons_self
    have h1 := nodup_sub l (m.erase x) h'.2 fun y hy => (List.mem_erase_of_ne (fun e => h'.1 (by rw [← e]; exact hy))).mpr (hs y (List.mem_cons_of_mem _ hy))
    rw [List.length_erase_of_mem hx] at h1
    have h2 := List.length_pos_of_mem hx
    simp only [List.length_cons]
    omega
theorem nodup_le {ord : List Nat} {n : Nat} (h : ord.Nodup) (hl : ∀ k ∈ ord, k < n) : ord.length ≤ n := by
  have h2 := nodup_sub ord (List.range n) h fun k hk => List.mem_range.mpr (hl k hk)
  rwa [List.length_range] at h2
theorem Part.nodup {ws : List Int} {ord : List Nat} (p : Part ws ord) : ord.Nodup := p.pw.imp fun {a b} h e => by subst e; exact h.irrefl
/-- a best one is there while ord is not whole -/
theorem Part.some {ws : List Int} {ord : List Nat} (p : Part ws ord) (h : ord.length < ws.length) {o : Option Nat} (hb : Best ws ord ws.length o) : ∃ b, o = .some b := by
  cases o with
  | some b => exact ⟨b, rfl⟩
  | none =>
    have h2 := nodup_sub (List.range ws.length) ord List.nodup_range fun k hk => hb k (List.mem_range.mp hk)
    rw [List.length_range] at h2
    omega
theorem Part.whole {ws : List Int} {ord : List Nat} (p : Part ws ord) (h : ord.length = ws.length) : ord = rankL ws := by
  refine IsRank.uniq ⟨p.pw, fun k => ⟨p.lt k, fun hk => ?_⟩⟩ (rank_is ws)
  by_cases hm : k ∈ ord
  · exact hm
  · exfalso
    have h2 : (k :: ord).Nodup := List.nodup_cons.mpr ⟨hm, p.nodup⟩
    have h3 := nodup_le h2 (n := ws.length) fun j hj => by
      rcases List.mem_cons.mp hj with e | e
      · rw [e]; exact hk
      · exact p.lt j e
    simp only [List.length_cons] at h3
    omega
theorem Best.zero (ws : List Int) (ord : List Nat) : Best ws ord 0 none := fun j h => absurd h (Nat.not_lt_zero j)
theorem Best.skip {ws : List Int} {ord : List Nat} {i : Nat} {o : Option Nat} (h : Best ws ord i o) (hi : i ∈ ord) : Best ws ord (i + 1) o := by
  cases o with
  | none =>
    intro j hj
    by_cases e : j = i
    · rw [e]; exact hi
    · exact h j (by omega)
  | some b =>
    obtain ⟨h1, h2, h3⟩ := h
    refine ⟨by omega, h2, fun j hj hn hb => ?_⟩
    by_cases e : j = i
    · rw [e] at hn; exact absurd hi hn
    · exact h3 j (by omega) hn hb
theorem Best.first {ws : List Int} {ord : List Nat} {i : Nat} (h : Best ws ord i none) (hi : i ∉ ord) : Best ws ord (i + 1) (some i) := by
  refine ⟨by omega, hi, fun j hj hn hb => ?_⟩
  exact absurd (h j (by omega)) hn
theorem Best.take {ws : List Int} {ord : List Nat} {i b : Nat} (h : Best ws ord i (some b)) (hi : i ∉ ord) (hw : wAt ws b < wAt ws i) : Best ws ord (i + 1) (some i) := by
  obtain ⟨h1, h2, h3⟩ := h
  refine ⟨by omega, hi, fun j hj hn hb => ?_⟩
  by_cases e : j = b
  · rw [e]; exact .inl hw
  · have := h3 j (by omega) hn e
    exact Rk.trans (.inl hw) this
theorem Best.keep {ws : List Int} {ord : List Nat} {i b : Nat} (h : Best ws ord i (some b)) (hw : ¬ wAt ws b < wAt ws i) : Best ws ord (i + 1) (some b) := by
  obtain ⟨h1, h2, h3⟩ := h
  refine ⟨by omega, h2, fun j hj hn hb => ?_⟩
  by_cases e : j = i
  · rw [e]; unfold Rk; omega
  · exact h3 j (by omega) hn hb

/-! ### rests -/
def restL : List Int → List Int
  | [] => [0]
  | v :: r => (v + (restL r).headD 0) :: restL r
theorem restL_len : ∀ vs : List Int, (restL vs).length = vs.length + 1
  | [] => rfl
  | v :: r => by simp [restL, restL_len r]
def ranked (ws : List Int) : List Int := (rankL ws).map (wAt ws)
theorem ranked_len (ws : List Int) : (ranked ws).length = ws.length := by simp [ranked, rank_len]
theorem ranked_perm (ws : List Int) : (ranked ws).Perm ws := by
  have h := (rank_perm ws).map (wAt ws)
  have e : (List.range ws.length).map (wAt ws) = ws := by
    refine List.ext_getElem (by simp) fun i h1 h2 => ?_
    simp [wAt, List.getD_eq_getElem?_getD, h2]
  rw [e] at h
  exact h
theorem ranked_desc (ws : List Int) : (ranked ws).Pairwise (fun a b => b ≤ a) := by
  unfold ranked
  refine List.pairwise_map.mpr ((rank_is ws).pw.imp fun {a b} h => ?_)
  unfold Rk at h
  omega
theorem sorted_uniq : ∀ (a b : List Int), a.Pairwise (· ≤ ·) → b.Pairwise (· ≤ ·) → a.Perm b → a = b
  | [], b, _, _, h => (List.Perm.nil_eq h)
  | x :: a, [], _, _, h => absurd h.length_eq (by simp)
  | x :: a, y :: b, ha, hb, h => by
    have ha' := List.pairwise_cons.mp ha
    have hb' := List.pairwise_cons.mp hb
    have e : x = y := by
      have h1 : x ≤ y := by
        rcases List.mem_cons.mp (h.mem_iff.mpr (List.mem_cons_self (a := y) (l := b))) with e | e
        · omega
        · exact ha'.1 y e
      have h2 : y ≤ x := by
        rcases List.mem_cons.mp (h.mem_iff.mp (List.mem_cons_self (a := x) (l := a))) with e | e
        · omega
        · exact hb'.1 x e
      omega
    subst e
    rw [sorted_uniq a b ha'.2 hb'.2 h.cons_inv]
theorem asc_is {ws asc : List Int} (h : asc.Perm ws) (hs : asc.Pairwise (· ≤ ·)) : asc = (ranked ws).reverse := by
  refine sorted_uniq _ _ hs (List.pairwise_reverse.mpr (ranked_desc ws)) ?_
  exact h.trans ((ranked_perm ws).symm.trans (List.reverse_perm _).symm)
/-- sums of the beginnings -/
def pre : List Int → List Int
  | [] => [0]
  | v :: r => 0 :: (pre r).map (v + ·)
def sumsA : List Int → List Int → List Int := fun acc vs => vs.foldl (fun acc v => acc ++ [acc.getLastD 0 + v]) acc
theorem restL_snoc : ∀ (vs : List Int), ∀ l, l = vs.reverse → ∀ v, restL (v :: vs) = (v + (restL vs).headD 0) :: restL vs := fun _ _ _ _ => rfl
/-! ### the choices -/
abbrev Nxt := Option (Int × Int × Int)
def chOne (sums : List Int) (limit depth m k : Int) (a : Nat) : Option (Int × Int × Nxt) :=
  let n : Int := (sums.length : Int) - 1
  let ok : Bool := if depth = limit then decide ((a : Int) = n - m) else (decide (0 < depth) || decide ((a : Int) = 0))
  if ok && decide (m + a = n) then some (a, 0, none)
  else if ok && decide ((a : Int) < k) then some (a, sums.getD (m + a).toNat 0, some (depth + 1, m + a, if n - m - a < 2 * (k - a) then n - m - a else 2 * (k - a)))
  else none
def chN (sums : List Int) (m k : Int) : Nat := ((if (sums.length : Int) - 1 - m < k then (sums.length : Int) - 1 - m else k) + 1).toNat
def chL (sums : List Int) (limit depth m k : Int) : List (Int × Int × Nxt) := (List.range (chN sums m k)).filterMap (chOne sums limit depth m k)
end M03
set_option linter.all false
/-! The mathematics of prefix codes: lengths, room, canonical words. -/
namespace M01
def lnA (ls : List Int) (k : Nat) : Nat := (ls.getD k 0).toNat
/-- lengths from 0 to 20 -/
def Lok (ls : List Int) : Prop := ∀ x ∈ ls, 0 ≤ x ∧ x ≤ 20
def share (x : Int) : Int := if x = 0 then 0 else (2 : Int) ^ (20 - x.toNat)
def kraft (ls : List Int) : Int := (ls.map share).sum
def roomL (ls : List Int) : Int := 1048576 - kraft ls
theorem kraft_app (a b : List Int) : kraft (a ++ b) = kraft a + kraft b := by
  unfold kraft
  rw [List.map_append, List.sum_append]
theorem pow_nn (n : Nat) : (0 : Int) ≤ 2 ^ n := Int.le_of_lt (Int.pow_pos (by decide))
theorem share_nn (x : Int) : 0 ≤ share x := by
  unfold share
  split
  · exact Int.le_refl _
  · exact pow_nn _
theorem pow20 : ∀ l : Nat, l ≤ 20 → (1048576 : Int) / (1 * 2 ^ l) = 2 ^ (20 - l) := fun l h => by
  have : ∀ l : Fin 21, (1048576 : Int) / (1 * 2 ^ l.val) = 2 ^ (20 - l.val) := by decide
  exact this ⟨l, by omega⟩
theorem share_bd (x : Int) : share x ≤ 1048576 := by
  unfold share
  split
  · decide
  · have : ∀ y : Fin 21, (2 : Int) ^ y.val ≤ 1048576 := by decide
    exact this ⟨20 - x.toNat, by omega⟩
theorem kraft_zero : ∀ ls : List Int, (∀ x ∈ ls, x = 0) → kraft ls = 0
  | [], _ => rfl
  | x :: r, h => by
    have h1 := kraft_zero r fun y hy => h y (List.mem_cons_of_mem _ hy)
    have h2 := h x List.mem_cons_self
    subst h2
    show share 0 + kraft r = 0
    rw [h1]
    rfl
/-! ### the order: by length, then by symbol -/
def Lx (ls : List Int) (k j : Nat) : Prop := lnA ls k < lnA ls j ∨ (lnA ls k = lnA ls j ∧ k < j)
theorem Lx.irrefl {ls : List Int} {k : Nat} (h : Lx ls k k) : False := by
  unfold Lx at h; omega
theorem Lx.asymm {ls : List Int} {k j : Nat} (h : Lx ls k j) (h2 : Lx ls j k) : False := by
  unfold Lx at h h2; omega
theorem uniq (ls : List Int) : ∀ (a b : List Nat), a.Pairwise (Lx ls) → b.Pairwise (Lx ls) → (∀ k, k ∈ a ↔ k ∈ b) → a = b
  | [], [], _, _, _ => rfl
  | [], y :: b, _, _, h => absurd ((h y).mpr List.mem_cons_self) (by simp)
  | x :: a, [], _, _, h => absurd ((h x).mp List.mem_cons_self) (by simp)
  | x :: a, y :: b, ha, hb, h => by
    have ha' := List.pairwise_cons.mp ha
    have hb' := List.pairwise_cons.mp hb
    have e : x = y := by
      rcases List.mem_cons.mp ((h x).mp List.mem_cons_self) with e | e
      · exact e
      · rcases List.mem_cons.mp ((h y).mpr List.mem_cons_self) with e2 | e2
        · exact e2.symm
        · exact (Lx.asymm (hb'.1 x e) (ha'.1 y e2)).elim
    subst e
    rw [uniq ls a b ha'.2 hb'.2 fun k => ?_]
    constructor
    · intro hk
      rcases List.mem_cons.mp ((h k).mp (List.mem_cons_of_mem _ hk)) with e | e
      · subst e; exact (Lx.irrefl (ha'.1 _ hk)).elim
      · exact e
    · intro hk
      rcases List.mem_cons.mp ((h k).mpr (List.mem_cons_of_mem _ hk)) with e | e
      · subst e; exact (Lx.irrefl (hb'.1 _ hk)).elim
      · exact e
structure IsOrd (ls : List Int) (o : List Nat) : Prop where
  pw : o.Pairwise (Lx ls)
  mem : ∀ k, k ∈ o ↔ k < ls.length ∧ 0 < lnA ls k
/-- the order as far as (L, k) -/
structure Proc (ls : List Int) (L k : Nat) (o : List Nat) : Prop where
  pw : o.Pairwise (Lx ls)
  mem : ∀ s, s ∈ o ↔ s < ls.length ∧ 0 < lnA ls s ∧ (lnA ls s < L ∨ (lnA ls s = L ∧ s < k))
theorem Proc.zero (ls : List Int) : Proc ls 1 0 [] := ⟨.nil, fun s => by simp; omega⟩
theorem Proc.skip {ls : List Int} {L k : Nat} {o : List Nat} (h : Proc ls L k o) (e : lnA ls k ≠ L) : Proc ls L (k + 1) o := ⟨h.pw, fun s => by
  rw [h.mem]
  constructor
  · rintro ⟨a, b, c⟩
    exact ⟨a, b, by omega⟩
  · rintro ⟨a, b, c⟩
    refine ⟨a, b, ?_⟩
    rcases c with c | ⟨c, d⟩
    · exact .inl c
    · by_cases z : s = k
      · subst z; exact absurd c e
      · exact .inr ⟨c, by omega⟩⟩
theorem Proc.add {ls : List Int} {L k : Nat} {o : List Nat} (h : Proc ls L k o) (e : lnA ls k = L) (hL : 0 < L) (hk : k < ls.length) : Proc ls L (k + 1) (o ++ [k]) ∧ k ∉ o := by
  have hn : k ∉ o := fun z => by have := (h.mem k).mp z; omega
  refine ⟨⟨List.pairwise_append.mpr ⟨h.pw, List.pairwise_singleton _ _, fun a ha b hb => ?_⟩, fun s => ?_⟩, hn⟩
  · rw [List.mem_singleton.mp hb]
    have := (h.mem a).mp ha
    unfold Lx
    omega
  · rw [List.mem_append, h.mem, List.mem_singleton]
    constructor
    · rintro (⟨a, b, c⟩ | rfl)
      · exact ⟨a, b, by omega⟩
      · exact ⟨hk, by omega, by omega⟩
    · rintro ⟨a, b, c⟩
      by_cases z : s = k
      · exact .inr z
      · exact .inl ⟨a, b, by omega⟩
theorem Proc.next {ls : List Int} {L : Nat} {o : List Nat} (h : Proc ls L ls.length o) : Proc ls (L + 1) 0 o := ⟨h.pw, fun s => by
  rw [h.mem]
  constructor
  · rintro ⟨a, b, c⟩
    exact ⟨a, b, by omega⟩
  · rintro ⟨a, b, c⟩
    exact ⟨a, b, by omega⟩⟩
theorem ln_le {ls : List Int} (h : Lok ls) (k : Nat) : lnA ls k ≤ 20 := by
  unfold lnA
  by_cases hk : k < ls.length
  · have := h _ (List.getElem_mem hk)
    rw [List.getD_eq_getElem?_getD, List.getElem?_eq_getElem hk]
    show (ls[k]).toNat ≤ 20
    omega
  · rw [List.getD_eq_getElem?_getD, List.getElem?_eq_none (by omega)]
    decide
theorem Proc.whole {ls : List Int} {o : List Nat} (hl : Lok ls) (h : Proc ls 21 0 o) : IsOrd ls o := ⟨h.pw, fun s => by
  rw [h.mem]
  have := ln_le hl s
  constructor
  · rintro ⟨a, b, c⟩
    exact ⟨a, b⟩
  · rintro ⟨a, b⟩
    exact ⟨a, b, by omega⟩⟩
theorem IsOrd.uniq {ls : List Int} {a b : List Nat} (ha : IsOrd ls a) (hb : IsOrd ls b) : a = b := M01.uniq ls a b ha.pw hb.pw fun k => (ha.mem k).trans (hb.mem k).symm
/-! ### words -/
def bitsL (x l : Nat) : List Int := (List.range l).map fun j => ((x / 2 ^ (l - 1 - j) % 2 : Nat) : Int)
theorem bits_len (x l : Nat) : (bitsL x l).length = l := by simp [bitsL]
def xs (ls : List Int) (o : List Nat) : Nat := (o.map fun s => 2 ^ (20 - lnA ls s)).sum
theorem xs_snoc (ls : List Int) (o : List Nat) (s : Nat) : xs ls (o ++ [s]) = xs ls o + 2 ^ (20 - lnA ls s) := by
  unfold xs
  rw [List.map_append, List.sum_append]
  simp
def wd (ls : List Int) (o : List Nat) (s : Nat) : List Int := bitsL (xs ls o / 2 ^ (20 - lnA ls s)) (lnA ls s)
def upTo (o : List Nat) (k : Nat) : List Nat := o.takeWhile fun x => decide (x ≠ k)
theorem upTo_app {o : List Nat} {k s : Nat} (h : k ∈ o) : upTo (o ++ [s]) k = upTo o k := by
  unfold upTo
  induction o with
  | nil => simp at h
  | cons x r ih =>
    by_cases e : x = k
    · subst e
      simp
    · have h' : k ∈ r := by
        rcases List.mem_cons.mp h with z | z
        · exact absurd z.symm e
        · exact z
      simp only [List.cons_append]
      rw [List.takeWhile_cons_of_pos (by simpa using e), List.takeWhile_cons_of_pos (by simpa using e), ih h']
theorem upTo_new {o : List Nat} {s : Nat} (h : s ∉ o) : upTo (o ++ [s]) s = o := by
  unfold upTo
  induction o with
  | nil => simp
  | cons x r ih =>
    have hx : x ≠ s := fun z => h (by rw [z]; exact List.mem_cons_self)
    simp only [List.cons_append]
    rw [List.takeWhile_cons_of_pos (by simpa using hx), ih fun z => h (List.mem_cons_of_mem _ z)]
def ent (ls : List Int) (o : List Nat) (k : Nat) : Option (List Int) := if k ∈ o then some (wd ls (upTo o k) k) else none
def tabOf (ls : List Int) (o : List Nat) : List (Option (List Int)) := (List.range ls.length).map (ent ls o)
theorem tab_len (ls : List Int) (o : List Nat) : (tabOf ls o).length = ls.length := by simp [tabOf]
theorem tab_at {ls : List Int} {o : List Nat} {k : Nat} (h : k < ls.length) : (tabOf ls o)[k]? = some (ent ls o k) := by
  unfold tabOf
  rw [List.getElem?_map, List.getElem?_range h]
  rfl
theorem tab_nil (ls : List Int) : tabOf ls [] = List.replicate ls.length none := by
  refine List.ext_getElem? fun k => ?_
  by_cases h : k < ls.length
  · rw [tab_at h, List.getElem?_replicate, if_pos h]
    rfl
  · rw [List.getElem?_eq_none (by rw [tab_len]; omega), List.getElem?_eq_none (by rw [List.length_replicate]; omega)]
theorem ent_add {ls : List Int} {o : List Nat} {s k : Nat} (hs : s ∉ o) : ent ls (o ++ [s]) k = if k = s then some (wd ls o s) else ent ls o k := by
  unfold ent
  by_cases e : k = s
  · subst e
    rw [if_pos (List.mem_append_right _ (List.mem_singleton.mpr rfl)), if_pos rfl, upTo_new hs]
  · rw [if_neg e]
    by_cases h : k ∈ o
    · rw [if_pos (List.mem_append_left _ h), if_pos h, upTo_app h]
    · rw [if_neg fun z => ?_, if_neg h]
      rcases List.mem_append.mp z with z | z
      · exact h z
      · exact e (List.mem_singleton.mp z)
/-! ### no word begins another one -/
theorem nodup_sum (f : Nat → Nat) : ∀ (l m : List Nat), l.Nodup → (∀ x ∈ l, x ∈ m) → (l.map f).sum ≤ (m.map f).sum
  | [], _, _, _ => Nat.zero_le _
  | x :: l, m, h, hs => by
    have h' := List.nodup_cons.mp h
    have hx := hs x List.mem_cons_self
    have h1 := nodup_sum f l (m.erase x) h'.2 fun y hy => (List.mem_erase_of_ne (fun e => h'.1 (by rw [← e]; exact hy))).mpr (hs y (List.mem_cons_of_mem _ hy))
    have h2 := ((List.perm_cons_erase hx).map f).sum_nat
    rw [h2]
    simp only [List.map_cons, List.sum_cons]
    omega
theorem IsOrd.nodup {ls : List Int} {o : List Nat} (h : IsOrd ls o) : o.Nodup := h.pw.imp fun {a b} h e => by subst e; exact h.irrefl
theorem kraft_sum : ∀ ls : List Int, (∀ x ∈ ls, 0 ≤ x) → (((List.range ls.length).map fun k => if lnA ls k = 0 then 0 else 2 ^ (20 - lnA ls k)).sum : Nat) = kraft ls
  | [], _ => rfl
  | x :: r, h => by
    have ih := kraft_sum r fun y hy => h y (List.mem_cons_of_mem _ hy)
    have hx := h x List.mem_cons_self
    rw [List.length_cons, List.range_succ_eq_map, List.map_cons, List.map_map, List.sum_cons]
    have e : (fun k => if lnA (x :: r) k = 0 then 0 else 2 ^ (20 - lnA (x :: r) k)) ∘ Nat.succ = fun k => if lnA r k = 0 then 0 else 2 ^ (20 - lnA r k) := by
      funext k
      rfl
    rw [e, Int.natCast_add, ih]
    show _ = share x + kraft r
    congr 1
    show (((if x.toNat = 0 then 0 else 2 ^ (20 - x.toNat)) : Nat) : Int) = share x
    unfold share
    by_cases z : x = 0
    · subst z; rfl
    · rw [if_neg (by omega), if_neg z]
      simp
theorem xs_le {ls : List Int} {o : List Nat} (hl : Lok ls) (h : IsOrd ls o) : (xs ls o : Int) ≤ kraft ls := by
  rw [← kraft_sum ls fun x hx => (hl x hx).1]
  have h1 := nodup_sum (fun k => if lnA ls k = 0 then 0 else 2 ^ (20 - lnA ls k)) o (List.range ls.length) h.nodup fun x hx => List.mem_range.mpr ((h.mem x).mp hx).1
  have h2 : (o.map fun k => if lnA ls k = 0 then 0 else 2 ^ (20 - lnA ls k)) = o.map fun s => 2 ^ (20 - lnA ls s) := by
    refine List.map_congr_left fun k hk => ?_
    have := ((h.mem k).mp hk).2
    rw [if_neg (by omega)]
  rw [h2] at h1
  unfold xs
  exact_mod_cast h1
theorem bits_mod (x y : Nat) : ∀ l, (∀ i, i < l → x / 2 ^ i % 2 = y / 2 ^ i % 2) → x % 2 ^ l = y % 2 ^ l
  | 0, _ => by rw [Nat.pow_zero, Nat.mod_one, Nat.mod_one]
  | l + 1, h => by
    rw [Nat.pow_succ, Nat.mod_mul, Nat.mod_mul, bits_mod x y l fun i hi => h i (by omega), h l (by omega)]
theorem bits_inj {x y l : Nat} (hx : x < 2 ^ l) (hy : y < 2 ^ l) (h : bitsL x l = bitsL y l) : x = y := by
  have h1 := bits_mod x y l fun i hi => by
    have h2 := congrArg (fun z => z[l - 1 - i]?) h
    have h3 : l - 1 - (l - 1 - i) = i := by omega
    simp only [bitsL, List.getElem?_map, List.getElem?_range (show l - 1 - i < l by omega), Option.map_some, h3, Option.some.injEq] at h2
    exact_mod_cast h2
  rwa [Nat.mod_eq_of_lt hx, Nat.mod_eq_of_lt hy] at h1
theorem bits_take {x l m : Nat} (h : m ≤ l) : (bitsL x l).take m = bitsL (x / 2 ^ (l - m)) m := by
  refine List.ext_getElem? fun j => ?_
  by_cases hj : j < m
  · rw [List.getElem?_take_of_lt hj]
    simp only [bitsL, List.getElem?_map, List.getElem?_range (show j < l by omega), List.getElem?_range hj, Option.map_some, Nat.div_div_eq_div_mul, ← Nat.pow_add]
    have : l - m + (m - 1 - j) = l - 1 - j := by omega
    rw [this]
  · rw [List.getElem?_eq_none (by rw [List.length_take, bits_len]; omega), List.getElem?_eq_none (by rw [bits_len]; omega)]
/-- where a symbol stands in the order -/
theorem split_at {o : List Nat} {k : Nat} (h : k ∈ o) : ∃ r, o = upTo o k ++ k :: r := by
  unfold upTo
  induction o with
  | nil => simp at h
  | cons x t ih =>
    by_cases e : x = k
    · subst e
      exact ⟨t, by simp⟩
    · have h' : k ∈ t := by
        rcases List.mem_cons.mp h with z | z
        · exact absurd z.symm e
        · exact z
      obtain ⟨r, hr⟩ := ih h'
      refine ⟨r, ?_⟩
      rw [List.takeWhile_cons_of_pos (by simpa using e), List.cons_append, ← hr]
theorem xs_app (ls : List Int) (a b : List Nat) : xs ls (a ++ b) = xs ls a + xs ls b := by
  unfold xs
  rw [List.map_append, List.sum_append]
theorem upTo_mem {o : List Nat} {k x : Nat} (h : x ∈ upTo o k) : x ∈ o := (List.takeWhile_sublist _).subset h
theorem pos_lt {ls : List Int} {o : List Nat} (hl : Lok ls) (h : IsOrd ls o) (hk : kraft ls ≤ 1048576) {k : Nat} (hm : k ∈ o) : xs ls (upTo o k) + 2 ^ (20 - lnA ls k) ≤ 2 ^ 20 := by
  obtain ⟨r, e⟩ := split_at hm
  have h1 := xs_le hl h
  have h2 : xs ls o = xs ls (upTo o k) + (2 ^ (20 - lnA ls k) + xs ls r) := by
    rw (occs := .pos [1]) [e]
    rw [xs_app]
    simp [xs]
  have h3 : ((xs ls o : Nat) : Int) ≤ 1048576 := by omega
  have h4 : xs ls o ≤ 1048576 := by omega
  have h5 : (2 : Nat) ^ 20 = 1048576 := by decide
  omega
theorem before {ls : List Int} {o : List Nat} (h : IsOrd ls o) {a b : Nat} (ha : a ∈ o) (hb : b ∈ o) (hab : Lx ls a b) : xs ls (upTo o a) + 2 ^ (20 - lnA ls a) ≤ xs ls (upTo o b) := by
  obtain ⟨r, e⟩ := split_at hb
  have ham : a ∈ upTo o b := by
    have h1 : a ∈ upTo o b ++ b :: r := by rw [← e]; exact ha
    rcases List.mem_append.mp h1 with z | z
    · exact z
    · exfalso
      rcases List.mem_cons.mp z with z | z
      · subst z; exact hab.irrefl
      · have h2 := h.pw
        rw [e] at h2
        have h3 := (List.pairwise_cons.mp (List.pairwise_append.mp h2).2.1).1 a z
        exact hab.asymm h3
  obtain ⟨r2, e2⟩ := split_at ham
  have h5 : upTo (upTo o b) a = upTo o a := by
    rw (occs := .pos [2]) [e]
    have : ∀ (t u : List Nat), a ∈ t → upTo (t ++ u) a = upTo t a := fun t u ht => by
      clear e2 ham e h ha hb hab
      unfold upTo
      induction t with
      | nil => simp at ht
      | cons x t ih =>
        by_cases q : x = a
        · subst q; simp
        · have h' : a ∈ t := by
            rcases List.mem_cons.mp ht with z | z
            · exact absurd z.symm q
            · exact z
          simp only [List.cons_append]
          rw [List.takeWhile_cons_of_pos (by simpa using q), List.takeWhile_cons_of_pos (by simpa using q), ih h']
    exact (this _ _ ham).symm
  rw [e2, h5, xs_app]
  have : xs ls (a :: r2) = 2 ^ (20 - lnA ls a) + xs ls r2 := by simp [xs]
  omega
theorem Lx.total {ls : List Int} {k j : Nat} (h : k ≠ j) : Lx ls k j ∨ Lx ls j k := by
  unfold Lx; omega
theorem clash {ls : List Int} {o : List Nat} (hl : Lok ls) (h : IsOrd ls o) (hk : kraft ls ≤ 1048576) {a b : Nat} (ha : a ∈ o) (hb : b ∈ o) (hab : Lx ls a b) (hle : lnA ls a ≤ lnA ls b) : (wd ls (upTo o b) b).take (lnA ls a) ≠ wd ls (upTo o a) a := by
  intro e
  have l1 := ln_le hl a
  have l2 := ln_le hl b
  unfold wd at e
  rw [bits_take hle, Nat.div_div_eq_div_mul, ← Nat.pow_add] at e
  have e1 : 20 - lnA ls b + (lnA ls b - lnA ls a) = 20 - lnA ls a := by omega
  rw [e1] at e
  have p1 := pos_lt hl h hk ha
  have p2 := pos_lt hl h hk hb
  have b1 := before h ha hb hab
  have hp : 0 < 2 ^ (20 - lnA ls a) := Nat.pow_pos (by decide)
  have hp2 : 0 < 2 ^ (20 - lnA ls b) := Nat.pow_pos (by decide)
  have hm : (2 : Nat) ^ 20 = 2 ^ lnA ls a * 2 ^ (20 - lnA ls a) := by rw [← Nat.pow_add]; congr 1; omega
  have q1 : xs ls (upTo o b) / 2 ^ (20 - lnA ls a) < 2 ^ lnA ls a := (Nat.div_lt_iff_lt_mul hp).mpr (by omega)
  have q2 : xs ls (upTo o a) / 2 ^ (20 - lnA ls a) < 2 ^ lnA ls a := (Nat.div_lt_iff_lt_mul hp).mpr (by omega)
  have e2 := bits_inj q1 q2 e
  have q3 : (xs ls (upTo o a) + 2 ^ (20 - lnA ls a)) / 2 ^ (20 - lnA ls a) ≤ xs ls (upTo o b) / 2 ^ (20 - lnA ls a) := Nat.div_le_div_right b1
  rw [Nat.add_div_right _ hp] at q3
  omega
/-- no word is the beginning of another one -/
theorem free {ls : List Int} {o : List Nat} (hl : Lok ls) (h : IsOrd ls o) (hk : kraft ls ≤ 1048576) {a b : Nat} (ha : a ∈ o) (hb : b ∈ o) (hab : a ≠ b) : (wd ls (upTo o b) b).take (lnA ls a) ≠ wd ls (upTo o a) a := by
  rcases Lx.total (ls := ls) hab with z | z
  · exact clash hl h hk ha hb z (by unfold Lx at z; omega)
  · intro e
    have hle : lnA ls b ≤ lnA ls a := by unfold Lx at z; omega
    have h1 : (wd ls (upTo o b) b).length = lnA ls b := bits_len _ _
    have h2 : (wd ls (upTo o a) a).length = lnA ls a := bits_len _ _
    have h3 := congrArg List.length e
    rw [List.length_take, h1, h2] at h3
    have h4 : lnA ls a = lnA ls b := by omega
    have h5 := clash hl h hk hb ha z hle
    apply h5
    rw [← h4, List.take_of_length_le (by rw [h2]; exact Nat.le_refl _), ← e, h4, List.take_of_length_le (by rw [h1]; exact Nat.le_refl _)]
end M01
set_option linter.all false
set_option exponentiation.threshold 2000
/-! The codes of integers, and that their readings give the integers back. -/
namespace M14
open M15 M01
theorem bitsL_succ (x l : Nat) : bitsL x (l + 1) = bitsL (x / 2) l ++ [((x % 2 : Nat) : Int)] := by
  unfold bitsL
  rw [List.range_succ, List.map_append]
  congr 1
  · refine List.map_congr_left fun j hj => ?_
    have hj2 := List.mem_range.mp hj
    rw [Nat.div_div_eq_div_mul, show l + 1 - 1 - j = (l - 1 - j) + 1 by omega, Nat.pow_succ, Nat.mul_comm 2]
  · simp
theorem num_bits : ∀ (l x : Nat), numB (bitsL x l) = ((x % 2 ^ l : Nat) : Int)
  | 0, x => by simp [bitsL, numB, Nat.mod_one]
  | l + 1, x => by
    rw [bitsL_succ, numB_snoc, num_bits l (x / 2)]
    have h := Nat.mod_mul (a := 2) (b := 2 ^ l) (x := x)
    rw [show 2 ^ (l + 1) = 2 * 2 ^ l by rw [Nat.pow_succ, Nat.mul_comm], h]
    push_cast
    omega
theorem bits_01 (x l : Nat) : Bit01 (bitsL x l) := fun b h => by
  obtain ⟨j, _, rfl⟩ := List.mem_map.mp h
  omega
/-- the number of bits -/
def bl (n : Nat) : Nat := n.log2 + 1
theorem bl_lo {n : Nat} (h : 1 ≤ n) : 2 ^ (bl n - 1) ≤ n := by
  unfold bl
  rw [Nat.add_sub_cancel]
  exact Nat.log2_self_le (by omega)
theorem bl_hi (n : Nat) : n < 2 ^ bl n := by
  unfold bl
  exact Nat.lt_log2_self
theorem bl_le {n k : Nat} (h : 1 ≤ n) (hk : n < 2 ^ k) : bl n ≤ k := by
  unfold bl
  have := (Nat.log2_lt (show n ≠ 0 by omega)).mpr hk
  omega
theorem bl_lt {n k : Nat} (hk : 2 ^ k ≤ n) : k < bl n := by
  rcases Nat.lt_or_ge k (bl n) with h | h
  · exact h
  · have h1 := bl_hi n
    have h2 := Nat.pow_le_pow_right (show 0 < 2 by decide) h
    omega
theorem bl_iff {n k : Nat} (h : 1 ≤ n) : 2 ^ k ≤ n ↔ k < bl n := by
  refine ⟨bl_lt, fun hk => ?_⟩
  have h1 := bl_lo h
  have h2 := Nat.pow_le_pow_right (show 0 < 2 by decide) (show k ≤ bl n - 1 by omega)
  omega
theorem bitsL_cons (x l : Nat) : bitsL x (l + 1) = ((x / 2 ^ l % 2 : Nat) : Int) :: bitsL x l := by
  unfold bitsL
  rw [List.range_succ_eq_map, List.map_cons, List.map_map]
  congr 1
  refine List.map_congr_left fun j hj => ?_
  show ((x / 2 ^ (l + 1 - 1 - (j + 1)) % 2 : Nat) : Int) = _
  rw [show l + 1 - 1 - (j + 1) = l - 1 - j by omega]
theorem top_one {n : Nat} (h : 1 ≤ n) : n / 2 ^ (bl n - 1) % 2 = 1 := by
  have h1 := bl_lo h
  have h2 := bl_hi n
  have h3 : bl n = (bl n - 1) + 1 := by unfold bl; omega
  rw [h3, Nat.pow_succ] at h2
  have hp : 0 < 2 ^ (bl n - 1) := Nat.pow_pos (by decide)
  have : n / 2 ^ (bl n - 1) = 1 := by
    refine Nat.div_eq_of_lt_le ?_ ?_
    · omega
    · omega
  omega
theorem bits_top {n : Nat} (h : 1 ≤ n) : bitsL n (bl n) = 1 :: bitsL n (bl n - 1) := by
  have h3 : bl n = (bl n - 1) + 1 := by unfold bl; omega
  conv => lhs; rw [h3, bitsL_cons]
  rw [top_one h]
  rfl
def gam (n : Nat) : List Int := List.replicate (bl n - 1) 0 ++ bitsL n (bl n)
def dlt (n : Nat) : List Int := gam (bl n) ++ bitsL n (bl n - 1)
def ric (k n : Nat) : List Int := List.replicate (n / 2 ^ k) 1 ++ [0] ++ bitsL n k
/-! Fibonacci -/
def F : Nat → Nat
  | 0 => 1
  | 1 => 2
  | n + 2 => F (n + 1) + F n
theorem F_succ (n : Nat) : F (n + 1 + 1) = F (n + 1) + F n := rfl
theorem F_pos : ∀ n, 1 ≤ F n
  | 0 => Nat.le_refl _
  | 1 => by decide
  | n + 2 => by
    have := F_pos n
    rw [F_succ]
    omega
theorem F_lt : ∀ n, F n < F (n + 1)
  | 0 => by decide
  | n + 1 => by
    have := F_pos n
    rw [F_succ]
    omega
theorem F_mono {a b : Nat} (h : a ≤ b) : F a ≤ F b := by
  induction h with
  | refl => exact Nat.le_refl _
  | step _ ih => exact Nat.le_trans ih (Nat.le_of_lt (F_lt _))
/-- taking away, from the greatest on -/
def zd : Nat → Nat → List Int
  | 0, _ => []
  | i + 1, r => if F i ≤ r then 1 :: zd i (r - F i) else 0 :: zd i r
theorem zd_len : ∀ i r, (zd i r).length = i
  | 0, _ => rfl
  | i + 1, r => by
    unfold zd
    split <;> simp [zd_len i]
theorem zd_01 : ∀ i r, Bit01 (zd i r)
  | 0, _ => fun b h => absurd h List.not_mem_nil
  | i + 1, r => fun b h => by
    unfold zd at h
    split at h
    · rcases List.mem_cons.mp h with y | y
      · exact .inr y
      · exact zd_01 i _ b y
    · rcases List.mem_cons.mp h with y | y
      · exact .inl y
      · exact zd_01 i _ b y
/-- how many Fibonacci numbers are not greater than n -/
def mf (n : Nat) : Nat := ((List.range n).filter fun i => decide (F i ≤ n)).length
theorem F_ge : ∀ n, n + 1 ≤ F n
  | 0 => Nat.le_refl _
  | n + 1 => by
    have := F_ge n
    have := F_lt n
    omega
theorem exists_mf : ∀ n : Nat, 1 ≤ n → ∃ m, 1 ≤ m ∧ F (m - 1) ≤ n ∧ n < F m := fun n h => by
  have key : ∀ k, F k ≤ n ∨ ∃ m, 1 ≤ m ∧ F (m - 1) ≤ n ∧ n < F m := fun k => by
    induction k with
    | zero => exact .inl h
    | succ k ih =>
      rcases ih with y | y
      · by_cases z : F (k + 1) ≤ n
        · exact .inl z
        · exact .inr ⟨k + 1, by omega, y, by omega⟩
      · exact .inr y
  rcases key n with y | y
  · have := F_ge n
    omega
  · exact y
theorem mf_uniq {n a b : Nat} (ha : 1 ≤ a) (hb : 1 ≤ b) (h1 : F (a - 1) ≤ n) (h2 : n < F a) (h3 : F (b - 1) ≤ n) (h4 : n < F b) : a = b := by
  rcases Nat.lt_trichotomy a b with y | y | y
  · have := F_mono (show a ≤ b - 1 by omega)
    omega
  · exact y
  · have := F_mono (show b ≤ a - 1 by omega)
    omega
/-- the code, told with its number of terms -/
def fibc (m n : Nat) : List Int := (zd m n).reverse ++ [1]
def lastB : Nat → Nat → Int
  | 0, _ => 0
  | i + 1, r => if F i ≤ r then 1 else 0
theorem fib_go : ∀ (i r : Nat) (rest : List Int) (pl : Nat), r < F i → fibGo ((zd i r).reverse ++ rest) 0 1 2 0 pl = fibGo rest (r : Int) (F i : Int) (F (i + 1) : Int) (lastB i r) (pl + i)
  | 0, r, rest, pl, h => by
    have : r = 0 := by
      have : F 0 = 1 := rfl
      omega
    subst this
    rfl
  | i + 1, r, rest, pl, h => by
    unfold zd
    by_cases z : F i ≤ r
    · rw [if_pos z, List.reverse_cons, List.append_assoc]
      have hr : r - F i < F i := by
        cases i with
        | zero =>
          have h1 : F 1 = 2 := rfl
          have h0 : F 0 = 1 := rfl
          simp only [Nat.zero_add] at h
          omega
        | succ i =>
          have := F_succ i
          have := F_lt i
          omega
      rw [fib_go i (r - F i) ([1] ++ rest) pl hr]
      have hl : lastB i (r - F i) = 0 := by
        cases i with
        | zero => rfl
        | succ i =>
          have := F_succ i
          show (if F i ≤ r - F (i + 1) then (1 : Int) else 0) = 0
          rw [if_neg (by omega)]
      rw [hl]
      show (if (1 : Int) = 1 ∧ (0 : Int) = 1 then RI.ok _ _ else fibGo rest (((r - F i : Nat) : Int) + 1 * (F i : Int)) (F (i + 1) : Int) ((F i : Int) + (F (i + 1) : Int)) 1 (pl + i + 1)) = _
      rw [if_neg (by decide)]
      have e1 : ((r - F i : Nat) : Int) + 1 * (F i : Int) = (r : Int) := by omega
      have e2 : (F i : Int) + (F (i + 1) : Int) = (F (i + 1 + 1) : Int) := by
        have := F_succ i
        omega
      have e3 : lastB (i + 1) r = 1 := by
        show (if F i ≤ r then (1 : Int) else 0) = 1
        rw [if_pos z]
      rw [e1, e2, e3]
      rfl
    · rw [if_neg z, List.reverse_cons, List.append_assoc, fib_go i r ([0] ++ rest) pl (by omega)]
      show (if (0 : Int) = 1 ∧ lastB i r = 1 then RI.ok _ _ else fibGo rest ((r : Int) + 0 * (F i : Int)) (F (i + 1) : Int) ((F i : Int) + (F (i + 1) : Int)) 0 (pl + i + 1)) = _
      rw [if_neg (fun y => absurd y.1 (by decide))]
      have e1 : (r : Int) + 0 * (F i : Int) = (r : Int) := by omega
      have e2 : (F i : Int) + (F (i + 1) : Int) = (F (i + 1 + 1) : Int) := by
        have := F_succ i
        omega
      have e3 : lastB (i + 1) r = 0 := by
        show (if F i ≤ r then (1 : Int) else 0) = 0
        rw [if_neg z]
      rw [e1, e2, e3]
      rfl
/-! the readings of codes -/
theorem field_at {bs xs rest : List Int} {a w : Nat} (h : bs.drop a = xs ++ rest) (hw : xs.length = w) (ha : a ≤ bs.length) : rdField bs a w = .ok (numB xs) (a + w) := by
  have hl : (bs.drop a).length = xs.length + rest.length := by rw [h, List.length_append]
  rw [List.length_drop] at hl
  unfold rdField
  rw [if_pos (by omega), h, ← hw, List.take_left]
theorem drop_more {bs xs ys rest : List Int} {a z : Nat} (h : bs.drop a = xs ++ ys ++ rest) (hz : xs.length = z) : bs.drop (a + z) = ys ++ rest := by
  rw [← List.drop_drop, h, List.append_assoc, ← hz, List.drop_left]
theorem gamma_at {bs rest : List Int} {a n : Nat} (hn : 1 ≤ n) (hn2 : n < 2 ^ 41) (h : bs.drop a = gam n ++ rest) (ha : a ≤ bs.length) : rdGamma bs a = .ok (n : Int) (a + (gam n).length) := by
  have hb := bl_le hn hn2
  have hl : lead 0 (bs.drop a) = bl n - 1 := by
    rw [h]
    unfold gam
    rw [List.append_assoc, lead_rep, bits_top hn, List.cons_append, lead_cons (by decide)]
    omega
  have hlen : (gam n).length = (bl n - 1) + bl n := by
    unfold gam
    rw [List.length_append, List.length_replicate, bits_len]
  have hdl : (bs.drop a).length = (gam n).length + rest.length := by rw [h, List.length_append]
  rw [List.length_drop] at hdl
  have h1 : 1 ≤ bl n := by unfold bl; omega
  unfold rdGamma
  rw [hl, if_neg (by omega), field_at (xs := bitsL n (bl n)) (rest := rest) (drop_more (xs := List.replicate (bl n - 1) 0) h (by rw [List.length_replicate])) (by rw [bits_len]; omega) (by omega), num_bits, Nat.mod_eq_of_lt (bl_hi n), hlen]
  congr 1
  omega
theorem num_tail {n : Nat} (hn : 1 ≤ n) : numB (bitsL n (bl n - 1)) + 2 ^ (bl n - 1) = (n : Int) := by
  have h1 := num_bits (bl n) n
  rw [bits_top hn, num_cons (by rw [← bits_top hn]; exact bits_01 _ _), bits_len, Nat.mod_eq_of_lt (bl_hi n)] at h1
  omega
theorem delta_at {bs rest : List Int} {a n : Nat} (hn : 1 ≤ n) (hn2 : n < 2 ^ 40) (h : bs.drop a = dlt n ++ rest) (ha : a ≤ bs.length) : rdDelta bs a = .ok (n : Int) (a + (dlt n).length) := by
  have hb := bl_le hn hn2
  have h1 : 1 ≤ bl n := by unfold bl; omega
  unfold dlt at h ⊢
  have hdl : (bs.drop a).length = (gam (bl n)).length + (bitsL n (bl n - 1)).length + rest.length := by rw [h, List.length_append, List.length_append]
  rw [List.length_drop] at hdl
  unfold rdDelta
  rw [gamma_at (rest := bitsL n (bl n - 1) ++ rest) h1 (by omega) (by rw [h, List.append_assoc]) ha]
  simp only
  rw [if_neg (by omega), Int.toNat_natCast, field_at (xs := bitsL n (bl n - 1)) (rest := rest) (drop_more h rfl) (bits_len _ _) (by omega)]
  simp only
  have := num_tail hn
  rw [List.length_append, bits_len]
  congr 1
  · omega
  · omega
theorem rice_at {bs rest : List Int} {a k n : Nat} (h : bs.drop a = ric k n ++ rest) (ha : a ≤ bs.length) : rdRice k bs a = .ok (n : Int) (a + (ric k n).length) := by
  have hl : lead 1 (bs.drop a) = n / 2 ^ k := by
    rw [h]
    unfold ric
    rw [List.append_assoc, List.append_assoc, lead_rep, List.cons_append, lead_cons (by decide)]
    omega
  unfold ric at h ⊢
  have hdl : (bs.drop a).length = (List.replicate (n / 2 ^ k) (1 : Int)).length + 1 + (bitsL n k).length + rest.length := by rw [h, List.length_append, List.length_append, List.length_append]; rfl
  rw [List.length_drop] at hdl
  unfold rdRice
  rw [hl, field_at (xs := 0 :: bitsL n k) (rest := rest) (drop_more (xs := List.replicate (n / 2 ^ k) 1) (by rw [h, List.append_assoc (List.replicate _ _)]; rfl) (by rw [List.length_replicate])) (by rw [List.length_cons, bits_len]) (by rw [List.length_replicate] at hdl; omega), num_zero, num_bits]
  simp only
  have h1 := Nat.div_add_mod n (2 ^ k)
  rw [List.length_append, List.length_append, List.length_replicate, bits_len]
  congr 1
  · have : ((2 ^ k * (n / 2 ^ k) + n % 2 ^ k : Nat) : Int) = (n : Int) := by rw [h1]
    push_cast at this
    push_cast
    rw [Int.mul_comm]
    exact this
  · rw [List.length_singleton]
    omega
theorem fib_at {bs rest : List Int} {a m n : Nat} (hm : 1 ≤ m) (h1 : F (m - 1) ≤ n) (h2 : n < F m) (h : bs.drop a = fibc m n ++ rest) : rdFib bs a = .ok (n : Int) (a + (fibc m n).length) := by
  unfold rdFib
  rw [h]
  unfold fibc
  rw [List.append_assoc, fib_go m n ([1] ++ rest) a h2]
  have hl : lastB m n = 1 := by
    match m, hm, h1 with
    | m + 1, _, h1 =>
      have h1' : F m ≤ n := h1
      show (if F m ≤ n then (1 : Int) else 0) = 1
      rw [if_pos h1']
  rw [hl]
  show (if (1 : Int) = 1 ∧ (1 : Int) = 1 then RI.ok (n : Int) (a + m + 1) else _) = _
  rw [if_pos ⟨rfl, rfl⟩, List.length_append, List.length_reverse, zd_len]
  rfl
/-- a code that begins another one is its code -/
theorem pre_same {rd : List Int → Nat → RI} {c : Nat → List Int} {ok : Nat → Prop} (h : ∀ (n : Nat) (rest : List Int), ok n → rd (c n ++ rest) 0 = .ok (n : Int) (0 + (c n).length)) {n m : Nat} (hn : ok n) (hm : ok m) : (c m).take (c n).length = c n ↔ n = m := by
  constructor
  · intro e
    have h1 := h n ((c m).drop (c n).length) hn
    rw [← e] at h1
    rw [show ((c m).take (c n).length) ++ (c m).drop ((c m).take (c n).length).length = c m from by
      rw [e]
      conv => lhs; lhs; rw [← e]
      exact List.take_append_drop _ _] at h1
    have h2 := h m [] hm
    rw [List.append_nil, h1] at h2
    injection h2 with e1 _
    omega
  · intro e
    rw [e, List.take_of_length_le (Nat.le_refl _)]
end M14
set_option Elab.async false
set_option linter.all false
set_option maxRecDepth 100000
set_option maxHeartbeats 4000000
namespace K14
open PySem PySem.Spec PyProof.Rows L2 StX GX KC Evl KX KQ M15 M01 M14
section
variable {P : Program} {w : World} {K : PySem.W.Frag} {mg : Str → Option Value} {base : Heap} {σ : L2.St} {H H' : Hp} {CI CT : Addr} {D : Ends} {ta tb te : TE}
def spBits : Sp := fun vs H Q _ => ∃ (x l : Nat), vs = [.int (x : Int), .int (l : Int)] ∧ l ≤ 1000 ∧ RetL ((bitsL x l).map V.int) H Q
theorem ok_field_bits {f : Addr} {fd : FuncData} {k : Nat} (F : Fun K "field_bits" "field_bits" s_field_bits f fd) (B : Bs mg) : FnOk P w K mg base CX0 (k + 1) f fd ["number", "width"] spBits := by
  refine F.ok sc_field_bits (fun vs H Q E h => ?_) (fun cdv A outer s H vs Q E hr h => ?_)
  · obtain ⟨x, l, rfl, _⟩ := h
    rfl
  · obtain ⟨x, l, rfl, hl, q⟩ := h
    refine ⟨_, (pss_one (ps_ret (pe_lc rfl sc_field_bits.nd (pi_range3 (by rfl) B.range (pa_cons (pe_op op_sub (pv 1) pe_int) (pa_cons (pe_un un_neg pe_int) (pa_cons (pe_un un_neg pe_int) pa_nil)))) (blkOk_by (own := [("at", 2)]) (N := ["number", "width", "at"]) (sc := defScope s_field_bits) (by decide +kernel)) (fun _ _ _ _ _ => (pg_name (i := 2) sc_field_bits.nd rfl (Or.inl rfl))) (fun _ _ _ _ _ => pts_nil) (fun _ _ _ _ _ => (pe_op op_and (pe_op op_shr (pv 0) (pv 2)) pe_int))))), ?_⟩
    refine s_retL ?_ q
    have e : (bitsL x l).map V.int = (List.range l).map fun j => V.int ((x / 2 ^ (l - 1 - j) % 2 : Nat) : Int) := by
      unfold bitsL
      rw [List.map_map]
      rfl
    rw [e]
    refine el_lcDown (a := (l : Int) - 1) (b := -1) _ (ea3 (ev_sub (ev_var rfl) ev_c) (ev_un (x := .int 1) ev_c ru_neg) (ev_un (x := .int 1) ev_c ru_neg)) (by omega) (by omega) (by omega) (by omega) (fun x => rfl) fun i H1 e1 hi => ?_
    have ei : (l : Int) - 1 + (i : Nat) * (-1) = ((l - 1 - i : Nat) : Int) := by omega
    rw [ei]
    refine ev_is (ev_op (ev_op (ev_var (v := .int (x : Int)) rfl) (ev_var (v := .int ((l - 1 - i : Nat) : Int)) rfl) (rv_shr (by omega))) ev_c rv_I0) ?_
    rw [bitAnd_m1, Int.toNat_natCast]
    congr 1
theorem el_bits {E : XK} {x l : Nat} {y : Int} (h1 : Ev ta σ H (.int (x : Int))) (h2 : Ev tb σ H (.int y)) (e : y = (l : Int)) (hl : l ≤ 1000) : EvL (tCall spBits [] E (tCons ta (tCons tb tNil))) σ H ((bitsL x l).map V.int) := by
  subst e
  exact el_call (vs := [.int (x : Int), .int (l : Int)]) (ea2 h1 h2) fun H1 e1 Q q E => ⟨x, l, rfl, hl, q⟩
theorem bits_bl {n : Nat} (h : 1 ≤ n) : Builtin.Int.intBits (n : Int) = bl n := by
  unfold Builtin.Int.intBits bl
  rw [Int.natAbs_natCast, if_neg (by simp; omega)]
theorem flat_one (v : V) : ∀ n : Nat, (List.replicate n [v]).flatten = List.replicate n v
  | 0 => rfl
  | n + 1 => by
    rw [List.replicate_succ, List.flatten_cons, flat_one v n, List.replicate_succ]
    rfl
theorem el_rep1 {v : V} {i : Int} {n : Nat} (ha : EvL ta σ H [v]) (hb : Ev tb σ H (.int i)) (e : i = (n : Int)) (h : n ≤ 10000) : EvL (tOp rRep ta tb) σ H (List.replicate n v) := by
  have := el_rep ha hb (by omega) (by show 1 ≤ 10; decide)
  rw [e, Int.toNat_natCast, flat_one] at this
  exact this
def spN (c : Nat → List Int) (ok : Nat → Prop) : Sp := fun vs H Q _ => ∃ n : Nat, vs = [.int (n : Int)] ∧ 1 ≤ n ∧ n < 2 ^ 100 ∧ ok n ∧ RetL ((c n).map V.int) H Q
theorem el_n {c : Nat → List Int} {ok : Nat → Prop} {E : XK} {n : Nat} (h1 : Ev ta σ H (.int (n : Int))) (h : 1 ≤ n) (h2 : n < 2 ^ 100) (h3 : ok n) : EvL (tCall (spN c ok) [] E (tCons ta tNil)) σ H ((c n).map V.int) :=
  el_call (vs := [.int (n : Int)]) (ea1 h1) fun H1 e1 Q q E => ⟨n, rfl, h, h2, h3, q⟩
theorem gam_len (n : Nat) : (gam n).length = bl n - 1 + bl n := by
  unfold gam
  rw [List.length_append, List.length_replicate, bits_len]
theorem ok_gamma_bits {f : Addr} {fd : FuncData} {k : Nat} (F : Fun K "gamma_bits" "gamma_bits" s_gamma_bits f fd) (B : Bs mg) (C_field_bits : Cal P w K mg base "field_bits" 1 ["number", "width"] spBits) : FnOk P w K mg base CX0 (k + 2) f fd ["n"] (spN gam fun _ => True) := by
  refine F.ok sc_gamma_bits (fun vs H Q E h => ?_) (fun cdv A outer s H vs Q E hr h => ?_)
  · obtain ⟨n, rfl, _⟩ := h
    rfl
  · obtain ⟨n, rfl, h1, h2, _, q⟩ := h
    refine ⟨_, (pss_cons (ps_set (i := 1) sc_gamma_bits.nd rfl (Or.inl rfl) (pe_bits (pv 0)))
      (pss_one (ps_ret (pe_op op_cat (pe_op op_rep (pe_lst (pa_cons pe_int pa_nil)) (pe_op op_sub (pv 1) pe_int)) (pe_callC C_field_bits (hr.mono (by omega)) (by rfl) (pa_cons (pv 0) (pa_cons (pv 1) pa_nil))))))), ?_⟩
    have hb := bl_le h1 h2
    have hb1 : 1 ≤ bl n := by unfold bl; omega
    refine q_asg (v := .int (bl n : Int)) (ev_is (ev_bits (ev_var rfl)) (by rw [bits_bl h1])) fun H1 e1 => ?_
    refine s_retL (xs := (gam n).map V.int) ?_ fun p H2 np e2 h2 => q p H2 (fresh_back e1 np) (e1.trans e2) h2
    unfold gam
    rw [List.map_append, List.map_replicate]
    exact el_catLL (el_rep1 (el_lst (ea1 ev_c) (by show 1 ≤ 100000; decide)) (ev_sub (ev_var (v := .int (bl n : Int)) rfl) ev_c) (by omega) (by omega)) (el_bits (ev_var rfl) (ev_var rfl) rfl (by omega)) (by rw [List.length_replicate, List.length_map, bits_len]; omega)
theorem ok_delta_bits {f : Addr} {fd : FuncData} {k : Nat} (F : Fun K "delta_bits" "delta_bits" s_delta_bits f fd) (B : Bs mg) (C_field_bits : Cal P w K mg base "field_bits" 1 ["number", "width"] spBits) (C_gamma_bits : Cal P w K mg base "gamma_bits" 2 ["n"] (spN gam fun _ => True)) : FnOk P w K mg base CX0 (k + 3) f fd ["n"] (spN dlt fun _ => True) := by
  refine F.ok sc_delta_bits (fun vs H Q E h => ?_) (fun cdv A outer s H vs Q E hr h => ?_)
  · obtain ⟨n, rfl, _⟩ := h
    rfl
  · obtain ⟨n, rfl, h1, h2, _, q⟩ := h
    refine ⟨_, (pss_cons (ps_set (i := 1) sc_delta_bits.nd rfl (Or.inl rfl) (pe_bits (pv 0)))
      (pss_one (ps_ret (pe_op op_cat (pe_callC C_gamma_bits (hr.mono (by omega)) (by rfl) (pa_cons (pv 1) pa_nil)) (pe_slice sl_list (pe_callC C_field_bits (hr.mono (by omega)) (by rfl) (pa_cons (pv 0) (pa_cons (pv 1) pa_nil))) (po_some pe_int) po_none))))), ?_⟩
    have hb := bl_le h1 h2
    have hb1 : 1 ≤ bl n := by unfold bl; omega
    refine q_asg (v := .int (bl n : Int)) (ev_is (ev_bits (ev_var rfl)) (by rw [bits_bl h1])) fun H1 e1 => ?_
    refine s_retL (xs := (dlt n).map V.int) ?_ fun p H2 np e2 h2 => q p H2 (fresh_back e1 np) (e1.trans e2) h2
    unfold dlt
    rw [List.map_append]
    have hd : (bitsL n (bl n - 1)).map V.int = cutV ((bitsL n (bl n)).map V.int) (some ((1 : Nat) : Int)) none := by
      rw [cutV_from, ← List.map_drop, bits_top h1]
      rfl
    have hg : bl n < 2 ^ 100 := by
      have : (100 : Nat) < 2 ^ 100 := by decide
      omega
    have hl1 := bl_le hb1 (show bl n < 2 ^ 7 by omega)
    rw [hd]
    exact el_catLL (el_n (ev_var rfl) hb1 hg True.intro) (el_slN (el_bits (ev_var rfl) (ev_var rfl) rfl (by omega)) (fun H2 e2 => eo_some ev_c) fun H2 e2 => eo_none) (by
      rw [← hd, List.length_map, List.length_map, gam_len, bits_len]
      omega)
def spRic : Sp := fun vs H Q _ => ∃ k n : Nat, vs = [.int (k : Int), .int (n : Int)] ∧ k ≤ 100 ∧ n / 2 ^ k ≤ 1000 ∧ RetL ((ric k n).map V.int) H Q
theorem ok_rice_bits {f : Addr} {fd : FuncData} {k : Nat} (F : Fun K "rice_bits" "rice_bits" s_rice_bits f fd) (B : Bs mg) (C_field_bits : Cal P w K mg base "field_bits" 1 ["number", "width"] spBits) : FnOk P w K mg base CX0 (k + 2) f fd ["k", "n"] spRic := by
  refine F.ok sc_rice_bits (fun vs H Q E h => ?_) (fun cdv A outer s H vs Q E hr h => ?_)
  · obtain ⟨k, n, rfl, _⟩ := h
    rfl
  · obtain ⟨k, n, rfl, hk, hq, q⟩ := h
    refine ⟨_, (pss_one (ps_ret (pe_op op_cat (pe_op op_cat (pe_op op_rep (pe_lst (pa_cons pe_int pa_nil)) (pe_op op_shr (pv 1) (pv 0))) (pe_lst (pa_cons pe_int pa_nil))) (pe_callC C_field_bits (hr.mono (by omega)) (by rfl) (pa_cons (pv 1) (pa_cons (pv 0) pa_nil)))))), ?_⟩
    refine s_retL (xs := (ric k n).map V.int) ?_ q
    unfold ric
    rw [List.map_append, List.map_append, List.map_replicate]
    refine el_catLL (el_catLL (el_rep1 (el_lst (ea1 ev_c) (by show 1 ≤ 100000; decide)) (ev_op (ev_var (v := .int (n : Int)) rfl) (ev_var (v := .int (k : Int)) rfl) (rv_shr (by omega))) ?_ (by omega)) (el_lst (ea1 ev_c) (by show 1 ≤ 100000; decide)) (by rw [List.length_replicate]; show _ + 1 ≤ 100000; omega)) (el_bits (ev_var rfl) (ev_var rfl) rfl (by omega)) (by
      rw [List.length_append, List.length_replicate, List.length_map, List.length_map, bits_len]
      show _ + 1 + _ ≤ 100000
      omega)
    rw [Int.toNat_natCast]
    push_cast
    rfl
/-- the Fibonacci numbers up to n -/
def spTerms : Sp := fun vs H Q _ => ∃ (n m : Nat), vs = [.int (n : Int)] ∧ 1 ≤ m ∧ m ≤ 200 ∧ M14.F (m - 1) ≤ n ∧ n < M14.F m ∧ RetL ((List.range m).map fun i => V.int (M14.F i : Int)) H Q
theorem F_below {n m i : Nat} (h1 : M14.F (m - 1) ≤ n) (h2 : n < M14.F m) (hm : 1 ≤ m) : M14.F i ≤ n ↔ i < m := by
  constructor
  · intro h
    rcases Nat.lt_or_ge i m with z | z
    · exact z
    · have := F_mono z
      omega
  · intro h
    have := F_mono (show i ≤ m - 1 by omega)
    omega
theorem ok_terms {f : Addr} {fd : FuncData} {k : Nat} (F : Fun K "fibonacci_terms" "fibonacci_terms" s_fibonacci_terms f fd) (B : Bs mg) : FnOk P w K mg base CX0 (k + 1) f fd ["n"] spTerms := by
  refine F.ok sc_fibonacci_terms (fun vs H Q E h => ?_) (fun cdv A outer s H vs Q E hr h => ?_)
  · obtain ⟨n, m, rfl, _⟩ := h
    rfl
  · obtain ⟨n, m, rfl, hm, hm2, h1, h2, q⟩ := h
    refine ⟨_, (pss_cons (ps_set (i := 1) sc_fibonacci_terms.nd rfl (Or.inl rfl) (pe_lst pa_nil))
      (pss_cons (ps_asg (pe_tup (pa_cons pe_int (pa_cons pe_int pa_nil))) (pg_tup rfl (pgs_cons (pg_name (i := 2) sc_fibonacci_terms.nd rfl (Or.inl rfl)) (pgs_cons (pg_name (i := 3) sc_fibonacci_terms.nd rfl (Or.inl rfl)) pgs_nil))))
      (pss_cons (ps_while PassesOwn.never (pt_cmpR op_le (pv 2) (pv 0) (nomark _)) (pss_cons (ps_expr (pe_bm PySem.F.plainAttrs_list PySem.F.slot_list_append PySem.F.type_list_append mt_append (pv 1) (pa_cons (pv 2) pa_nil)))
      (pss_one (ps_par2 (i := 2) (j := 3) rfl sc_fibonacci_terms.nd rfl rfl (by decide) rfl rfl (pa_cons (pv 3) (pa_cons (pe_op op_add (pv 2) (pv 3)) pa_nil)) rfl))))
      (pss_one (ps_ret (pv 1)))))), ?_⟩
    refine q_asgL (xs := []) (el_lst ea_nil (by decide)) fun pf H1 npf e1 hf => ?_
    refine q_asg2 (x := .int 1) (y := .int 2) (ea2 ev_c ev_c) fun H2 e2 => ?_
    have hf2 := e2 _ _ hf
    refine q_while (fun c σ' H' => ∃ i : Nat, c + i = m ∧ σ' = [some (.int (n : Int)), some (.ref pf), some (.int (M14.F i : Int)), some (.int (M14.F (i + 1) : Int))] ∧ Ex H H' ∧ H' pf = some (.lst ((List.range i).map fun i => V.int (M14.F i : Int)))) m ⟨0, by omega, rfl, e1.trans e2, hf2⟩ ?_
    rintro c σ' H' ⟨i, hc, rfl, ex, hp⟩
    refine ⟨decide (i < m), et_is (et_test (ev_op (ev_var (v := .int (M14.F i : Int)) rfl) (ev_var (v := .int (n : Int)) rfl) rv_I0)) (decide_eq_decide.mpr (by rw [← F_below h1 h2 hm]; omega)), fun hb H3 e3 => ?_, fun hb H3 e3 => ?_⟩
    · have hlt := of_decide_eq_true hb
      refine ⟨fun σ2 H2 => ∃ j : Nat, (c - 1) + j = m ∧ σ2 = [some (.int (n : Int)), some (.ref pf), some (.int (M14.F j : Int)), some (.int (M14.F (j + 1) : Int))] ∧ Ex H H2 ∧ H2 pf = some (.lst ((List.range j).map fun i => V.int (M14.F i : Int))), fun σ2 H2 h => ⟨c - 1, by omega, h⟩, ?_⟩
      refine q_app (e3 _ _ hp) (ev_var rfl) (ev_var (v := .int (M14.F i : Int)) rfl) (by rw [List.length_map, List.length_range]; omega) fun H4 e4 => ?_
      refine s_par2 (x := .int (M14.F (i + 1) : Int)) (y := .int ((M14.F i : Int) + (M14.F (i + 1) : Int))) (ea2 (ev_var rfl) (ev_add (ev_var (v := .int (M14.F i : Int)) rfl) (ev_var (v := .int (M14.F (i + 1) : Int)) rfl))) fun H5 e5 => ⟨i + 1, by omega, ?_, (Ex.mut ((ex.trans e3).trans e4) npf).trans e5, ?_⟩
      · have : (M14.F i : Int) + (M14.F (i + 1) : Int) = (M14.F (i + 1 + 1) : Int) := by
          have := F_succ i
          omega
        show [some (V.int (n : Int)), some (V.ref pf), some (.int (M14.F (i + 1) : Int)), some (.int ((M14.F i : Int) + (M14.F (i + 1) : Int)))] = _
        rw [this]
      · rw [e5 _ _ upd_same, List.range_succ, List.map_append]
        rfl
    · have hge := of_decide_eq_false hb
      have him : i = m := by omega
      subst him
      exact s_ret (ev_var rfl) fun H4 e4 => q pf H4 npf ((ex.trans e3).trans e4) ((e3.trans e4) _ _ hp)
def spFib : Sp := fun vs H Q _ => ∃ (n m : Nat), vs = [.int (n : Int)] ∧ 1 ≤ m ∧ m ≤ 62 ∧ M14.F (m - 1) ≤ n ∧ n < M14.F m ∧ RetL ((fibc m n).map V.int) H Q
theorem ok_fib_bits {f : Addr} {fd : FuncData} {k : Nat} (F : Fun K "fibonacci_bits" "fibonacci_bits" s_fibonacci_bits f fd) (B : Bs mg) (C_fibonacci_terms : Cal P w K mg base "fibonacci_terms" 1 ["n"] spTerms) : FnOk P w K mg base CX0 (k + 2) f fd ["n"] spFib := by
  refine F.ok sc_fibonacci_bits (fun vs H Q E h => ?_) (fun cdv A outer s H vs Q E hr h => ?_)
  · obtain ⟨n, m, rfl, _⟩ := h
    rfl
  · obtain ⟨n, m, rfl, hm, hm2, h1, h2, q⟩ := h
    refine ⟨_, (pss_cons (ps_set (i := 1) sc_fibonacci_bits.nd rfl (Or.inl rfl) (pe_lst pa_nil))
      (pss_cons (ps_set (i := 2) sc_fibonacci_bits.nd rfl (Or.inl rfl) (pv 0))
      (pss_cons (ps_for PassesOwn.never rfl (pi_reversed (by rfl) B.reversed (pa_cons (pe_callC C_fibonacci_terms (hr.mono (by omega)) (by rfl) (pa_cons (pv 0) pa_nil)) pa_nil)) (pg_name (i := 3) sc_fibonacci_bits.nd rfl (Or.inl rfl)) (pss_one (ps_if (pt_cmpR op_le (pv 3) (pv 2) (nomark _)) (pss_cons (ps_expr (pe_bm PySem.F.plainAttrs_list PySem.F.slot_list_append PySem.F.type_list_append mt_append (pv 1) (pa_cons pe_int pa_nil)))
      (pss_one (ps_set (i := 2) sc_fibonacci_bits.nd rfl (Or.inl rfl) (pe_op op_sub (pv 2) (pv 3))))) (pss_one (ps_expr (pe_bm PySem.F.plainAttrs_list PySem.F.slot_list_append PySem.F.type_list_append mt_append (pv 1) (pa_cons pe_int pa_nil)))))))
      (pss_one (ps_ret (pe_op op_cat (pe_revL (pv 1)) (pe_lst (pa_cons pe_int pa_nil)))))))), ?_⟩
    refine q_asgL (xs := []) (el_lst ea_nil (by decide)) fun pf H1 npf e1 hf => ?_
    refine q_asg (v := .int (n : Int)) (ev_var rfl) fun H2 e2 => ?_
    have hf2 := e2 _ _ hf
    refine q_forRevN (xs := (List.range m).map fun i => V.int (M14.F i : Int)) (el_call (vs := [.int (n : Int)]) (ea1 (ev_var rfl)) fun H3 e3 Q q E => ⟨n, m, rfl, hm, by omega, h1, h2, q⟩)
      (fun p i σ' H' => ∃ (d : List Int) (r : Nat) (x : Option V), σ' = [some (.int (n : Int)), some (.ref pf), some (.int (r : Int)), x] ∧ Ex H H' ∧ d.length = i ∧ zd m n = d ++ zd (m - i) r ∧ p ≠ pf ∧ H' p = some (.lst ((List.range m).map fun i => V.int (M14.F i : Int))) ∧ H' pf = some (.lst (d.map V.int)))
      (fun p H3 np e3 h3 => ⟨[], n, none, rfl, (e1.trans e2).trans e3, rfl, rfl, (fun z => by rw [z, hf2] at np; cases np), h3, e3 _ _ hf2⟩) (fun p i σ' H' hi ⟨d, r, x, _, _, _, _, _, h, _⟩ => sq_of h) ?_ ?_
    · rintro p i v σ' H' hv hi ⟨d, r, x, rfl, ex, hd, hz, hne, hp, hpf⟩
      rw [List.length_map, List.length_range] at hi
      rw [List.length_map, List.length_range, List.getElem?_map, List.getElem?_range (by omega)] at hv
      have ev := Option.some.inj hv
      subst ev
      have hmi : m - i = (m - 1 - i) + 1 := by omega
      have hmi2 : m - (i + 1) = m - 1 - i := by omega
      rw [hmi] at hz
      show tIfS _ _ _ _ _ _
      refine s_if (b := decide (M14.F (m - 1 - i) ≤ r)) (et_is (et_test (ev_op (ev_var (v := .int (M14.F (m - 1 - i) : Int)) rfl) (ev_var (v := .int (r : Int)) rfl) rv_I0)) (decide_eq_decide.mpr (by omega))) (fun hb H3 e3 => ?_) (fun hb H3 e3 => ?_)
      · have hle := of_decide_eq_true hb
        refine q_app (e3 _ _ hpf) (ev_var rfl) ev_c (by rw [List.length_map]; omega) fun H4 e4 => ?_
        refine s_asg (v := .int ((r - M14.F (m - 1 - i) : Nat) : Int)) (ev_is (ev_sub (ev_var (v := .int (r : Int)) rfl) (ev_var (v := .int (M14.F (m - 1 - i) : Int)) rfl)) (by congr 1; omega)) fun H5 e5 => ⟨d ++ [1], _, _, rfl, (Ex.mut ((ex.trans e3).trans e4) npf).trans e5, by simp [hd], ?_, hne, e5 _ _ (by rw [upd_ne hne]; exact (e3.trans e4) _ _ hp), ?_⟩
        · rw [hmi2, hz]
          show d ++ (if M14.F (m - 1 - i) ≤ r then _ else _) = _
          rw [if_pos hle]
          simp
        · rw [e5 _ _ upd_same, List.map_append]
          rfl
      · have hgt := of_decide_eq_false hb
        refine s_app (e3 _ _ hpf) (ev_var rfl) ev_c (by rw [List.length_map]; omega) fun H4 e4 => ⟨d ++ [0], r, _, rfl, Ex.mut ((ex.trans e3).trans e4) npf, by simp [hd], ?_, hne, by rw [upd_ne hne]; exact (e3.trans e4) _ _ hp, ?_⟩
        · rw [hmi2, hz]
          show d ++ (if M14.F (m - 1 - i) ≤ r then _ else _) = _
          rw [if_neg hgt]
          simp
        · rw [upd_same, List.map_append]
          rfl
    · rintro p σ' H' ⟨d, r, x, rfl, ex, hd, hz, hne, hp, hpf⟩
      rw [List.length_map, List.length_range, Nat.sub_self] at hz
      have hz2 : zd m n = d := by rw [hz]; exact List.append_nil d
      refine s_retL (xs := (fibc m n).map V.int) ?_ fun p2 H3 np e3 h3 => q p2 H3 (fresh_back ex np) (ex.trans e3) h3
      unfold fibc
      rw [hz2, List.map_append, List.map_reverse]
      refine el_catLL (el_rev (ev_var rfl) (sq_of hpf)) (el_lst (ea1 ev_c) (by show 1 ≤ 100000; decide)) ?_
      rw [List.length_reverse, List.length_map, hd, List.length_map, List.length_range]
      show m + 1 ≤ 100000
      omega
end
end K14
set_option Elab.async false
set_option linter.all false
set_option maxRecDepth 100000
set_option maxHeartbeats 4000000
namespace K14
open PySem PySem.Spec PyProof.Rows L2 StX GX KC Evl KX KQ M15 M01 M14
def numOf (c : Int) : Nat := (if c % 3 = 1 then 1 + c / 3 % 40 else if c % 3 = 2 then (if (2 : Int) ^ (c / 3 % 40).toNat + c / 120 % 3 - 1 > 1 then (2 : Int) ^ (c / 3 % 40).toNat + c / 120 % 3 - 1 else 1) else 1 + c / 3 % (2 ^ 40 - 1)).toNat
theorem pow_le {a b : Nat} (h : a ≤ b) : (2 : Int) ^ a ≤ 2 ^ b := by
  have := Nat.pow_le_pow_right (show 0 < 2 by decide) h
  exact_mod_cast this
theorem num_ok (c : Int) : 1 ≤ numOf c ∧ numOf c < 2 ^ 40 ∧ (numOf c : Int) = (if c % 3 = 1 then 1 + c / 3 % 40 else if c % 3 = 2 then (if (2 : Int) ^ (c / 3 % 40).toNat + c / 120 % 3 - 1 > 1 then (2 : Int) ^ (c / 3 % 40).toNat + c / 120 % 3 - 1 else 1) else 1 + c / 3 % (2 ^ 40 - 1)) := by
  have h1 : (2 : Int) ^ (c / 3 % 40).toNat ≤ 2 ^ 39 := pow_le (by omega)
  have h2 : (0 : Int) < 2 ^ (c / 3 % 40).toNat := Int.pow_pos (by decide)
  unfold numOf
  split
  · omega
  · split
    · split <;> omega
    · omega
section
variable {P : Program} {w : World} {K : PySem.W.Frag} {mg : Str → Option Value} {base : Heap} {σ : L2.St} {H H' : Hp} {CI CT : Addr} {D : Ends} {ta tb te : TE}
def spNum : Sp := fun vs H Q _ => ∃ c : Int, vs = [.int c] ∧ RetV (.int (numOf c : Int)) H Q
theorem ok_number {f : Addr} {fd : FuncData} {k : Nat} (F : Fun K "_law_number" "_law_number" s_law_number f fd) (B : Bs mg) : FnOk P w K mg base CX0 (k + 1) f fd ["cell"] spNum := by
  refine F.ok sc_law_number (fun vs H Q E h => ?_) (fun cdv A outer s H vs Q E hr h => ?_)
  · obtain ⟨c, rfl, _⟩ := h
    rfl
  · obtain ⟨c, rfl, q⟩ := h
    refine ⟨_, (pss_cons (ps_if (pt_cmpR op_eq (pe_op op_mod (pv 0) pe_int) pe_int (nomark _)) (pss_one (ps_ret (pe_op op_add pe_int (pe_op op_mod (pe_op op_fdiv (pv 0) pe_int) pe_int)))) pss_nil)
      (pss_cons (ps_if (pt_cmpR op_eq (pe_op op_mod (pv 0) pe_int) pe_int (nomark _)) (pss_one (ps_ret (pe_callB (call_max2 rfl) (by rfl) B.max (by decide +kernel) (pa_cons pe_int (pa_cons (pe_op op_sub (pe_op op_add (pe_op op_shl pe_int (pe_op op_mod (pe_op op_fdiv (pv 0) pe_int) pe_int)) (pe_op op_mod (pe_op op_fdiv (pv 0) pe_int) pe_int)) pe_int) pa_nil))))) pss_nil)
      (pss_one (ps_ret (pe_op op_add pe_int (pe_op op_mod (pe_op op_fdiv (pv 0) pe_int) (pe_op op_sub (pe_op op_shl pe_int pe_int) pe_int))))))), ?_⟩
    obtain ⟨_, _, e⟩ := num_ok c
    refine q_when (et_test (ev_eq (ev_op (ev_var (v := .int c) rfl) ev_c (rv_mod (by decide))) ev_c)) (fun hb H1 e1 => ?_) (fun hb H1 e1 => ?_)
    · rw [if_pos (of_decide_eq_true hb)] at e
      exact s_ret (ev_is (ev_add ev_c (ev_op (ev_op (ev_var (v := .int c) rfl) ev_c (rv_div (by decide) (by decide))) ev_c (rv_mod (by decide)))) (by rw [e])) fun H2 e2 => q H2 (e1.trans e2)
    · rw [if_neg (of_decide_eq_false hb)] at e
      refine q_when (et_test (ev_eq (ev_op (ev_var (v := .int c) rfl) ev_c (rv_mod (by decide))) ev_c)) (fun hb2 H2 e2 => ?_) (fun hb2 H2 e2 => ?_)
      · rw [if_pos (of_decide_eq_true hb2)] at e
        refine s_ret (ev_is (ev_max2 ev_c (ev_sub (ev_add (ev_shl1 (m := (c / 3 % 40).toNat) (ev_op (ev_op (ev_var (v := .int c) rfl) ev_c (rv_div (by decide) (by decide))) ev_c (rv_mod (by decide))) (by omega) (by omega)) (ev_op (ev_op (ev_var (v := .int c) rfl) ev_c (rv_div (by decide) (by decide))) ev_c (rv_mod (by decide)))) ev_c)) ?_) fun H3 e3 => q H3 ((e1.trans e2).trans e3)
        rw [e]
      · rw [if_neg (of_decide_eq_false hb2)] at e
        refine s_ret (ev_is (ev_add ev_c (ev_op (ev_op (ev_var (v := .int c) rfl) ev_c (rv_div (by decide) (by decide))) (ev_sub (ev_shl1 (m := 40) ev_c rfl (by decide)) ev_c) (rv_mod (by decide)))) ?_) fun H3 e3 => q H3 ((e1.trans e2).trans e3)
        rw [e]
theorem bit_cast (n m : Nat) : ((n / 2 ^ m % 2 : Nat) : Int) = (n : Int) / 2 ^ m % 2 := by
  push_cast
  rfl
theorem bitsV (n l : Nat) : (bitsL n l).map V.int = (List.range l).map fun j => V.int ((n : Int) / 2 ^ (l - 1 - j) % 2) := by
  unfold bitsL
  rw [List.map_map]
  refine List.map_congr_left fun j _ => ?_
  show V.int ((n / 2 ^ (l - 1 - j) % 2 : Nat) : Int) = _
  rw [bit_cast]
theorem repV (n : Nat) (x : Int) : (List.replicate n x).map V.int = (List.range n).map fun _ => V.int x := by
  refine List.ext_getElem (by simp) fun i h1 h2 => by simp
theorem ok_binary {f : Addr} {fd : FuncData} {k : Nat} (F : Fun K "_law_binary" "_law_binary" s_law_binary f fd) (B : Bs mg) : FnOk P w K mg base CX0 (k + 1) f fd ["n"] (spN (fun n => bitsL n (bl n)) fun n => n < 2 ^ 41) := by
  refine F.ok sc_law_binary (fun vs H Q E h => ?_) (fun cdv A outer s H vs Q E hr h => ?_)
  · obtain ⟨n, rfl, _⟩ := h
    rfl
  · obtain ⟨n, rfl, h1, h2, h3, q⟩ := h
    refine ⟨_, (pss_cons (ps_set (i := 1) sc_law_binary.nd rfl (Or.inr rfl) pe_int)
      (pss_cons (ps_for PassesOwn.never rfl (pi_range1 (by rfl) B.range (pa_cons pe_int pa_nil)) (pg_name (i := 2) sc_law_binary.nd rfl (Or.inl rfl)) (pss_one (ps_if (pt_cmpR op_le (pe_op op_shl pe_int (pv 1)) (pv 0) (nomark _)) (pss_one (ps_set (i := 1) sc_law_binary.nd rfl (Or.inr rfl) (pe_op op_add (pv 1) pe_int))) pss_nil)))
      (pss_one (ps_ret (pe_lc rfl sc_law_binary.nd (pi_range1 (by rfl) B.range (pa_cons (pv 1) pa_nil)) (blkOk_by (own := [("k", 2)]) (N := ["n", "width", "k"]) (sc := defScope s_law_binary) (by decide +kernel)) (fun _ _ _ _ _ => (pg_name (i := 2) sc_law_binary.nd rfl (Or.inl rfl))) (fun _ _ _ _ _ => pts_nil) (fun _ _ _ _ _ => (pe_op op_mod (pe_op op_fdivW (pv 0) (pe_op op_shl pe_int (pe_op op_sub (pe_op op_sub (pv 1) pe_int) (pv 2)))) pe_int))))))), ?_⟩
    have hb := bl_le h1 h3
    have hb1 : 1 ≤ bl n := by unfold bl; omega
    refine q_asg (v := .int 1) ev_c fun H1 e1 => ?_
    refine q_forR1 (n := 41) (ea1 ev_c) ⟨by decide, by decide⟩ (fun i σ' H' => ∃ x, σ' = [some (.int (n : Int)), some (.int ((if i + 1 ≤ bl n then i + 1 else bl n : Nat) : Int)), x] ∧ Ex H H') (fun H2 e2 => ⟨none, by rw [if_pos hb1]; rfl, e1.trans e2⟩) ?_ ?_
    · rintro i σ' H' hi ⟨x, rfl, ex⟩
      obtain ⟨c, hc⟩ : ∃ c, c = (if i + 1 ≤ bl n then i + 1 else bl n) := ⟨_, rfl⟩
      rw [← hc]
      have hc2 : c ≤ 41 := by rw [hc]; split <;> omega
      refine s_when (b := decide (c < bl n)) (et_is (et_test (ev_op (ev_shl1 (m := c) (ev_var rfl) rfl (by omega)) (ev_var (v := .int (n : Int)) rfl) rv_I0)) (decide_eq_decide.mpr ?_)) (fun hb2 H2 e2 => ?_) (fun hb2 H2 e2 => ?_)
      · rw [← bl_iff h1]
        constructor
        · intro z
          exact_mod_cast z
        · intro z
          exact_mod_cast z
      · have hlt := of_decide_eq_true hb2
        refine s_asg (v := .int ((c + 1 : Nat) : Int)) (ev_is (ev_add (ev_var (v := .int (c : Int)) rfl) ev_c) (by congr 1)) fun H3 e3 => ⟨some (.int (i : Int)), ?_, (ex.trans e2).trans e3⟩
        have : c = i + 1 := by
          by_cases z : i + 1 ≤ bl n
          · rw [if_pos z] at hc
            exact hc
          · rw [if_neg z] at hc
            omega
        rw [if_pos (by omega), ← this]
        rfl
      · have hge := of_decide_eq_false hb2
        refine ⟨some (.int (i : Int)), ?_, ex.trans e2⟩
        have : c = bl n := by
          by_cases z : i + 1 ≤ bl n
          · rw [if_pos z] at hc
            omega
          · rw [if_neg z] at hc
            exact hc
        rw [this]
        by_cases z : i + 1 + 1 ≤ bl n
        · rw [hc, if_pos (by omega)] at this
          omega
        · rw [if_neg z]
          rfl
    · rintro σ' H' ⟨x, rfl, ex⟩
      have e41 : ((41 : Int)).toNat = 41 := rfl
      rw [e41, if_neg (by omega)]
      refine s_retL (xs := (bitsL n (bl n)).map V.int) ?_ fun p H2 np e2 h2 => q p H2 (fresh_back ex np) (ex.trans e2) h2
      rw [bitsV]
      refine el_lcN _ (ea1 (ev_var rfl)) rfl (by omega) (fun x => rfl) fun j H9 e9 hj => ?_
      exact ev_op (ev_op (ev_var (v := .int (n : Int)) rfl) (ev_shl1 (m := bl n - 1 - j) (ev_sub (ev_sub (ev_var (v := .int (bl n : Int)) rfl) ev_c) (ev_var (v := .int (j : Int)) rfl)) (by omega) (by omega)) (rv_divP (by omega))) ev_c (rv_mod (by decide))
theorem ok_lgamma {f : Addr} {fd : FuncData} {k : Nat} (F : Fun K "_law_gamma" "_law_gamma" s_law_gamma f fd) (B : Bs mg) (C_law_binary : Cal P w K mg base "_law_binary" 1 ["n"] (spN (fun n => bitsL n (bl n)) fun n => n < 2 ^ 41)) : FnOk P w K mg base CX0 (k + 2) f fd ["n"] (spN gam fun n => n < 2 ^ 41) := by
  refine F.ok sc_law_gamma (fun vs H Q E h => ?_) (fun cdv A outer s H vs Q E hr h => ?_)
  · obtain ⟨n, rfl, _⟩ := h
    rfl
  · obtain ⟨n, rfl, h1, h2, h3, q⟩ := h
    refine ⟨_, (pss_cons (ps_set (i := 1) sc_law_gamma.nd rfl (Or.inl rfl) (pe_callC C_law_binary (hr.mono (by omega)) (by rfl) (pa_cons (pv 0) pa_nil)))
      (pss_one (ps_ret (pe_op op_cat (pe_lc rfl sc_law_gamma.nd (pi_range1 (by rfl) B.range (pa_cons (pe_op op_sub (pe_callB call_len_seq (by rfl) B.len PySem.boot_len (pa_cons (pv 1) pa_nil)) pe_int) pa_nil)) (blkOk_by (own := [("k", 2)]) (N := ["n", "row", "k"]) (sc := defScope s_law_gamma) (by decide +kernel)) (fun _ _ _ _ _ => (pg_name (i := 2) sc_law_gamma.nd rfl (Or.inl rfl))) (fun _ _ _ _ _ => pts_nil) (fun _ _ _ _ _ => pe_int)) (pv 1))))), ?_⟩
    have hb := bl_le h1 h3
    have hb1 : 1 ≤ bl n := by unfold bl; omega
    refine q_asgL (el_n (ev_var rfl) h1 h2 h3) fun pr H1 npr e1 hp => ?_
    refine s_retL (xs := (gam n).map V.int) ?_ fun p H2 np e2 h2 => q p H2 (fresh_back e1 np) (e1.trans e2) h2
    unfold gam
    rw [List.map_append, repV]
    refine el_cat (el_lcN _ (ea1 (ev_sub (ev_len (K := K) (ev_var rfl) (sq_of hp)) ev_c)) (by rw [List.length_map, bits_len]; omega) (by omega) (fun x => rfl) fun j H9 e9 hj => ev_c) (ev_var rfl) hp (by rw [List.length_map, List.length_range, List.length_map, bits_len]; omega)
theorem ok_ldelta {f : Addr} {fd : FuncData} {k : Nat} (F : Fun K "_law_delta" "_law_delta" s_law_delta f fd) (B : Bs mg) (C_law_binary : Cal P w K mg base "_law_binary" 1 ["n"] (spN (fun n => bitsL n (bl n)) fun n => n < 2 ^ 41)) (C_law_gamma : Cal P w K mg base "_law_gamma" 2 ["n"] (spN gam fun n => n < 2 ^ 41)) : FnOk P w K mg base CX0 (k + 3) f fd ["n"] (spN dlt fun n => n < 2 ^ 41) := by
  refine F.ok sc_law_delta (fun vs H Q E h => ?_) (fun cdv A outer s H vs Q E hr h => ?_)
  · obtain ⟨n, rfl, _⟩ := h
    rfl
  · obtain ⟨n, rfl, h1, h2, h3, q⟩ := h
    refine ⟨_, (pss_cons (ps_set (i := 1) sc_law_delta.nd rfl (Or.inl rfl) (pe_callC C_law_binary (hr.mono (by omega)) (by rfl) (pa_cons (pv 0) pa_nil)))
      (pss_one (ps_ret (pe_op op_cat (pe_callC C_law_gamma (hr.mono (by omega)) (by rfl) (pa_cons (pe_callB call_len_seq (by rfl) B.len PySem.boot_len (pa_cons (pv 1) pa_nil)) pa_nil)) (pe_slice sl_list (pv 1) (po_some pe_int) po_none))))), ?_⟩
    have hb := bl_le h1 h3
    have hb1 : 1 ≤ bl n := by unfold bl; omega
    refine q_asgL (el_n (ev_var rfl) h1 h2 h3) fun pr H1 npr e1 hp => ?_
    refine s_retL (xs := (dlt n).map V.int) ?_ fun p H2 np e2 h2 => q p H2 (fresh_back e1 np) (e1.trans e2) h2
    unfold dlt
    rw [List.map_append]
    have hd : (bitsL n (bl n - 1)).map V.int = cutV ((bitsL n (bl n)).map V.int) (some ((1 : Nat) : Int)) none := by
      rw [cutV_from, ← List.map_drop, bits_top h1]
      rfl
    have hl1 := bl_le hb1 (show bl n < 2 ^ 7 by omega)
    rw [hd]
    exact el_catLL (el_n (ev_is (ev_len (K := K) (ev_var rfl) (sq_of hp)) (by rw [List.length_map, bits_len])) hb1 (by omega) (by omega)) (el_sl (ev_var rfl) (eo_some ev_c) eo_none (sq_of hp)) (by
      rw [← hd, List.length_map, List.length_map, gam_len, bits_len]
      omega)
theorem ok_lrice {f : Addr} {fd : FuncData} {k : Nat} (F : Fun K "_law_rice" "_law_rice" s_law_rice f fd) (B : Bs mg) : FnOk P w K mg base CX0 (k + 1) f fd ["k", "n"] spRic := by
  refine F.ok sc_law_rice (fun vs H Q E h => ?_) (fun cdv A outer s H vs Q E hr h => ?_)
  · obtain ⟨k, n, rfl, _⟩ := h
    rfl
  · obtain ⟨k, n, rfl, hk, hq, q⟩ := h
    refine ⟨_, (pss_one (ps_ret (pe_op op_cat (pe_op op_cat (pe_lc rfl sc_law_rice.nd (pi_range1 (by rfl) B.range (pa_cons (pe_op op_fdivW (pv 1) (pe_op op_shl pe_int (pv 0))) pa_nil)) (blkOk_by (own := [("j", 2)]) (N := ["k", "n", "j"]) (sc := defScope s_law_rice) (by decide +kernel)) (fun _ _ _ _ _ => (pg_name (i := 2) sc_law_rice.nd rfl (Or.inl rfl))) (fun _ _ _ _ _ => pts_nil) (fun _ _ _ _ _ => pe_int)) (pe_lst (pa_cons pe_int pa_nil))) (pe_lc rfl sc_law_rice.nd (pi_range1 (by rfl) B.range (pa_cons (pv 0) pa_nil)) (blkOk_by (own := [("j", 2)]) (N := ["k", "n", "j"]) (sc := defScope s_law_rice) (by decide +kernel)) (fun _ _ _ _ _ => (pg_name (i := 2) sc_law_rice.nd rfl (Or.inl rfl))) (fun _ _ _ _ _ => pts_nil) (fun _ _ _ _ _ => (pe_op op_mod (pe_op op_fdivW (pv 1) (pe_op op_shl pe_int (pe_op op_sub (pe_op op_sub (pv 0) pe_int) (pv 2)))) pe_int)))))), ?_⟩
    refine s_retL (xs := (ric k n).map V.int) ?_ q
    unfold ric
    rw [List.map_append, List.map_append, repV, bitsV]
    refine el_catLL (el_catLL (el_lcN _ (ea1 (ev_op (ev_var (v := .int (n : Int)) rfl) (ev_shl1 (m := k) (ev_var rfl) rfl (by omega)) (rv_divP (by omega)))) (by push_cast; rfl) (by omega) (fun x => rfl) fun j H9 e9 hj => ev_c) (el_lst (ea1 ev_c) (by show 1 ≤ 100000; decide)) (by rw [List.length_map, List.length_range]; show _ + 1 ≤ 100000; omega)) (el_lcN _ (ea1 (ev_var rfl)) rfl (by omega) (fun x => rfl) fun j H9 e9 hj => ?_) (by
      rw [List.length_append, List.length_map, List.length_range, List.length_map, List.length_map, List.length_range]
      show _ + 1 + _ ≤ 100000
      omega)
    exact ev_op (ev_op (ev_var (v := .int (n : Int)) rfl) (ev_shl1 (m := k - 1 - j) (ev_sub (ev_sub (ev_var (v := .int (k : Int)) rfl) ev_c) (ev_var (v := .int (j : Int)) rfl)) (by omega) (by omega)) (rv_divP (by omega))) ev_c (rv_mod (by decide))
end
end K14
set_option Elab.async false
set_option linter.all false
set_option maxRecDepth 100000
set_option maxHeartbeats 4000000
namespace K14
open PySem PySem.Spec PyProof.Rows L2 StX GX KC Evl KX KQ M15 M01 M14
theorem F62 : M14.F 60 = 4052739537881 := by decide +kernel
theorem m_le {n m : Nat} (hn : n < 2 ^ 41) (h1 : M14.F (m - 1) ≤ n) : m ≤ 61 := by
  rcases Nat.lt_or_ge m 62 with z | z
  · omega
  · have := F_mono (show 60 ≤ m - 1 by omega)
    rw [F62] at this
    omega
section
variable {P : Program} {w : World} {K : PySem.W.Frag} {mg : Str → Option Value} {base : Heap} {σ : L2.St} {H H' : Hp} {CI CT : Addr} {D : Ends} {ta tb te : TE}
theorem ok_lfib {f : Addr} {fd : FuncData} {k : Nat} (F : Fun K "_law_fibonacci" "_law_fibonacci" s_law_fibonacci f fd) (B : Bs mg) : FnOk P w K mg base CX0 (k + 1) f fd ["n"] spFib := by
  refine F.ok sc_law_fibonacci (fun vs H Q E h => ?_) (fun cdv A outer s H vs Q E hr h => ?_)
  · obtain ⟨n, m, rfl, _⟩ := h
    rfl
  · obtain ⟨n, m, rfl, hm, hm2, h1, h2, q⟩ := h
    refine ⟨_, (pss_cons (ps_set (i := 1) sc_law_fibonacci.nd rfl (Or.inl rfl) (pe_lst (pa_cons pe_int (pa_cons pe_int pa_nil))))
      (pss_cons (ps_for PassesOwn.never rfl (pi_range1 (by rfl) B.range (pa_cons pe_int pa_nil)) (pg_name (i := 2) sc_law_fibonacci.nd rfl (Or.inl rfl)) (pss_one (ps_expr (pe_bm PySem.F.plainAttrs_list PySem.F.slot_list_append PySem.F.type_list_append mt_append (pv 1) (pa_cons (pe_op op_add (pe_ix ix_list (pv 1) (pe_op op_sub (pe_callB call_len_seq (by rfl) B.len PySem.boot_len (pa_cons (pv 1) pa_nil)) pe_int) (fun _ _ => rfl)) (pe_ix ix_list (pv 1) (pe_op op_sub (pe_callB call_len_seq (by rfl) B.len PySem.boot_len (pa_cons (pv 1) pa_nil)) pe_int) (fun _ _ => rfl))) pa_nil)))))
      (pss_cons (ps_set (i := 3) sc_law_fibonacci.nd rfl (Or.inl rfl) (pe_lst pa_nil))
      (pss_cons (ps_set (i := 4) sc_law_fibonacci.nd rfl (Or.inl rfl) pe_bl)
      (pss_cons (ps_for PassesOwn.never rfl (pi_range1 (by rfl) B.range (pa_cons (pe_callB call_len_seq (by rfl) B.len PySem.boot_len (pa_cons (pv 1) pa_nil)) pa_nil)) (pg_name (i := 5) sc_law_fibonacci.nd rfl (Or.inl rfl)) (pss_cons (ps_set (i := 6) sc_law_fibonacci.nd rfl (Or.inl rfl) (pe_ix ix_list (pv 1) (pe_op op_sub (pe_op op_sub (pe_callB call_len_seq (by rfl) B.len PySem.boot_len (pa_cons (pv 1) pa_nil)) pe_int) (pv 5)) (fun _ _ => rfl)))
      (pss_one (ps_if (pt_cmpR op_le (pv 6) (pv 0) (nomark _)) (pss_cons (ps_set (i := 4) sc_law_fibonacci.nd rfl (Or.inl rfl) pe_bl)
      (pss_cons (ps_set (i := 0) sc_law_fibonacci.nd rfl (Or.inl rfl) (pe_op op_sub (pv 0) (pv 6)))
      (pss_one (ps_set (i := 3) sc_law_fibonacci.nd rfl (Or.inl rfl) (pe_op op_cat (pe_lst (pa_cons pe_int pa_nil)) (pv 3)))))) (pss_one (ps_if (pt_val (pv 4)) (pss_one (ps_set (i := 3) sc_law_fibonacci.nd rfl (Or.inl rfl) (pe_op op_cat (pe_lst (pa_cons pe_int pa_nil)) (pv 3)))) pss_nil))))))
      (pss_one (ps_ret (pe_op op_cat (pv 3) (pe_lst (pa_cons pe_int pa_nil)))))))))), ?_⟩
    refine q_asgL (xs := [.int 1, .int 2]) (el_lst (ea2 ev_c ev_c) (by show 2 ≤ 100000; decide)) fun pt H1 npt e1 ht => ?_
    refine q_forR1 (n := 60) (ea1 ev_c) ⟨by decide, by decide⟩ (fun i σ' H' => ∃ x, σ' = [some (.int (n : Int)), some (.ref pt), x, none, none, none, none] ∧ Ex H H' ∧ H' pt = some (.lst ((List.range (i + 2)).map fun i => V.int (M14.F i : Int)))) (fun H2 e2 => ⟨none, rfl, e1.trans e2, e2 _ _ ht⟩) ?_ ?_
    · rintro i σ' H' hi ⟨x, rfl, ex, hp⟩
      have hlen : ∀ {H9 : Hp}, Ex H' H9 → Ev (tCB (Evl.rLenS K) (tCons (tVar 1) tNil)) [some (.int (n : Int)), some (.ref pt), some (.int (i : Int)), none, none, none, none] H9 (.int ((i + 2 : Nat) : Int)) := fun e => ev_is (ev_len (K := K) (ev_var (v := .ref pt) rfl) (sq_of (e _ _ hp))) (by rw [List.length_map, List.length_range])
      have hat : ∀ {H9 : Hp} {te : TE} {j : Nat} {z : Int}, Ex H' H9 → j < i + 2 → Ev te [some (.int (n : Int)), some (.ref pt), some (.int (i : Int)), none, none, none, none] H9 (.int z) → z = (j : Int) → Ev (tOp (rIxL K) (tVar 1) te) [some (.int (n : Int)), some (.ref pt), some (.int (i : Int)), none, none, none, none] H9 (.int (M14.F j : Int)) := fun e hj h ez => ev_op (ev_var (v := .ref pt) rfl) h (rv_ixL (sq_of (e _ _ hp)) (at_of ez (by rw [List.getElem?_map, List.getElem?_range hj]; rfl)))
      refine s_app hp (ev_var rfl) (ev_add (hat (j := i + 1) (Ex.refl _) (by omega) (ev_sub (hlen (Ex.refl _)) ev_c) (by omega)) (hat (j := i) (Ex.refl _) (by omega) (ev_sub (hlen (Ex.refl _)) ev_c) (by omega))) (by rw [List.length_map, List.length_range]; omega) fun H2 e2 => ⟨_, rfl, Ex.mut (ex.trans e2) npt, ?_⟩
      rw [upd_same, List.range_succ (n := i + 2), List.map_append]
      have : (M14.F (i + 1) : Int) + (M14.F i : Int) = (M14.F (i + 1 + 1) : Int) := by
        have := F_succ i
        omega
      rw [this]
      rfl
    · rintro σ' H2 ⟨x, rfl, ex, hp⟩
      have e62 : ((60 : Int)).toNat + 2 = 62 := rfl
      rw [e62] at hp
      refine q_asgL (xs := []) (el_lst ea_nil (by decide)) fun pb H3 npb e3 hb => ?_
      refine q_asg (v := .bl false) ev_c fun H4 e4 => ?_
      have e24 := e3.trans e4
      have hp4 := e24 _ _ hp
      refine q_forR1 (n := 62) (ea1 (ev_is (ev_len (K := K) (ev_var (v := .ref pt) rfl) (sq_of hp4)) (by rw [List.length_map, List.length_range]; rfl))) ⟨by decide, by decide⟩
        (fun i σ' H' => ∃ (d : List Int) (r : Nat) (pb : Addr) (y z : Option V), σ' = [some (.int (r : Int)), some (.ref pt), x, some (.ref pb), some (.bl (decide (62 - i < m))), y, z] ∧ Ex H2 H' ∧ H' pb = some (.lst (d.reverse.map V.int)) ∧ zd m n = d ++ zd (min (62 - i) m) r ∧ (m ≤ 62 - i → r = n))
        (fun H5 e5 => ⟨[], n, pb, none, none, by rw [decide_eq_false (show ¬ 62 - 0 < m by omega)]; rfl, e24.trans e5, (e4.trans e5) _ _ hb, by rw [Nat.min_eq_right (by omega)]; rfl, fun _ => rfl⟩) ?_ ?_
      · rintro i σ' H' hi ⟨d, r, pb, y, z, rfl, ex2, hpb, hz, hr⟩
        have hi62 : i < 62 := by omega
        obtain ⟨t, ht⟩ : ∃ t, 62 - i = t + 1 := ⟨61 - i, by omega⟩
        have ht2 : 62 - (i + 1) = t := by omega
        rw [ht] at hz hr
        have hp' := ex2 _ _ hp
        refine q_asg (v := .int (M14.F t : Int)) (ev_op (ev_var (v := .ref pt) rfl) (ev_sub (ev_sub (ev_is (ev_len (K := K) (ev_var (v := .ref pt) rfl) (sq_of hp')) (by rw [List.length_map, List.length_range])) ev_c) (ev_var (v := .int (i : Int)) rfl)) (rv_ixL (sq_of hp') (at_of (j := t) (by omega) (by rw [List.getElem?_map, List.getElem?_range (by omega)]; rfl)))) fun H5 e5 => ?_
        have e05 := ex2.trans e5
        have hdl : d.length + min (t + 1) m = m := by
          have := congrArg List.length hz
          rw [zd_len, List.length_append, zd_len] at this
          omega
        refine s_if (b := decide (M14.F t ≤ r)) (et_is (et_test (ev_op (ev_var (v := .int (M14.F t : Int)) rfl) (ev_var (v := .int (r : Int)) rfl) rv_I0)) (decide_eq_decide.mpr (by omega))) (fun hb2 H6 e6 => ?_) (fun hb2 H6 e6 => ?_)
        · have hle := of_decide_eq_true hb2
          have htm : t < m := by
            rcases Nat.lt_or_ge t m with y | y
            · exact y
            · rw [hr (by omega)] at hle
              exact (F_below h1 h2 hm).mp hle
          rw [Nat.min_eq_left (by omega)] at hz
          refine q_asg (v := .bl true) ev_c fun H7 e7 => ?_
          refine q_asg (v := .int ((r - M14.F t : Nat) : Int)) (ev_is (ev_sub (ev_var (v := .int (r : Int)) rfl) (ev_var (v := .int (M14.F t : Int)) rfl)) (by congr 1; omega)) fun H8 e8 => ?_
          have e58 := ((e5.trans e6).trans e7).trans e8
          refine s_asgL (xs := (d ++ [1]).reverse.map V.int) ?_ fun p2 H9 np2 e9 h9 => ⟨d ++ [1], r - M14.F t, p2, some (.int (i : Int)), some (.int (M14.F t : Int)), ?_, (ex2.trans e58).trans e9, h9, ?_, fun z => absurd z (by omega)⟩
          · rw [List.reverse_append, List.map_append]
            exact el_cat (el_lst (ea1 ev_c) (by show 1 ≤ 100000; decide)) (ev_var rfl) (e58 _ _ hpb) (by simp; omega)
          · rw [ht2, decide_eq_true htm]
            rfl
          · rw [ht2, Nat.min_eq_left (by omega), hz]
            show d ++ (if M14.F t ≤ r then _ else _) = _
            rw [if_pos hle]
            simp
        · have hgt := of_decide_eq_false hb2
          refine s_when (b := decide (t + 1 < m)) (et_is (et_B (ev_var (v := .bl (decide (62 - i < m))) rfl)) (by rw [ht])) (fun hb3 H7 e7 => ?_) (fun hb3 H7 e7 => ?_)
          · have htm := of_decide_eq_true hb3
            rw [Nat.min_eq_left (by omega)] at hz
            have e57 := (e5.trans e6).trans e7
            refine s_asgL (xs := (d ++ [0]).reverse.map V.int) ?_ fun p2 H9 np2 e9 h9 => ⟨d ++ [0], r, p2, some (.int (i : Int)), some (.int (M14.F t : Int)), ?_, (ex2.trans e57).trans e9, h9, ?_, fun z => absurd z (by omega)⟩
            · rw [List.reverse_append, List.map_append]
              exact el_cat (el_lst (ea1 ev_c) (by show 1 ≤ 100000; decide)) (ev_var rfl) (e57 _ _ hpb) (by simp; omega)
            · rw [ht2, ht, decide_eq_true (show t < m by omega), decide_eq_true htm]
              rfl
            · rw [ht2, Nat.min_eq_left (by omega), hz]
              show d ++ (if M14.F t ≤ r then _ else _) = _
              rw [if_neg hgt]
              simp
          · have htm : m ≤ t + 1 := by have := of_decide_eq_false hb3; omega
            have hrn := hr htm
            have htm2 : m ≤ t := by
              rcases Nat.lt_or_ge t m with y | y
              · rw [hrn] at hgt
                exact absurd ((F_below h1 h2 hm).mpr y) hgt
              · exact y
            refine ⟨d, r, pb, some (.int (i : Int)), some (.int (M14.F t : Int)), ?_, ex2.trans ((e5.trans e6).trans e7), ((e5.trans e6).trans e7) _ _ hpb, ?_, fun _ => hrn⟩
            · rw [ht2, ht, decide_eq_false (show ¬ t < m by omega), decide_eq_false (show ¬ t + 1 < m by omega)]
              rfl
            · rw [ht2, Nat.min_eq_right htm2, hz, Nat.min_eq_right htm]
      · rintro σ' H' ⟨d, r, pb, y, z, rfl, ex2, hpb, hz, hr⟩
        have e620 : min (62 - ((62 : Int)).toNat) m = 0 := by
          have : ((62 : Int)).toNat = 62 := rfl
          omega
        rw [e620] at hz
        have hz2 : zd m n = d := by rw [hz]; exact List.append_nil d
        refine s_retL (xs := (fibc m n).map V.int) ?_ fun p2 H3 np e3 h3 => q p2 H3 (fresh_back (ex.trans ex2) np) ((ex.trans ex2).trans e3) h3
        unfold fibc
        rw [hz2, List.map_append]
        have hd : d.length = m := by rw [← hz2, zd_len]
        exact el_cat3 (ev_var rfl) hpb (el_lst (ea1 ev_c) (by show 1 ≤ 100000; decide)) (by simp; omega)
noncomputable def fm (n : Nat) : Nat := if h : 1 ≤ n then Classical.choose (exists_mf n h) else 0
theorem fm_ok {n : Nat} (h : 1 ≤ n) : 1 ≤ fm n ∧ M14.F (fm n - 1) ≤ n ∧ n < M14.F (fm n) := by
  unfold fm
  rw [dif_pos h]
  exact Classical.choose_spec (exists_mf n h)
noncomputable def fc (n : Nat) : List Int := fibc (fm n) n
noncomputable def cs (n k : Nat) : List (List Int) := [gam n, dlt n, fc n, ric k (n % (200 * 2 ^ k))]
theorem el_fib {E : XK} {n : Nat} (h1 : Ev ta σ H (.int (n : Int))) (h : 1 ≤ n) (h2 : n < 2 ^ 41) : EvL (tCall spFib [] E (tCons ta tNil)) σ H ((fc n).map V.int) := by
  obtain ⟨a, b, c⟩ := fm_ok h
  exact el_call (vs := [.int (n : Int)]) (ea1 h1) fun H1 e1 Q q E => ⟨n, fm n, rfl, a, by have := m_le h2 b; omega, b, c, q⟩
theorem el_ric {E : XK} {n k : Nat} {x y : Int} (h1 : Ev ta σ H (.int x)) (h2 : Ev tb σ H (.int y)) (ex : x = (k : Int)) (ey : y = (n : Int)) (hk : k ≤ 100) (hn : n / 2 ^ k ≤ 1000) : EvL (tCall spRic [] E (tCons ta (tCons tb tNil))) σ H ((ric k n).map V.int) := by
  subst ex
  subst ey
  exact el_call (vs := [.int (k : Int), .int (n : Int)]) (ea2 h1 h2) fun H1 e1 Q q E => ⟨k, n, rfl, hk, hn, q⟩
theorem small_lt (n k : Nat) : n % (200 * 2 ^ k) / 2 ^ k ≤ 1000 := by
  have hp : 0 < 2 ^ k := Nat.pow_pos (by decide)
  have h := Nat.mod_lt n (show 0 < 200 * 2 ^ k by omega)
  have : n % (200 * 2 ^ k) / 2 ^ k < 200 := (Nat.div_lt_iff_lt_mul hp).mpr h
  omega
theorem ev_small {n k : Nat} (h1 : Ev ta σ H (.int (n : Int))) (h2 : Ev tb σ H (.int (k : Int))) (hk : k ≤ 100) : Ev (tOp (rI (fun _ j => 0 < j) fun i j => .int (i % j)) ta (tOp (rI CMul fun i j => .int (i * j)) (tC (.int 200)) (tOp (rI CPow fun i j => .int (i * 2 ^ j.toNat)) (tC (.int 1)) tb))) σ H (.int ((n % (200 * 2 ^ k) : Nat) : Int)) := by
  have hp : (0 : Int) < 2 ^ k := Int.pow_pos (by decide)
  refine ev_is (ev_op h1 (ev_op (ev_c (v := .int 200)) (ev_shl1 h2 rfl (by omega)) (rv_mul (by decide))) (rv_mod (by omega))) ?_
  push_cast
  rfl
def spAll : Sp := fun vs H Q _ => ∃ n k : Nat, vs = [.int (n : Int), .int (k : Int)] ∧ 1 ≤ n ∧ n < 2 ^ 40 ∧ k ≤ 20 ∧ ∀ p H2, H p = none → Ex H H2 → LL H2 p (cs n k) → Q (.ref p) H2
theorem ok_all {f : Addr} {fd : FuncData} {k : Nat} (F : Fun K "_law_all" "_law_all" s_law_all f fd) (B : Bs mg) (C_gamma_bits : Cal P w K mg base "gamma_bits" 2 ["n"] (spN gam fun _ => True)) (C_delta_bits : Cal P w K mg base "delta_bits" 3 ["n"] (spN dlt fun _ => True)) (C_fibonacci_bits : Cal P w K mg base "fibonacci_bits" 2 ["n"] spFib) (C_rice_bits : Cal P w K mg base "rice_bits" 2 ["k", "n"] spRic) :
    FnOk P w K mg base CX0 (k + 4) f fd ["n", "k"] spAll := by
  refine F.ok sc_law_all (fun vs H Q E h => ?_) (fun cdv A outer s H vs Q E hr h => ?_)
  · obtain ⟨n, k, rfl, _⟩ := h
    rfl
  · obtain ⟨n, k, rfl, h1, h2, hk, q⟩ := h
    refine ⟨_, (pss_one (ps_ret (pe_lst (pa_cons (pe_callC C_gamma_bits (hr.mono (by omega)) (by rfl) (pa_cons (pv 0) pa_nil)) (pa_cons (pe_callC C_delta_bits (hr.mono (by omega)) (by rfl) (pa_cons (pv 0) pa_nil)) (pa_cons (pe_callC C_fibonacci_bits (hr.mono (by omega)) (by rfl) (pa_cons (pv 0) pa_nil)) (pa_cons (pe_callC C_rice_bits (hr.mono (by omega)) (by rfl) (pa_cons (pv 1) (pa_cons (pe_op op_mod (pv 0) (pe_op op_mul pe_int (pe_op op_shl pe_int (pv 1)))) pa_nil))) pa_nil))))))), ?_⟩
    have h100 : n < 2 ^ 100 := Nat.lt_trans h2 (by decide)
    exact s_retP (ep_lst4L (el_n (ev_var rfl) h1 h100 True.intro) (el_n (ev_var rfl) h1 h100 True.intro) (el_fib (ev_var rfl) h1 (by omega)) (el_ric (ev_var rfl) (ev_small (ev_var rfl) (ev_var rfl) (by omega)) rfl rfl (by omega) (small_lt n k))) fun v H1 e1 ⟨p, ev, np, hp⟩ => by
      subst ev
      exact q p H1 np e1 hp
end
end K14
set_option Elab.async false
set_option linter.all false
set_option maxRecDepth 100000
set_option maxHeartbeats 4000000
namespace K14
open PySem PySem.Spec PyProof.Rows L2 StX GX KC Evl KX KQ M15 M01 M14
def rdK (i k : Nat) (bs : List Int) (a : Nat) : RI := if i = 0 then rdGamma bs a else if i = 1 then rdDelta bs a else if i = 2 then rdFib bs a else rdRice k bs a
def vN (i n k : Nat) : Nat := if i = 3 then n % (200 * 2 ^ k) else n
noncomputable def cN (i n k : Nat) : List Int := (cs n k).getD i []
theorem cN_at {i n k : Nat} (h : i < 4) : (cs n k)[i]? = some (cN i n k) := by
  unfold cN
  match i, h with
  | 0, _ => rfl
  | 1, _ => rfl
  | 2, _ => rfl
  | 3, _ => rfl
theorem read_code {i n k a : Nat} {bs rest : List Int} (hi : i < 4) (h1 : 1 ≤ n) (h2 : n < 2 ^ 40) (h : bs.drop a = cN i n k ++ rest) (ha : a ≤ bs.length) : rdK i k bs a = .ok (vN i n k : Int) (a + (cN i n k).length) := by
  match i, hi with
  | 0, _ =>
    have h41 : n < 2 ^ 41 := by omega
    exact gamma_at h1 h41 h ha
  | 1, _ => exact delta_at h1 h2 h ha
  | 2, _ =>
    obtain ⟨x, y, z⟩ := fm_ok h1
    exact fib_at x y z h
  | 3, _ => exact rice_at h ha
theorem code_01 (i n k : Nat) : Bit01 (cN i n k) := by
  have hz : ∀ m, Bit01 (List.replicate m (0 : Int)) := fun m b hb => .inl (List.eq_of_mem_replicate hb)
  have ho : ∀ m, Bit01 (List.replicate m (1 : Int)) := fun m b hb => .inr (List.eq_of_mem_replicate hb)
  have hg : ∀ m, Bit01 (gam m) := fun m => (hz _).app (bits_01 _ _)
  have h1 : Bit01 [(1 : Int)] := fun b hb => .inr (List.mem_singleton.mp hb)
  have h0 : Bit01 [(0 : Int)] := fun b hb => .inl (List.mem_singleton.mp hb)
  unfold cN cs
  match i with
  | 0 => exact hg n
  | 1 => exact (hg _).app (bits_01 _ _)
  | 2 => exact (show Bit01 (zd (fm n) n).reverse from fun b hb => zd_01 _ _ b (List.mem_reverse.mp hb)).app h1
  | 3 => exact ((ho _).app h0).app (bits_01 _ _)
  | j + 4 => exact fun b hb => absurd (show b ∈ ([] : List Int) from hb) List.not_mem_nil
theorem code_len {i n k : Nat} (hi : i < 4) (h1 : 1 ≤ n) (h2 : n < 2 ^ 40) (hk : k ≤ 20) : (cN i n k).length ≤ 1100 := by
  have hb := bl_le h1 h2
  have hbb : bl (bl n) ≤ 7 := bl_le (by unfold bl; omega) (by omega)
  match i, hi with
  | 0, _ =>
    show (gam n).length ≤ _
    rw [gam_len]
    omega
  | 1, _ =>
    show (dlt n).length ≤ _
    unfold dlt
    rw [List.length_append, gam_len, bits_len]
    omega
  | 2, _ =>
    obtain ⟨x, y, z⟩ := fm_ok h1
    have := m_le (by omega) y
    show (fibc (fm n) n).length ≤ _
    unfold fibc
    rw [List.length_append, List.length_reverse, zd_len]
    show fm n + 1 ≤ 1100
    omega
  | 3, _ =>
    have := small_lt n k
    show (ric k _).length ≤ _
    unfold ric
    rw [List.length_append, List.length_append, List.length_replicate, bits_len]
    show _ + 1 + _ ≤ 1100
    omega
/-- a code that begins another one -/
theorem pre_code {i n m k : Nat} (hi : i < 4) (h1 : 1 ≤ n) (h2 : n < 2 ^ 40) (g1 : 1 ≤ m) (g2 : m < 2 ^ 40) : (cN i m k).take (cN i n k).length = cN i n k ↔ vN i n k = vN i m k := by
  have key : ∀ (n : Nat) (rest : List Int), 1 ≤ n → n < 2 ^ 40 → rdK i k (cN i n k ++ rest) 0 = .ok (vN i n k : Int) (0 + (cN i n k).length) := fun n rest a b => read_code hi a b rfl (Nat.zero_le _)
  have same : vN i n k = vN i m k → cN i n k = cN i m k := fun e => by
    match i, hi, e with
    | 0, _, e => rw [show n = m from e]
    | 1, _, e => rw [show n = m from e]
    | 2, _, e => rw [show n = m from e]
    | 3, _, e =>
      have e2 : n % (200 * 2 ^ k) = m % (200 * 2 ^ k) := e
      show ric k _ = ric k _
      rw [e2]
  constructor
  · intro e
    have x1 := key n ((cN i m k).drop (cN i n k).length) h1 h2
    have x2 := key m [] g1 g2
    have x3 : cN i n k ++ (cN i m k).drop (cN i n k).length = cN i m k := by
      conv => lhs; lhs; rw [← e]
      exact List.take_append_drop _ _
    rw [x3] at x1
    rw [List.append_nil, x1] at x2
    injection x2 with y _
    omega
  · intro e
    rw [same e, List.take_of_length_le (Nat.le_refl _)]
section
variable {P : Program} {w : World} {K : PySem.W.Frag} {mg : Str → Option Value} {base : Heap} {σ : L2.St} {H H' : Hp} {CI CT : Addr} {D : Ends} {ta tb te : TE}
def spLaw (K : PySem.W.Frag) : Sp := fun vs H Q _ => ∃ (a : Addr) (ns : List Int), vs = [.ref a] ∧ SqL K H a (ns.map V.int) ∧ ns.length ≤ 63 ∧ ∀ H2, Q (.bl true) H2
theorem ok_law {f : Addr} {fd : FuncData} {k : Nat} (F : Fun K "law" "law" s_law f fd) (B : Bs mg) (C_law_cell : Cal P w K mg base "_law_cell" 1 ["script", "k"] (spCell K)) (C_law_number : Cal P w K mg base "_law_number" 1 ["cell"] spNum) (C_law_gamma : Cal P w K mg base "_law_gamma" 2 ["n"] (spN gam fun n => n < 2 ^ 41)) (C_law_delta : Cal P w K mg base "_law_delta" 3 ["n"] (spN dlt fun n => n < 2 ^ 41))
    (C_law_fibonacci : Cal P w K mg base "_law_fibonacci" 1 ["n"] spFib) (C_law_rice : Cal P w K mg base "_law_rice" 1 ["k", "n"] spRic) (C_law_all : Cal P w K mg base "_law_all" 4 ["n", "k"] spAll)
    (C_read_gamma : CalX P w K mg base "read_gamma" 5 ["bits", "at"] (spRead K CI CT rdGamma)) (C_read_delta : CalX P w K mg base "read_delta" 6 ["bits", "at"] (spRead K CI CT rdDelta)) (C_read_fibonacci : CalX P w K mg base "read_fibonacci" 3 ["bits", "at"] (spRead K CI CT rdFib)) (C_read_rice : CalX P w K mg base "read_rice" 5 ["k", "bits", "at"] (spRice K CI CT)) :
    FnOk P w K mg base CX0 (k + 7) f fd ["script"] (spLaw K) := by
  refine F.ok sc_law (fun vs H Q E h => ?_) (fun cdv A outer s H vs Q E hr h => ?_)
  · obtain ⟨a, ns, rfl, _⟩ := h
    rfl
  · obtain ⟨a0, ns, rfl, hs, hns, q⟩ := h
    have hu64 : (A.deeper (envOfC "law" (defScope s_law) s.heap.objs.size f cdv)).units + 64 < cLine := by
      have := hr.un
      omega
    refine ⟨_, (pss_cons (ps_set (i := 1) sc_law.nd rfl (Or.inl rfl) (pe_callC C_law_cell (hr.mono (by omega)) (by rfl) (pa_cons (pv 0) (pa_cons pe_int pa_nil))))
      (pss_cons (ps_set (i := 2) sc_law.nd rfl (Or.inl rfl) (pe_op op_mod (pv 1) pe_int))
      (pss_cons (ps_set (i := 3) sc_law.nd rfl (Or.inl rfl) (pe_callC C_law_number (hr.mono (by omega)) (by rfl) (pa_cons (pe_callC C_law_cell (hr.mono (by omega)) (by rfl) (pa_cons (pv 0) (pa_cons pe_int pa_nil))) pa_nil)))
      (pss_cons (ps_set (i := 4) sc_law.nd rfl (Or.inl rfl) (pe_callC C_law_number (hr.mono (by omega)) (by rfl) (pa_cons (pe_callC C_law_cell (hr.mono (by omega)) (by rfl) (pa_cons (pv 0) (pa_cons pe_int pa_nil))) pa_nil)))
      (pss_cons (ps_set (i := 5) sc_law.nd rfl (Or.inl rfl) (pe_op op_mod (pv 3) (pe_op op_mul pe_int (pe_op op_shl pe_int (pv 2)))))
      (pss_cons (ps_set (i := 6) sc_law.nd rfl (Or.inl rfl) (pe_lst (pa_cons (pe_callC C_law_gamma (hr.mono (by omega)) (by rfl) (pa_cons (pv 3) pa_nil)) (pa_cons (pe_callC C_law_delta (hr.mono (by omega)) (by rfl) (pa_cons (pv 3) pa_nil)) (pa_cons (pe_callC C_law_fibonacci (hr.mono (by omega)) (by rfl) (pa_cons (pv 3) pa_nil)) (pa_cons (pe_callC C_law_rice (hr.mono (by omega)) (by rfl) (pa_cons (pv 2) (pa_cons (pv 5) pa_nil))) pa_nil))))))
      (pss_cons (ps_set (i := 7) sc_law.nd rfl (Or.inl rfl) (pe_callC C_law_all (hr.mono (by omega)) (by rfl) (pa_cons (pv 3) (pa_cons (pv 2) pa_nil))))
      (pss_cons (ps_if (pt_cmpR (op_neD hu64) (pv 7) (pv 6) (nomark _)) (pss_one (ps_ret pe_bl)) pss_nil)
      (pss_cons (ps_setLc (i := 8) rfl sc_law.nd rfl rfl (sw_true rfl rfl rfl (by decide +kernel)) (pi_list (pe_slice sl_list (pv 0) (po_some pe_int) (po_some pe_int))) (blkOk_by (own := [("one", 9)]) (N := ["script", "cell", "k", "first", "other", "small", "due", "found", "before", "one", "behind", "at", "turn", "bits", "stop", "told", "codes", "same"]) (sc := defScope s_law) (by decide +kernel)) (fun _ _ _ _ _ => (pg_name (i := 9) sc_law.nd rfl (Or.inl rfl))) (fun _ _ _ _ _ => pts_nil) (fun _ _ _ _ _ => (pe_op op_mod (pe_callTy call_int1 (by rfl) B.int (by decide +kernel) (pa_cons (pv 9) pa_nil)) pe_int)))
      (pss_cons (ps_setLc (i := 10) rfl sc_law.nd rfl rfl (sw_true rfl rfl rfl (by decide +kernel)) (pi_list (pe_slice sl_list (pv 0) (po_some pe_int) (po_some pe_int))) (blkOk_by (own := [("one", 9)]) (N := ["script", "cell", "k", "first", "other", "small", "due", "found", "before", "one", "behind", "at", "turn", "bits", "stop", "told", "codes", "same"]) (sc := defScope s_law) (by decide +kernel)) (fun _ _ _ _ _ => (pg_name (i := 9) sc_law.nd rfl (Or.inl rfl))) (fun _ _ _ _ _ => pts_nil) (fun _ _ _ _ _ => (pe_op op_mod (pe_callTy call_int1 (by rfl) B.int (by decide +kernel) (pa_cons (pv 9) pa_nil)) pe_int)))
      (pss_cons (ps_set (i := 11) sc_law.nd rfl (Or.inl rfl) (pe_callB call_len_seq (by rfl) B.len PySem.boot_len (pa_cons (pv 8) pa_nil)))
      (pss_cons (ps_for PassesOwn.never rfl (pi_range1 (by rfl) B.range (pa_cons pe_int pa_nil)) (pg_name (i := 12) sc_law.nd rfl (Or.inl rfl)) (pss_cons (ps_set (i := 13) sc_law.nd rfl (Or.inl rfl) (pe_op op_cat (pe_op op_cat (pv 8) (pe_ix ix_list (pv 6) (pv 12) (fun _ _ => rfl))) (pv 10)))
      (pss_cons (ps_set (i := 14) sc_law.nd rfl (Or.inl rfl) (pe_op op_add (pv 11) (pe_callB call_len_seq (by rfl) B.len PySem.boot_len (pa_cons (pe_ix ix_list (pv 6) (pv 12) (fun _ _ => rfl)) pa_nil))))
      (pss_cut (ps_if (pt_cmpR op_eq (pv 12) pe_int (nomark _)) (pss_one (ps_set (i := 15) sc_law.nd rfl (Or.inl rfl) (pe_callX C_read_gamma (hr.mono (by omega)) (by rfl) passE0 (pa_cons (pv 13) (pa_cons (pv 11) pa_nil))))) (pss_one (ps_if (pt_cmpR op_eq (pv 12) pe_int (nomark _)) (pss_one (ps_set (i := 15) sc_law.nd rfl (Or.inl rfl) (pe_callX C_read_delta (hr.mono (by omega)) (by rfl) passE0 (pa_cons (pv 13) (pa_cons (pv 11) pa_nil))))) (pss_one (ps_if (pt_cmpR op_eq (pv 12) pe_int (nomark _)) (pss_one (ps_set (i := 15) sc_law.nd rfl (Or.inl rfl) (pe_callX C_read_fibonacci (hr.mono (by omega)) (by rfl) passE0 (pa_cons (pv 13) (pa_cons (pv 11) pa_nil))))) (pss_one (ps_set (i := 15) sc_law.nd rfl (Or.inl rfl) (pe_callX C_read_rice (hr.mono (by omega)) (by rfl) passE0 (pa_cons (pv 2) (pa_cons (pv 13) (pa_cons (pv 11) pa_nil)))))))))))
      (pss_one (ps_if (pt_cmpR (op_neD hu64) (pv 15) (pe_tup (pa_cons (pe_ix ix_list (pe_lst (pa_cons (pv 3) (pa_cons (pv 3) (pa_cons (pv 3) (pa_cons (pv 5) pa_nil))))) (pv 12) (fun _ _ => rfl)) (pa_cons (pv 14) pa_nil))) (nomark _)) (pss_one (ps_ret pe_bl)) pss_nil))))))
      (pss_cons (ps_set (i := 16) sc_law.nd rfl (Or.inl rfl) (pe_callC C_law_all (hr.mono (by omega)) (by rfl) (pa_cons (pv 4) (pa_cons (pv 2) pa_nil))))
      (pss_cons (ps_set (i := 17) sc_law.nd rfl (Or.inl rfl) (pe_lst (pa_cons (pe_cmpR op_eq (pv 3) (pv 4) (nomark _)) (pa_cons (pe_cmpR op_eq (pv 3) (pv 4) (nomark _)) (pa_cons (pe_cmpR op_eq (pv 3) (pv 4) (nomark _)) (pa_cons (pe_cmpR op_eq (pv 5) (pe_op op_mod (pv 4) (pe_op op_mul pe_int (pe_op op_shl pe_int (pv 2)))) (nomark _)) pa_nil))))))
      (pss_cons (ps_for PassesOwn.never rfl (pi_range1 (by rfl) B.range (pa_cons pe_int pa_nil)) (pg_name (i := 12) sc_law.nd rfl (Or.inl rfl)) (pss_one (ps_if (pt_cmpR op_ne (pe_cmpR (op_eqD hu64) (pe_slice sl_list (pe_ix ix_list (pv 16) (pv 12) (fun _ _ => rfl)) po_none (po_some (pe_callB call_len_seq (by rfl) B.len PySem.boot_len (pa_cons (pe_ix ix_list (pv 7) (pv 12) (fun _ _ => rfl)) pa_nil)))) (pe_ix ix_list (pv 7) (pv 12) (fun _ _ => rfl)) (nomark _)) (pe_ix ix_list (pv 17) (pv 12) (fun _ _ => rfl)) (nomark _)) (pss_one (ps_ret pe_bl)) pss_nil)))
      (pss_one (ps_ret pe_bl))))))))))))))))), ?_⟩
    refine q_asg (ev_call (vs := [.ref a0, .int 1]) (ea2 (ev_var rfl) ev_c) (spv_cell (j := 1) hs rfl)) fun H1 e1 => ?_
    generalize ns.getD 1 0 = c1
    obtain ⟨kk, hkk, hk20⟩ : ∃ kk : Nat, c1 % 21 = (kk : Int) ∧ kk ≤ 20 := ⟨(c1 % 21).toNat, by omega, by omega⟩
    refine q_asg (v := .int (kk : Int)) (ev_is (ev_op (ev_var (v := .int c1) rfl) ev_c (rv_mod (by decide))) (by rw [hkk])) fun H2 e2 => ?_
    have e02 := e1.trans e2
    have num : ∀ {σ : L2.St} {H9 : Hp} {j : Nat} {z : Int}, Ex H H9 → σ[0]? = some (some (.ref a0)) → z = (j : Int) → Ev (tCall spNum [] E0 (tCons (tCall (spCell K) [] E0 (tCons (tVar 0) (tCons (tC (.int z)) tNil))) tNil)) σ H9 (.int (numOf (ns.getD j 0) : Int)) := fun e h0 ez => ev_call (vs := [.int (ns.getD _ 0)]) (ea1 (ev_call (vs := [.ref a0, .int _]) (ea2 (ev_var h0) ev_c) (spv_cell (ex_l e hs) ez))) fun H1 e1 Q q E => ⟨_, rfl, q⟩
    refine q_asg (num (j := 0) e02 rfl rfl) fun H3 e3 => ?_
    have e03 := e02.trans e3
    refine q_asg (num (j := 2) e03 rfl rfl) fun H4 e4 => ?_
    have e04 := e03.trans e4
    obtain ⟨n1, n2, _⟩ := num_ok (ns.getD 0 0)
    obtain ⟨m1, m2, _⟩ := num_ok (ns.getD 2 0)
    generalize numOf (ns.getD 0 0) = n at n1 n2
    generalize numOf (ns.getD 2 0) = m at m1 m2
    refine q_asg (v := .int ((n % (200 * 2 ^ kk) : Nat) : Int)) (ev_small (ev_var rfl) (ev_var rfl) (by omega)) fun H5 e5 => ?_
    have e05 := e04.trans e5
    have hn100 : n < 2 ^ 100 := Nat.lt_trans n2 (by decide)
    refine q_asgP (ep_lst4L (el_n (ev_var rfl) n1 hn100 (by omega)) (el_n (ev_var rfl) n1 hn100 (by omega)) (el_fib (ev_var rfl) n1 (by omega)) (el_ric (ev_var rfl) (ev_var rfl) rfl rfl (by omega) (small_lt n kk))) fun v H6 e6 ⟨pd, ev, npd, hd⟩ => ?_
    subst ev
    have hd : LL H6 pd (cs n kk) := hd
    refine q_asgP (R := fun v H' => ∃ p, v = .ref p ∧ LL H' p (cs n kk)) (ep_call (vs := [.int (n : Int), .int (kk : Int)]) (ea2 (ev_var rfl) (ev_var rfl)) fun H7 e7 Q q => ⟨n, kk, rfl, n1, n2, hk20, fun p H8 np e8 h8 => q _ H8 e8 ⟨p, rfl, h8⟩⟩) fun v H7 e7 ⟨pf, ev, hf⟩ => ?_
    subst ev
    have e07 := (e05.trans e6).trans e7
    have hd7 := hd.ext e7
    refine q_when (b := false) (et_is (et_test (ev_neD (K := K) (ed_at (ev_var rfl) hf.dp) (ed_at (ev_var rfl) hd7.dp) (ll_shaped _) (ll_shaped _))) (by rw [ll_eqv]; rfl)) (fun z => by cases z) fun _ H8 e8 => ?_
    have e08 := e07.trans e8
    -- before, behind
    have bitsOf : ∀ {H9 : Hp} {σ : L2.St} {lo hi : Int} {j : Nat} {vs : List Nat}, Ex H H9 → σ[0]? = some (some (.ref a0)) → (∀ x, wipe ((wipe σ vs).set j (some x)) vs = wipe σ vs) → (∀ x, ((wipe σ vs).set j (some x))[j]? = some (some x)) → ∃ ys : List Int, Bit01 ys ∧ ys.length ≤ 63 ∧
        EvL (tLc (iList K (tSl (rSlL K) (tVar 0) (tPart (tC (.int lo))) (tPart (tC (.int hi))))) (gName j) tYes (tOp (rI (fun _ j => 0 < j) fun i j => .int (i % j)) (tCB (fun xs H Q => (∃ i, xs = [.int i] ∧ Q (.int i) H) ∨ ∃ k, xs = [.bl k] ∧ Q (.int (if k then 1 else 0)) H) (tCons (tVar j) tNil)) (tC (.int 2))) vs) σ H9 (ys.map V.int) := fun {H9 σ lo hi j vs} e h0 hw hv => by
      obtain ⟨ys, hy1, hy2, _⟩ := cutV_ints ns (some lo) (some hi)
      refine ⟨ys.map fun x => x % 2, fun b hb => ?_, by rw [List.length_map]; omega, ?_⟩
      · obtain ⟨x, _, rfl⟩ := List.mem_map.mp hb
        omega
      · refine el_lcMap (fun x => x % 2) ?_ (by omega) hw fun x H1 hx e1 => ev_op (ev_cb (ea1 (ev_var (v := .int x) (hv _))) rc_int) ev_c (rv_mod (by decide))
        rw [← hy1]
        exact el_sl (ev_var h0) (eo_some ev_c) (eo_some ev_c) (ex_l e hs)
    obtain ⟨xs, hx01, hxl, hxs⟩ := bitsOf (σ := [some (.ref a0), some (.int c1), some (.int (kk : Int)), some (.int (n : Int)), some (.int (m : Int)), some (.int ((n % (200 * 2 ^ kk) : Nat) : Int)), some (.ref pd), some (.ref pf), none, none, none, none, none, none, none, none, none, none]) (lo := 3) (hi := 9) (j := 9) (vs := [9]) e08 rfl (fun x => rfl) fun x => rfl
    refine q_asgL hxs fun px H9 npx e9 hx => ?_
    have e09 := e08.trans e9
    obtain ⟨ys, hy01, hyl, hys⟩ := bitsOf (σ := [some (.ref a0), some (.int c1), some (.int (kk : Int)), some (.int (n : Int)), some (.int (m : Int)), some (.int ((n % (200 * 2 ^ kk) : Nat) : Int)), some (.ref pd), some (.ref pf), some (.ref px), none, none, none, none, none, none, none, none, none]) (lo := 9) (hi := 20) (j := 9) (vs := [9]) e09 rfl (fun x => rfl) fun x => rfl
    refine q_asgL hys fun py H10 npy e10 hy => ?_
    have hx10 := e10 _ _ hx
    refine q_asg (v := .int (xs.length : Int)) (len_is (ev_var rfl) (sq_of hx10)) fun H11 e11 => ?_
    have hx11 := e11 _ _ hx10
    have hy11 := e11 _ _ hy
    have e811 := (e9.trans e10).trans e11
    have hd11 := hd7.ext (e8.trans e811)
    have hf11 := hf.ext (e8.trans e811)
    refine q_forR1 (n := 4) (ea1 ev_c) ⟨by decide, by decide⟩ (fun i σ' H' => ∃ x12 x13 x14 x15, Ex H11 H' ∧ σ' = [some (.ref a0), some (.int c1), some (.int (kk : Int)), some (.int (n : Int)), some (.int (m : Int)), some (.int ((n % (200 * 2 ^ kk) : Nat) : Int)), some (.ref pd), some (.ref pf), some (.ref px), none, some (.ref py), some (.int (xs.length : Int)), x12, x13, x14, x15, none, none]) (fun H12 e12 => ⟨none, none, none, none, e12, rfl⟩) ?_ ?_
    · rintro i σ' H' hi ⟨x12, x13, x14, x15, ex, rfl⟩
      have hi4 : i < 4 := by omega
      obtain ⟨r, hr, hix⟩ := (hd11.ext ex).at_ (K := K) (cN_at (n := n) (k := kk) hi4)
      have hcl := code_len hi4 n1 n2 hk20
      have hc01 := code_01 i n kk
      refine q_asgL (xs := (xs ++ cN i n kk ++ ys).map V.int) (by
        rw [List.map_append, List.map_append]
        exact el_cat (el_cat2 (ev_var rfl) (ex _ _ hx11) (hix (Ex.refl _) (ev_var rfl) (ev_var (v := .int (i : Int)) rfl) rfl) hr (by rw [List.length_map, List.length_map]; omega)) (ev_var rfl) (ex _ _ hy11) (by rw [List.length_append, List.length_map, List.length_map, List.length_map]; omega)) fun pb H12 npb e12 hb => ?_
      refine q_asg (v := .int ((xs.length + (cN i n kk).length : Nat) : Int)) (ev_is (ev_add (ev_var (v := .int (xs.length : Int)) rfl) (len_is (hix e12 (ev_var rfl) (ev_var (v := .int (i : Int)) rfl) rfl) (sq_of (e12 _ _ hr)))) (by congr 1)) fun H13 e13 => ?_
      have hb13 := e13 _ _ hb
      have hread := read_code (k := kk) (bs := xs ++ cN i n kk ++ ys) (a := xs.length) (rest := ys) hi4 n1 n2 (by rw [List.append_assoc, List.drop_left]) (by rw [List.length_append, List.length_append]; omega)
      have hbl : (xs ++ cN i n kk ++ ys).length ≤ 10000 := by rw [List.length_append, List.length_append]; omega
      have hb01 : Bit01 (xs ++ cN i n kk ++ ys) := (hx01.app hc01).app hy01
      have hal : xs.length ≤ (xs ++ cN i n kk ++ ys).length := by rw [List.length_append, List.length_append]; omega
      generalize xs ++ cN i n kk ++ ys = bs at *
      generalize (cN i n kk).length = cl at *
      refine q_cut (M := fun σ' H' => ∃ pt, Ex H13 H' ∧ H' pt = some (.tup [.int (vN i n kk : Int), .int ((xs.length + cl : Nat) : Int)]) ∧ σ' = [some (.ref a0), some (.int c1), some (.int (kk : Int)), some (.int (n : Int)), some (.int (m : Int)), some (.int ((n % (200 * 2 ^ kk) : Nat) : Int)), some (.ref pd), some (.ref pf), some (.ref px), none, some (.ref py), some (.int (xs.length : Int)), some (.int (i : Int)), some (.ref pb), some (.int ((xs.length + cl : Nat) : Int)), some (.ref pt), none, none]) ?_ ?_
      · refine s_if (b := decide (i = 0)) (et_is (et_test (ev_eq (ev_var (v := .int (i : Int)) rfl) ev_c)) (decide_eq_decide.mpr (by omega))) (fun hb2 H14 e14 => ?_) (fun hb2 H14 e14 => ?_)
        · have hi0 := of_decide_eq_true hb2
          unfold rdK at hread
          rw [if_pos hi0] at hread
          refine s_unpX (g := gName 15) (vs := [.ref pb, .int (xs.length : Int)]) (ea2 (ev_var rfl) (ev_var rfl)) fun H15 e15 => ⟨pb, bs, xs.length, rfl, sq_of ((e14.trans e15) _ _ hb13), hbl, hb01, hal, ?_⟩
          rw [hread]
          exact fun p H16 np e16 h16 => ⟨p, (e14.trans e15).trans e16, h16, rfl⟩
        · refine s_if (b := decide (i = 1)) (et_is (et_test (ev_eq (ev_var (v := .int (i : Int)) rfl) ev_c)) (decide_eq_decide.mpr (by omega))) (fun hb3 H15 e15 => ?_) (fun hb3 H15 e15 => ?_)
          · have hi1 := of_decide_eq_true hb3
            unfold rdK at hread
            rw [if_neg (by omega), if_pos hi1] at hread
            refine s_unpX (g := gName 15) (vs := [.ref pb, .int (xs.length : Int)]) (ea2 (ev_var rfl) (ev_var rfl)) fun H16 e16 => ⟨pb, bs, xs.length, rfl, sq_of (((e14.trans e15).trans e16) _ _ hb13), hbl, hb01, hal, ?_⟩
            rw [hread]
            exact fun p H17 np e17 h17 => ⟨p, ((e14.trans e15).trans e16).trans e17, h17, rfl⟩
          · refine s_if (b := decide (i = 2)) (et_is (et_test (ev_eq (ev_var (v := .int (i : Int)) rfl) ev_c)) (decide_eq_decide.mpr (by omega))) (fun hb4 H16 e16 => ?_) (fun hb4 H16 e16 => ?_)
            · have hi2 := of_decide_eq_true hb4
              unfold rdK at hread
              rw [if_neg (by omega), if_neg (by omega), if_pos hi2] at hread
              refine s_unpX (g := gName 15) (vs := [.ref pb, .int (xs.length : Int)]) (ea2 (ev_var rfl) (ev_var rfl)) fun H17 e17 => ⟨pb, bs, xs.length, rfl, sq_of ((((e14.trans e15).trans e16).trans e17) _ _ hb13), hbl, hb01, hal, ?_⟩
              rw [hread]
              exact fun p H18 np e18 h18 => ⟨p, (((e14.trans e15).trans e16).trans e17).trans e18, h18, rfl⟩
            · have h0 := of_decide_eq_false hb2
              have h1 := of_decide_eq_false hb3
              have h2 := of_decide_eq_false hb4
              unfold rdK at hread
              rw [if_neg h0, if_neg h1, if_neg h2] at hread
              refine s_unpX (g := gName 15) (vs := [.int (kk : Int), .ref pb, .int (xs.length : Int)]) (ea3 (ev_var rfl) (ev_var rfl) (ev_var rfl)) fun H17 e17 => ⟨pb, bs, xs.length, kk, rfl, sq_of ((((e14.trans e15).trans e16).trans e17) _ _ hb13), hbl, hb01, hal, by omega, ?_⟩
              rw [hread]
              exact fun p H18 np e18 h18 => ⟨p, (((e14.trans e15).trans e16).trans e17).trans e18, h18, rfl⟩
      · rintro σ' H14 ⟨pt, e14, ht, rfl⟩
        have hD : ∀ x y : Int, SeqAt.shaped (.tuple [.int x, .int y]) = true := fun x y => by
          show (PyData.canLay0 _ && decide (PyData.depth _ ≤ 64)) = true
          simp [PyData.canLay0, PyData.canLayAll0, PyData.depth, PyData.depthAll]
        refine s_when (b := false) (et_is (et_test (ev_neD (K := K) (ed_at (ev_var (v := .ref pt) rfl) (.tup (st_of ht) (.cons (.int _) (.cons (.int _) .nil)))) (ed_tup (ds := [.int (vN i n kk : Int), .int ((xs.length + cl : Nat) : Int)]) (eda_cons (ed_ixNew (j := i) (ds := [.int (n : Int), .int (n : Int), .int (n : Int), .int ((n % (200 * 2 ^ kk) : Nat) : Int)]) (eda_cons (ed_int (ev_var rfl)) (eda_cons (ed_int (ev_var rfl)) (eda_cons (ed_int (ev_var rfl)) (eda_cons (ed_int (ev_var rfl)) eda_nil)))) (by show 4 ≤ 100000; decide) (ev_var (v := .int (i : Int)) rfl) rfl ?_) (eda_cons (ed_int (ev_var rfl)) eda_nil)) (by show 2 ≤ 100000; decide)) (hD _ _) (hD _ _))) ?_) (fun z => by cases z) fun _ H15 e15 => ⟨_, _, _, _, (((ex.trans e12).trans e13).trans e14).trans e15, rfl⟩
        · unfold vN
          match i, hi4 with
          | 0, _ => rfl
          | 1, _ => rfl
          | 2, _ => rfl
          | 3, _ => rfl
        · simp [PyData.eqv, PyData.eqvAll]
    · rintro σ' H12 ⟨x12, x13, x14, x15, ex, rfl⟩
      refine q_asgP (R := fun v H' => ∃ p, v = .ref p ∧ LL H' p (cs m kk)) (ep_call (vs := [.int (m : Int), .int (kk : Int)]) (ea2 (ev_var rfl) (ev_var rfl)) fun H7 e7 Q q => ⟨m, kk, rfl, m1, m2, hk20, fun p H8 np e8 h8 => q _ H8 e8 ⟨p, rfl, h8⟩⟩) fun v H13 e13 ⟨pc, ev, hc⟩ => ?_
      subst ev
      have hsame : ∀ i, i < 4 → ([V.bl (decide ((n : Int) = (m : Int))), .bl (decide ((n : Int) = (m : Int))), .bl (decide ((n : Int) = (m : Int))), .bl (decide (((n % (200 * 2 ^ kk) : Nat) : Int) = ((m % (200 * 2 ^ kk) : Nat) : Int)))])[i]? = some (.bl (decide (vN i n kk = vN i m kk))) := fun i hi => by
        have c : ∀ a b : Nat, decide ((a : Int) = (b : Int)) = decide (a = b) := fun a b => decide_eq_decide.mpr (by omega)
        rw [c, c]
        unfold vN
        match i, hi with
        | 0, _ => rfl
        | 1, _ => rfl
        | 2, _ => rfl
        | 3, _ => rfl
      refine q_asgL (el_lst (ea_cons (ev_eq (ev_var (v := .int (n : Int)) rfl) (ev_var (v := .int (m : Int)) rfl)) (ea3 (ev_eq (ev_var (v := .int (n : Int)) rfl) (ev_var (v := .int (m : Int)) rfl)) (ev_eq (ev_var (v := .int (n : Int)) rfl) (ev_var (v := .int (m : Int)) rfl)) (ev_eq (ev_var (v := .int ((n % (200 * 2 ^ kk) : Nat) : Int)) rfl) (ev_small (ev_var (v := .int (m : Int)) rfl) (ev_var rfl) (by omega))))) (by show 4 ≤ 100000; decide)) fun ps H14 nps e14 hsm => ?_
      have hf14 := hf11.ext ((ex.trans e13).trans e14)
      have hc14 := hc.ext e14
      refine q_forR1 (n := 4) (ea1 ev_c) ⟨by decide, by decide⟩ (fun i σ' H' => ∃ x, Ex H14 H' ∧ σ' = [some (.ref a0), some (.int c1), some (.int (kk : Int)), some (.int (n : Int)), some (.int (m : Int)), some (.int ((n % (200 * 2 ^ kk) : Nat) : Int)), some (.ref pd), some (.ref pf), some (.ref px), none, some (.ref py), some (.int (xs.length : Int)), x, x13, x14, x15, some (.ref pc), some (.ref ps)]) (fun H15 e15 => ⟨x12, e15, rfl⟩) ?_ ?_
      · rintro i σ' H' hi ⟨x, ex2, rfl⟩
        have hi4 : i < 4 := by omega
        obtain ⟨rc, hrc, hixc⟩ := (hc14.ext ex2).at_ (K := K) (cN_at (n := m) (k := kk) hi4)
        obtain ⟨rf, hrf, hixf⟩ := (hf14.ext ex2).at_ (K := K) (cN_at (n := n) (k := kk) hi4)
        have hpre := pre_code (k := kk) hi4 n1 n2 m1 m2
        refine s_when (b := false) (et_is (et_test (ev_op (x := .bl (decide (vN i n kk = vN i m kk))) (y := .bl (decide (vN i n kk = vN i m kk))) (ev_is (ev_eqD (K := K) (ed_listI (ns := (cN i m kk).take (cN i n kk).length) ?_) (ed_at (hixf (Ex.refl _) (ev_var rfl) (ev_var (v := .int (i : Int)) rfl) rfl) (dp_listI (sq_of hrf))) (shaped_ints _) (shaped_ints _)) ?_) (ev_op (ev_var (v := .ref ps) rfl) (ev_var (v := .int (i : Int)) rfl) (rv_ixL (sq_of (ex2 _ _ hsm)) (at_of rfl (hsame i hi4)))) (rv_ne rfl))) (by simp)) (fun z => by cases z) fun _ H15 e15 => ⟨_, ex2.trans e15, rfl⟩
        · rw [List.map_take, ← cutV_to]
          exact el_sl (hixc (Ex.refl _) (ev_var rfl) (ev_var (v := .int (i : Int)) rfl) rfl) eo_none (eo_some (len_is (hixf (Ex.refl _) (ev_var rfl) (ev_var (v := .int (i : Int)) rfl) rfl) (sq_of hrf))) (sq_of hrc)
        · simp only [PyData.eqv]
          rw [eqvAll_ints]
          congr 1
          exact decide_eq_decide.mpr hpre
      · rintro σ' H15 ⟨x, ex2, rfl⟩
        exact s_ret ev_c fun H16 _ => q H16
end
end K14
set_option Elab.async false
set_option linter.all false
set_option maxRecDepth 100000
set_option maxHeartbeats 4000000
/-! The end of a law: the head's heap, the script, tables of code objects followed as TabX. -/
namespace KC
open PySem PySem.Spec PyProof.Rows L2 GX Evl
def tabO : Obj := { cls := .none, data := .fields #[] }
/-- tables that stand empty in h, out of the frozen part, of known code objects -/
structure Tbs (K : PySem.W.Frag) (h : Heap) (cs : List (Addr × Addr)) : Prop where
  emp : ∀ p ∈ cs, h.get? p.2 = some tabO
  out : ∀ p ∈ cs, K.lookup p.2 = none
  cod : ∀ p ∈ cs, PySem.W.CodeHd h p.1 p.2
structure Hd0 (K : PySem.W.Frag) (mg mb : Str → Option Value) (s : Shared) : Prop where
  kin : K.In s.heap
  glo : s.heap.Ns mainGlobals mg
  blt : s.heap.Ns builtinsNs mb
  boo : ∀ y : Str, y ≠ "__name__" → mb y = bootBuiltins y
  lim : s.heap.NoLimit
  gen : s.gens = #[]
  bmo : ∃ (bm : Addr) (o : Obj), mg "__builtins__" = some (.ref bm) ∧ bm ≠ builtinsNs ∧ s.heap.get? bm = some o ∧ o.cls = .type "module" ∧ o.dict = some builtinsNs ∧ o.data = .plain
/-- the start: the tables, and the script where it is not frozen -/
def H0 (cs : List (Addr × Addr)) (a : Addr) (u : Option HO) : Hp := fun b => if b ∈ cs.map Prod.snd then some (TabX b) else if b = a then u else none
theorem h0_tab {cs : List (Addr × Addr)} {a b : Addr} {u : Option HO} (m : b ∈ cs.map Prod.snd) : H0 cs a u b = some (TabX b) := if_pos m
theorem h0_a {cs : List (Addr × Addr)} {a : Addr} {u : Option HO} (m : a ∉ cs.map Prod.snd) : H0 cs a u a = u := (if_neg m).trans (if_pos rfl)
theorem h0_no {cs : List (Addr × Addr)} {a b : Addr} {u : Option HO} (m : b ∉ cs.map Prod.snd) (n : b ≠ a) : H0 cs a u b = none := (if_neg m).trans (if_neg n)
section
variable {P : Program} {w : World} {K : PySem.W.Frag} {mg mb : Str → Option Value} {CX : CXT} {s : Shared} {cs : List (Addr × Addr)} {a : Addr} {u : Option HO} {vs : List Value}
theorem Tbs.at_ {h : Heap} (T : Tbs K h cs) {b : Addr} (m : b ∈ cs.map Prod.snd) : h.get? b = some tabO := by
  obtain ⟨p, hp, rfl⟩ := List.mem_map.mp m
  exact T.emp p hp
/-- an object that is neither a list nor a table is not followed -/
theorem h0_free (T : Tbs K s.heap cs) (ha : s.heap.get? a = some { cls := .type "list", data := .seq vs.toArray }) {b : Addr} {o : Obj} (e : s.heap.get? b = some o) (d1 : ∀ xs k, o.data ≠ .seq xs k) (d2 : o.data ≠ .fields #[]) : H0 cs a u b = none := by
  refine h0_no (fun m => ?_) fun z => ?_
  · have q := T.at_ m
    rw [e] at q
    exact d2 (by rw [Option.some.inj q] <;> rfl)
  · subst z
    rw [e] at ha
    exact d1 _ _ (congrArg Obj.data (Option.some.inj ha))
theorem dict_free {o : Obj} {es : Array DictEntry} {ep : Nat} (d : o.data = .dict es ep) : (∀ xs k, o.data ≠ .seq xs k) ∧ o.data ≠ .fields #[] := by
  rw [d]
  exact ⟨fun _ _ z => (nomatch z), fun z => (nomatch z)⟩
theorem plain_free {o : Obj} (d : o.data = .plain) : (∀ xs k, o.data ≠ .seq xs k) ∧ o.data ≠ .fields #[] := by
  rw [d]
  exact ⟨fun _ _ z => (nomatch z), fun z => (nomatch z)⟩
/-- the ground under the law's def -/
structure Grd (P : Program) (w : World) (K : PySem.W.Frag) (mg : Str → Option Value) (cs : List (Addr × Addr)) (H : Hp) (s : Shared) : Prop where
  env : Env0 P w K mg (hidT s.heap H) callerA [] s H
  kin : K.In (hidT s.heap H)
  glo : (hidT s.heap H).Ns mainGlobals mg
  tab : ∀ p ∈ cs, GxR.TabB (hidT s.heap H) mg p.1 p.2
theorem grd_of (D : Hd0 K mg mb s) (T : Tbs K s.heap cs) (ha : s.heap.get? a = some { cls := .type "list", data := .seq vs.toArray }) (hu : u ≠ none → K.lookup a = none) (ok : HOk P w (H0 cs a u) s.heap) : Grd P w K mg cs (H0 cs a u) s := by
  have down : ∀ {b : Addr} {o : Obj}, s.heap.get? b = some o → (∀ xs k, o.data ≠ .seq xs k) ∧ o.data ≠ .fields #[] → (hidT s.heap (H0 cs a u)).get? b = some o := fun e d => hidT_get e (h0_free T ha e d.1 d.2)
  have ns : ∀ {b : Addr} {m : Str → Option Value}, s.heap.Ns b m → (hidT s.heap (H0 cs a u)).Ns b m := fun x => by
    obtain ⟨o, es, ep, e, d, r⟩ := x
    exact ⟨o, es, ep, down e (dict_free d), d, r⟩
  have kin : K.In (hidT s.heap (H0 cs a u)) := fun b o e => by
    refine hidT_get (D.kin b o e) ?_
    by_cases m : b ∈ cs.map Prod.snd
    · obtain ⟨p, hp, rfl⟩ := List.mem_map.mp m
      rw [T.out p hp] at e
      cases e
    · by_cases z : b = a
      · subst z
        rw [h0_a m]
        cases hu1 : u with
        | none => rfl
        | some v =>
          rw [hu (by rw [hu1]; exact Option.some_ne_none v)] at e
          cases e
      · exact h0_no m z
  refine ⟨⟨rfl, ⟨kin, ns D.glo, ⟨mb, ns D.blt, D.boo⟩, ?_⟩, fun b o e => of_hidT e, Nat.le_of_eq (hidT_size _ _), trivial, fun b hb => absurd (show b ∈ ([] : List Addr) from hb) List.not_mem_nil, ok, .of_eq D.gen⟩, kin, ns D.glo, fun p hp => ⟨?_, ?_, fun z => ?_⟩⟩
  · obtain ⟨mc, n1, n2⟩ := D.lim
    exact ⟨mc, ns n1, n2⟩
  · obtain ⟨o, us, f1, f2, f3, f4, f5, f6, f7, e, c1, c2, c3, rest⟩ := T.cod p hp
    refine ⟨o, us, f1, f2, f3, f4, f5, f6, f7, down e ?_, c1, c2, c3, rest⟩
    rw [c2]
    refine ⟨fun _ _ z => (nomatch z), fun z => ?_⟩
    have z' : us = #[] := by injection z
    rw [z'] at c3
    simp at c3
  · obtain ⟨bm, o, b1, b2, b3, b4, b5, b6⟩ := D.bmo
    have g1 : bm ≠ mainGlobals := fun z => by
      obtain ⟨og, es, ep, e, d, _⟩ := D.glo
      rw [← z, b3] at e
      rw [← Option.some.inj e, b6] at d
      cases d
    have g2 : bm ≠ p.2 := fun z => by
      have q := T.emp p hp
      rw [← z, b3] at q
      rw [Option.some.inj q] at b6
      cases b6
    exact ⟨bm, o, b1, b2, g1, g2, down b3 (plain_free b6), b4, b5, b6⟩
  · obtain ⟨og, es, ep, e, d, _⟩ := D.glo
    have q := T.emp p hp
    rw [← z, e] at q
    rw [Option.some.inj q] at d
    cases d
/-- the law is called with its script -/
theorem law_callX {k : Nat} {fa : Addr} {fd : FuncData} {x : Str} {sp : Sp} {ns : List Int} (D : Hd0 K mg mb s) (T : Tbs K s.heap cs) (ha : s.heap.get? a = some { cls := .type "list", data := .seq vs.toArray }) (hi : IntsAre vs ns) (hl : ns.length ≤ sizeLine) (hr : Room k callerA)
    (ok : ∀ base : Heap, K.In base → base.Ns mainGlobals mg → (∀ p ∈ cs, GxR.TabB base mg p.1 p.2) → FnOk P w K mg base CX k fa fd [x] sp) (bd : ∀ (s : Shared) (v : Value), BindsTo s fd ⟨[v], []⟩ [(x, v)])
    (hsp : ∀ H : Hp, (∀ p ∈ cs, H p.2 = some (TabX p.2)) → SqL K H a (ns.map V.int) → sp [.ref a] H (fun v H' => v = .bl true ∧ ∀ p ∈ cs, H' p.2 = some (TabX p.2)) fun _ _ _ => False)
    (hx : ∀ H e s', CX [] H s (fun _ _ _ => False) e s' → False) :
    codeAny (model P w) callerA (.call (.ref fa) ⟨[.ref a], []⟩) (fun r s' => r = .ok (.ret (.bool true)) ∧ OldK s.heap s'.heap ∧ s'.os = s.os ∧ AllBare s'.gens) s := by
  have rv := vals_ints hi
  have anot : a ∉ cs.map Prod.snd := fun m => by
    have q := T.at_ m
    rw [ha] at q
    have q2 := congrArg Obj.data (Option.some.inj q)
    cases q2
  have tabs : ∀ {u : Option HO}, ∀ p ∈ cs, H0 cs a u p.2 = some (TabX p.2) := fun p hp => h0_tab (List.mem_map.mpr ⟨p, hp, rfl⟩)
  -- whatever is followed of the script
  have go : ∀ u : Option HO, (u = none ∨ u = some (.frz { cls := .type "list", data := .seq vs.toArray } (.lst (ns.map V.int)))) → (u ≠ none → K.lookup a = none) → SqL K (H0 cs a u) a (ns.map V.int) →
      codeAny (model P w) callerA (.call (.ref fa) ⟨[.ref a], []⟩) (fun r s' => r = .ok (.ret (.bool true)) ∧ OldK s.heap s'.heap ∧ s'.os = s.os ∧ AllBare s'.gens) s := fun u hu hk hs => by
    have hok : HOk P w (H0 cs a u) s.heap := fun b o e => by
      by_cases m : b ∈ cs.map Prod.snd
      · rw [h0_tab m] at e
        cases e
        exact tabx_ok (T.at_ m) (show TriplesOk [] from trivial)
      · by_cases z : b = a
        · subst z
          rw [h0_a m] at e
          rcases hu with rfl | rfl
          · cases e
          · cases e
            exact ⟨ha, by rw [List.length_map]; exact hl, vs, 0, rv, ha⟩
        · rw [h0_no m z] at e
          cases e
    have G := grd_of (u := u) D T ha hk hok
    refine codeAny_mono ((ok _ G.kin G.glo G.tab).run callerA [] s _ ⟨[.ref a], []⟩ [.ref a] [.ref a] _ _ hr G.env (bd s (.ref a)) (.cons rfl .nil) (hsp _ tabs hs)) fun r s' h => ?_
    match r, h with
    | .error e, h => exact (hx _ e s' h).elim
    | .ok .next, h => exact False.elim h
    | .ok .brk, h => exact False.elim h
    | .ok .cont, h => exact False.elim h
    | .ok (.ret v0), h =>
      obtain ⟨v, H', os, bare, un, hok', r', q, qt⟩ := h
      subst q
      obtain rfl : v0 = Value.bool true := r'
      have same : ∀ b o, b ∉ cs.map Prod.snd → s.heap.get? b = some o → s'.heap.get? b = some o := fun b o m e => by
        by_cases z : b = a
        · subst z
          rcases hu with rfl | rfl
          · exact un.keep b o e (h0_a m) List.not_mem_nil List.not_mem_nil
          · have f2 := hok' b _ (un.frzs b _ _ (h0_a m))
            rw [ha] at e
            rw [← Option.some.inj e]
            exact f2.1
        · exact un.keep b o e (h0_no m z) List.not_mem_nil List.not_mem_nil
      have grew : ∀ p ∈ cs, ∃ more : Array Value, s'.heap.get? p.2 = some { cls := .none, data := .fields more } := fun p hp => by
        obtain ⟨⟨more, e, _⟩, _⟩ := hok' p.2 _ (qt p hp)
        exact ⟨more, e⟩
      refine ⟨rfl, ⟨fun b o e => ?_, fun b o e => ?_⟩, os, bare⟩
      · by_cases m : b ∈ cs.map Prod.snd
        · obtain ⟨p, hp, rfl⟩ := List.mem_map.mp m
          obtain ⟨more, g⟩ := grew p hp
          have eo : o = tabO := Option.some.inj (e.symm.trans (T.emp p hp))
          subst eo
          exact .inr (.inl ⟨((T.cod p hp).tab (ps := #[]) (T.emp p hp)).isCodeTable, rfl, #[], more, rfl, by rw [Array.empty_append]; exact g⟩)
        · exact .inl (same b o m e)
      · by_cases m : b ∈ cs.map Prod.snd
        · obtain ⟨p, hp, rfl⟩ := List.mem_map.mp m
          obtain ⟨more, g⟩ := grew p hp
          exact ⟨_, g⟩
        · exact ⟨o, same b o m e⟩
  cases hk : K.lookup a with
  | none => exact go _ (.inr rfl) (fun _ => hk) (.inl (.inr ⟨_, h0_a anot⟩))
  | some o =>
    have e := (D.kin a o hk).symm.trans ha
    have eo := Option.some.inj e
    subst eo
    exact go none (.inl rfl) (fun z => absurd rfl z) (.inr ⟨_, vs.toArray, _, hk, rfl, rfl, rfl, by rw [List.size_toArray, hi.length]; exact hl, by simpa using rv⟩)
end
/-- what the head's defs have: their code objects, with empty tables -/
def Rec0 (q : Program) (mg : Str → Option Value) (h : Heap) : Prop := ∀ d ∈ recsOf q, ∃ a o fd c P, mg d.name = some (.ref a) ∧ h.get? a = some o ∧ o.data = .func fd ∧ fd.code = .ref c ∧ h.IsCode c P #[] ∧ h.TableAt c P #[]
theorem tab_emp {q : Program} {mg : Str → Option Value} {h : Heap} {K : PySem.W.Frag} (R : Rec0 q mg h) (X : K.In h) {nm : Str} {f c Pt : Addr} {fd : FuncData} {e : Value} {dd : Option Addr} {sl : Array (Option Value)}
    (hrec : ((recsOf q).any fun e => e.name == nm) = true) (hm : mg nm = some (.ref f)) (hk : K.lookup f = some ⟨e, dd, .func fd, sl⟩) (hc : fd.code = .ref c) (C : PySem.W.CodeHd h c Pt) : h.get? Pt = some tabO := by
  obtain ⟨d, hd, hn⟩ := List.any_eq_true.mp hrec
  obtain ⟨f1, o1, fd1, c1, P1, e1, e2, e3, e4, _, ⟨⟨oc, vc, g1, _, g3, g4⟩, g5⟩⟩ := R d hd
  rw [beq_iff_eq.mp hn, hm] at e1
  have ef : f = f1 := Value.ref.inj (Option.some.inj e1)
  subst ef
  rw [X f _ hk] at e2
  have eo := Option.some.inj e2
  subst eo
  have efd : fd = fd1 := by injection e3
  subst efd
  rw [hc] at e4
  have ec : c = c1 := Value.ref.inj e4
  subst ec
  obtain ⟨o2, us, _, _, _, _, _, _, _, k1, _, k2, k3, _⟩ := C
  rw [k1] at g1
  have eo2 := Option.some.inj g1
  subst eo2
  rw [k2] at g3
  have eu : us = vc := by injection g3
  subst eu
  rw [k3] at g4
  have eP : Pt = P1 := Value.ref.inj (Option.some.inj g4)
  subst eP
  exact g5
def LawX (l : PySem.W.OpenLaw) (w : World) (K : PySem.W.Frag) (CX : CXT) (k n : Nat) (x : Str) (mg : Str → Option Value) (fa : Addr) (h : Heap) : Prop :=
  ∃ (fd : FuncData) (cs : List (Addr × Addr)) (sp : Sp), Tbs K h cs ∧ (∀ (s : Shared) (v : Value), BindsTo s fd ⟨[v], []⟩ [(x, v)]) ∧
    (∀ (H : Hp) (a : Addr) (ns : List Int), ns.length ≤ n → (∀ z ∈ ns, Builtin.Int.intBits z ≤ 1048576) → (∀ p ∈ cs, H p.2 = some (TabX p.2)) → SqL K H a (ns.map V.int) → sp [.ref a] H (fun v H' => v = .bl true ∧ ∀ p ∈ cs, H' p.2 = some (TabX p.2)) fun _ _ _ => False) ∧
    ∀ base : Heap, K.In base → base.Ns mainGlobals mg → (∀ p ∈ cs, GxR.TabB base mg p.1 p.2) → FnOk l.prog w K mg base CX k fa fd [x] sp
theorem walk_X {l : PySem.W.OpenLaw} {n k : Nat} {q : Program} {loose : List Str} {XP : (Str → Option Value) → Heap → Prop} {YP : World → Heap → Prop} {d : DefRec} {Kf : Params → PySem.W.Frag} {CX : World → CXT} {x : Str}
    (h1 : l.most = some n) (h2 : n ≤ sizeLine) (h3 : d.params.defaults = []) (h4 : Room k callerA) (h5 : ∀ (w : World) (h : Heap), YP w h → (Kf w.params).In h)
    (F : ∀ (w : World) (mg : Str → Option Value) (fa : Addr) (h : Heap), YP w h → (Kf w.params).In h → h.Ns mainGlobals mg → mg d.name = some (.ref fa) → Rec0 q mg h → LawX l w (Kf w.params) (CX w) k n x mg fa h)
    (h6 : ∀ (w : World) (H : Hp) (s : Shared) (e : Value) (s' : Shared), CX w [] H s (fun _ _ _ => False) e s' → False) :
    PySem.W.WalkO q loose XP YP l.row.toRowW d [] (fun f vs => PySem.call f vs) := by
  refine Att.attach_callB h1 h3 fun w _ s₁ mg mb fa o pm cd doc a vs ns G Y _ _ _ hmg hobj hints hlen hbits hg => ?_
  have X := h5 w _ Y
  obtain ⟨fd, cs, sp, T, bd, hsp, ok⟩ := F w mg fa _ Y X G.T.g hmg G.T.tab
  exact law_callX ⟨X, G.T.g, G.T.b, G.T.builtins, G.T.nolimit, hg, G.T.bmain⟩ T hobj hints (Nat.le_trans hlen h2) h4 ok bd (fun H hT hS => hsp H a ns hlen hbits hT hS) fun H e s' => h6 w H s₁ e s'
end KC
set_option Elab.async false
set_option linter.all false
set_option maxRecDepth 100000
set_option maxHeartbeats 4000000
namespace K14
open PySem PySem.Spec PyProof.Rows L2 GX KC Evl KX KQ M15 M01 M14
theorem top_of {l : PySem.W.OpenLaw} {q : Program} {w : World} {K : PySem.W.Frag} {h : Heap} {mg : Str → Option Value} {fa : Addr} (X : K.In h) (G : h.Ns mainGlobals mg) (R : Rec0 q mg h) (hfa : mg "law" = some (.ref fa))
    {f0 : Addr} {od0 an0 : Option Addr} {sl0 : Array (Option Value)} {oc0 kV0 dc0 pm0 ct0 : Value} {cd0 : Value}
    (a0 : PySem.W.nsIn K mainGlobals "field_bits" = some (some (.ref f0))) (l0 : K.lookup f0 = some ⟨oc0, od0, .func (PySem.W.fnOf "field_bits" "field_bits" (defArgs s_field_bits) (defBody s_field_bits) (defScope s_field_bits) .none kV0 dc0 pm0 an0 cd0 ct0), sl0⟩) (c0 : PySem.W.codeIn K cd0 "field_bits" = true) (k0 : PySem.W.keepIn K (.ref f0) = true)
    {f1 : Addr} {od1 an1 : Option Addr} {sl1 : Array (Option Value)} {oc1 kV1 dc1 pm1 ct1 : Value} {cd1 : Value}
    (a1 : PySem.W.nsIn K mainGlobals "bits_number" = some (some (.ref f1))) (l1 : K.lookup f1 = some ⟨oc1, od1, .func (PySem.W.fnOf "bits_number" "bits_number" (defArgs s_bits_number) (defBody s_bits_number) (defScope s_bits_number) .none kV1 dc1 pm1 an1 cd1 ct1), sl1⟩) (c1 : PySem.W.codeIn K cd1 "bits_number" = true) (k1 : PySem.W.keepIn K (.ref f1) = true)
    {f2 : Addr} {od2 an2 : Option Addr} {sl2 : Array (Option Value)} {oc2 kV2 dc2 pm2 ct2 : Value} {cd2 : Value}
    (a2 : PySem.W.nsIn K mainGlobals "read_bits" = some (some (.ref f2))) (l2 : K.lookup f2 = some ⟨oc2, od2, .func (PySem.W.fnOf "read_bits" "read_bits" (defArgs s_read_bits) (defBody s_read_bits) (defScope s_read_bits) .none kV2 dc2 pm2 an2 cd2 ct2), sl2⟩) (c2 : PySem.W.codeIn K cd2 "read_bits" = true) (k2 : PySem.W.keepIn K (.ref f2) = true)
    {f3 : Addr} {od3 an3 : Option Addr} {sl3 : Array (Option Value)} {oc3 kV3 dc3 pm3 ct3 : Value} {cd3 : Value}
    (a3 : PySem.W.nsIn K mainGlobals "read_field" = some (some (.ref f3))) (l3 : K.lookup f3 = some ⟨oc3, od3, .func (PySem.W.fnOf "read_field" "read_field" (defArgs s_read_field) (defBody s_read_field) (defScope s_read_field) .none kV3 dc3 pm3 an3 cd3 ct3), sl3⟩) (c3 : PySem.W.codeIn K cd3 "read_field" = true) (k3 : PySem.W.keepIn K (.ref f3) = true)
    {f4 : Addr} {od4 an4 : Option Addr} {sl4 : Array (Option Value)} {oc4 kV4 dc4 pm4 ct4 : Value} {cd4 : Value}
    (a4 : PySem.W.nsIn K mainGlobals "gamma_bits" = some (some (.ref f4))) (l4 : K.lookup f4 = some ⟨oc4, od4, .func (PySem.W.fnOf "gamma_bits" "gamma_bits" (defArgs s_gamma_bits) (defBody s_gamma_bits) (defScope s_gamma_bits) .none kV4 dc4 pm4 an4 cd4 ct4), sl4⟩) (c4 : PySem.W.codeIn K cd4 "gamma_bits" = true) (k4 : PySem.W.keepIn K (.ref f4) = true)
    {f5 : Addr} {od5 an5 : Option Addr} {sl5 : Array (Option Value)} {oc5 kV5 dc5 pm5 ct5 : Value} {cd5 : Value}
    (a5 : PySem.W.nsIn K mainGlobals "delta_bits" = some (some (.ref f5))) (l5 : K.lookup f5 = some ⟨oc5, od5, .func (PySem.W.fnOf "delta_bits" "delta_bits" (defArgs s_delta_bits) (defBody s_delta_bits) (defScope s_delta_bits) .none kV5 dc5 pm5 an5 cd5 ct5), sl5⟩) (c5 : PySem.W.codeIn K cd5 "delta_bits" = true) (k5 : PySem.W.keepIn K (.ref f5) = true)
    {f6 : Addr} {od6 an6 : Option Addr} {sl6 : Array (Option Value)} {oc6 kV6 dc6 pm6 ct6 : Value} {cd6 : Value}
    (a6 : PySem.W.nsIn K mainGlobals "rice_bits" = some (some (.ref f6))) (l6 : K.lookup f6 = some ⟨oc6, od6, .func (PySem.W.fnOf "rice_bits" "rice_bits" (defArgs s_rice_bits) (defBody s_rice_bits) (defScope s_rice_bits) .none kV6 dc6 pm6 an6 cd6 ct6), sl6⟩) (c6 : PySem.W.codeIn K cd6 "rice_bits" = true) (k6 : PySem.W.keepIn K (.ref f6) = true)
    {f7 : Addr} {od7 an7 : Option Addr} {sl7 : Array (Option Value)} {oc7 kV7 dc7 pm7 ct7 : Value} {cd7 : Value}
    (a7 : PySem.W.nsIn K mainGlobals "fibonacci_terms" = some (some (.ref f7))) (l7 : K.lookup f7 = some ⟨oc7, od7, .func (PySem.W.fnOf "fibonacci_terms" "fibonacci_terms" (defArgs s_fibonacci_terms) (defBody s_fibonacci_terms) (defScope s_fibonacci_terms) .none kV7 dc7 pm7 an7 cd7 ct7), sl7⟩) (c7 : PySem.W.codeIn K cd7 "fibonacci_terms" = true) (k7 : PySem.W.keepIn K (.ref f7) = true)
    {f8 : Addr} {od8 an8 : Option Addr} {sl8 : Array (Option Value)} {oc8 kV8 dc8 pm8 ct8 : Value} {cd8 : Value}
    (a8 : PySem.W.nsIn K mainGlobals "fibonacci_bits" = some (some (.ref f8))) (l8 : K.lookup f8 = some ⟨oc8, od8, .func (PySem.W.fnOf "fibonacci_bits" "fibonacci_bits" (defArgs s_fibonacci_bits) (defBody s_fibonacci_bits) (defScope s_fibonacci_bits) .none kV8 dc8 pm8 an8 cd8 ct8), sl8⟩) (c8 : PySem.W.codeIn K cd8 "fibonacci_bits" = true) (k8 : PySem.W.keepIn K (.ref f8) = true)
    {f9 : Addr} {od9 an9 : Option Addr} {sl9 : Array (Option Value)} {oc9 kV9 dc9 pm9 ct9 : Value} {cd9 : Value}
    (a9 : PySem.W.nsIn K mainGlobals "count_zeros" = some (some (.ref f9))) (l9 : K.lookup f9 = some ⟨oc9, od9, .func (PySem.W.fnOf "count_zeros" "count_zeros" (defArgs s_count_zeros) (defBody s_count_zeros) (defScope s_count_zeros) .none kV9 dc9 pm9 an9 cd9 ct9), sl9⟩) (c9 : PySem.W.codeIn K cd9 "count_zeros" = true) (k9 : PySem.W.keepIn K (.ref f9) = true)
    {f10 : Addr} {od10 an10 : Option Addr} {sl10 : Array (Option Value)} {oc10 kV10 dc10 pm10 ct10 : Value} {cd10 : Value}
    (a10 : PySem.W.nsIn K mainGlobals "read_gamma" = some (some (.ref f10))) (l10 : K.lookup f10 = some ⟨oc10, od10, .func (PySem.W.fnOf "read_gamma" "read_gamma" (defArgs s_read_gamma) (defBody s_read_gamma) (defScope s_read_gamma) .none kV10 dc10 pm10 an10 cd10 ct10), sl10⟩) (c10 : PySem.W.codeIn K cd10 "read_gamma" = true) (k10 : PySem.W.keepIn K (.ref f10) = true)
    {f11 : Addr} {od11 an11 : Option Addr} {sl11 : Array (Option Value)} {oc11 kV11 dc11 pm11 ct11 : Value} {cd11 : Value}
    (a11 : PySem.W.nsIn K mainGlobals "read_delta" = some (some (.ref f11))) (l11 : K.lookup f11 = some ⟨oc11, od11, .func (PySem.W.fnOf "read_delta" "read_delta" (defArgs s_read_delta) (defBody s_read_delta) (defScope s_read_delta) .none kV11 dc11 pm11 an11 cd11 ct11), sl11⟩) (c11 : PySem.W.codeIn K cd11 "read_delta" = true) (k11 : PySem.W.keepIn K (.ref f11) = true)
    {f12 : Addr} {od12 an12 : Option Addr} {sl12 : Array (Option Value)} {oc12 kV12 dc12 pm12 ct12 : Value} {cd12 : Value}
    (a12 : PySem.W.nsIn K mainGlobals "read_rice" = some (some (.ref f12))) (l12 : K.lookup f12 = some ⟨oc12, od12, .func (PySem.W.fnOf "read_rice" "read_rice" (defArgs s_read_rice) (defBody s_read_rice) (defScope s_read_rice) .none kV12 dc12 pm12 an12 cd12 ct12), sl12⟩) (c12 : PySem.W.codeIn K cd12 "read_rice" = true) (k12 : PySem.W.keepIn K (.ref f12) = true)
    {f13 : Addr} {od13 an13 : Option Addr} {sl13 : Array (Option Value)} {oc13 kV13 dc13 pm13 ct13 : Value} {cd13 : Value}
    (a13 : PySem.W.nsIn K mainGlobals "read_fibonacci" = some (some (.ref f13))) (l13 : K.lookup f13 = some ⟨oc13, od13, .func (PySem.W.fnOf "read_fibonacci" "read_fibonacci" (defArgs s_read_fibonacci) (defBody s_read_fibonacci) (defScope s_read_fibonacci) .none kV13 dc13 pm13 an13 cd13 ct13), sl13⟩) (c13 : PySem.W.codeIn K cd13 "read_fibonacci" = true) (k13 : PySem.W.keepIn K (.ref f13) = true)
    {f14 : Addr} {od14 an14 : Option Addr} {sl14 : Array (Option Value)} {oc14 kV14 dc14 pm14 ct14 : Value} {cd14 : Value}
    (a14 : PySem.W.nsIn K mainGlobals "_law_cell" = some (some (.ref f14))) (l14 : K.lookup f14 = some ⟨oc14, od14, .func (PySem.W.fnOf "_law_cell" "_law_cell" (defArgs s_law_cell) (defBody s_law_cell) (defScope s_law_cell) .none kV14 dc14 pm14 an14 cd14 ct14), sl14⟩) (c14 : PySem.W.codeIn K cd14 "_law_cell" = true) (k14 : PySem.W.keepIn K (.ref f14) = true)
    {f15 : Addr} {od15 an15 : Option Addr} {sl15 : Array (Option Value)} {oc15 kV15 dc15 pm15 ct15 : Value} {cd15 : Value}
    (a15 : PySem.W.nsIn K mainGlobals "_law_number" = some (some (.ref f15))) (l15 : K.lookup f15 = some ⟨oc15, od15, .func (PySem.W.fnOf "_law_number" "_law_number" (defArgs s_law_number) (defBody s_law_number) (defScope s_law_number) .none kV15 dc15 pm15 an15 cd15 ct15), sl15⟩) (c15 : PySem.W.codeIn K cd15 "_law_number" = true) (k15 : PySem.W.keepIn K (.ref f15) = true)
    {f16 : Addr} {od16 an16 : Option Addr} {sl16 : Array (Option Value)} {oc16 kV16 dc16 pm16 ct16 : Value} {cd16 : Value}
    (a16 : PySem.W.nsIn K mainGlobals "_law_binary" = some (some (.ref f16))) (l16 : K.lookup f16 = some ⟨oc16, od16, .func (PySem.W.fnOf "_law_binary" "_law_binary" (defArgs s_law_binary) (defBody s_law_binary) (defScope s_law_binary) .none kV16 dc16 pm16 an16 cd16 ct16), sl16⟩) (c16 : PySem.W.codeIn K cd16 "_law_binary" = true) (k16 : PySem.W.keepIn K (.ref f16) = true)
    {f17 : Addr} {od17 an17 : Option Addr} {sl17 : Array (Option Value)} {oc17 kV17 dc17 pm17 ct17 : Value} {cd17 : Value}
    (a17 : PySem.W.nsIn K mainGlobals "_law_gamma" = some (some (.ref f17))) (l17 : K.lookup f17 = some ⟨oc17, od17, .func (PySem.W.fnOf "_law_gamma" "_law_gamma" (defArgs s_law_gamma) (defBody s_law_gamma) (defScope s_law_gamma) .none kV17 dc17 pm17 an17 cd17 ct17), sl17⟩) (c17 : PySem.W.codeIn K cd17 "_law_gamma" = true) (k17 : PySem.W.keepIn K (.ref f17) = true)
    {f18 : Addr} {od18 an18 : Option Addr} {sl18 : Array (Option Value)} {oc18 kV18 dc18 pm18 ct18 : Value} {cd18 : Value}
    (a18 : PySem.W.nsIn K mainGlobals "_law_delta" = some (some (.ref f18))) (l18 : K.lookup f18 = some ⟨oc18, od18, .func (PySem.W.fnOf "_law_delta" "_law_delta" (defArgs s_law_delta) (defBody s_law_delta) (defScope s_law_delta) .none kV18 dc18 pm18 an18 cd18 ct18), sl18⟩) (c18 : PySem.W.codeIn K cd18 "_law_delta" = true) (k18 : PySem.W.keepIn K (.ref f18) = true)
    {f19 : Addr} {od19 an19 : Option Addr} {sl19 : Array (Option Value)} {oc19 kV19 dc19 pm19 ct19 : Value} {cd19 : Value}
    (a19 : PySem.W.nsIn K mainGlobals "_law_fibonacci" = some (some (.ref f19))) (l19 : K.lookup f19 = some ⟨oc19, od19, .func (PySem.W.fnOf "_law_fibonacci" "_law_fibonacci" (defArgs s_law_fibonacci) (defBody s_law_fibonacci) (defScope s_law_fibonacci) .none kV19 dc19 pm19 an19 cd19 ct19), sl19⟩) (c19 : PySem.W.codeIn K cd19 "_law_fibonacci" = true) (k19 : PySem.W.keepIn K (.ref f19) = true)
    {f20 : Addr} {od20 an20 : Option Addr} {sl20 : Array (Option Value)} {oc20 kV20 dc20 pm20 ct20 : Value} {cd20 : Value}
    (a20 : PySem.W.nsIn K mainGlobals "_law_rice" = some (some (.ref f20))) (l20 : K.lookup f20 = some ⟨oc20, od20, .func (PySem.W.fnOf "_law_rice" "_law_rice" (defArgs s_law_rice) (defBody s_law_rice) (defScope s_law_rice) .none kV20 dc20 pm20 an20 cd20 ct20), sl20⟩) (c20 : PySem.W.codeIn K cd20 "_law_rice" = true) (k20 : PySem.W.keepIn K (.ref f20) = true)
    {f21 : Addr} {od21 an21 : Option Addr} {sl21 : Array (Option Value)} {oc21 kV21 dc21 pm21 ct21 : Value} {cd21 : Value}
    (a21 : PySem.W.nsIn K mainGlobals "_law_all" = some (some (.ref f21))) (l21 : K.lookup f21 = some ⟨oc21, od21, .func (PySem.W.fnOf "_law_all" "_law_all" (defArgs s_law_all) (defBody s_law_all) (defScope s_law_all) .none kV21 dc21 pm21 an21 cd21 ct21), sl21⟩) (c21 : PySem.W.codeIn K cd21 "_law_all" = true) (k21 : PySem.W.keepIn K (.ref f21) = true)
    {f22 : Addr} {od22 an22 : Option Addr} {sl22 : Array (Option Value)} {oc22 kV22 dc22 pm22 ct22 : Value} {cd22 : Value}
    (a22 : PySem.W.nsIn K mainGlobals "law" = some (some (.ref f22))) (l22 : K.lookup f22 = some ⟨oc22, od22, .func (PySem.W.fnOf "law" "law" (defArgs s_law) (defBody s_law) (defScope s_law) .none kV22 dc22 pm22 an22 cd22 ct22), sl22⟩) (c22 : PySem.W.codeIn K cd22 "law" = true) (k22 : PySem.W.keepIn K (.ref f22) = true)
    (z_len : PySem.W.nsIn K mainGlobals "len" = some none)
    (z_int : PySem.W.nsIn K mainGlobals "int" = some none)
    (z_min : PySem.W.nsIn K mainGlobals "min" = some none)
    (z_max : PySem.W.nsIn K mainGlobals "max" = some none)
    (z_list : PySem.W.nsIn K mainGlobals "list" = some none)
    (z_sorted : PySem.W.nsIn K mainGlobals "sorted" = some none)
    (z_sum : PySem.W.nsIn K mainGlobals "sum" = some none)
    (z_range : PySem.W.nsIn K mainGlobals "range" = some none)
    (z_enumerate : PySem.W.nsIn K mainGlobals "enumerate" = some none)
    (z_zip : PySem.W.nsIn K mainGlobals "zip" = some none)
    (z_any : PySem.W.nsIn K mainGlobals "any" = some none)
    (z_isinstance : PySem.W.nsIn K mainGlobals "isinstance" = some none)
    (z_bool : PySem.W.nsIn K mainGlobals "bool" = some none)
    (z_reversed : PySem.W.nsIn K mainGlobals "reversed" = some none)
    {CT CI fI : Addr}
    {nmT qT : Str} {NT : Addr} {bsT bmT : List Value} {snT : List Str} {subT : List Value} {abT : Bool} {colT : Option Bool} {ddT : Option Addr} {m0T m1T m2T m3T m5T : Option Value} {oT : Obj} {tkT : Tok}
    (gT : PySem.W.nsIn K mainGlobals "Truncated" = some (some (.ref CT)))
    (xlT : K.lookup CT = some (excClassObj nmT qT CT NT bsT bmT true snT subT abT colT ddT m0T m1T m2T m3T m5T "ValueError.__new__"))
    (rT : PySem.HandSPX.refsVE bmT = true)
    (saT : PySem.W.findIn K (.ref CT) "__setattr__" = some (some (.builtin "object.__setattr__")))
    (exT : PySem.W.subIn K (.ref CT) (.type "BaseException") = some true)
    (tyT : PySem.W.typeIn K (.ref CT) = some (.type "type"))
    (kpT : PySem.W.keepIn K (.ref CT) = true)
    (gaT : PySem.W.findIn K (.ref CT) "__getattribute__" = some (some (.builtin "BaseException.__getattribute__")))
    (ggT : PySem.W.findIn K (.ref CT) "__getattr__" = some none)
    (hdT : PySem.W.hasDictIn K CT = true)
    (haT : PySem.W.findIn K (.ref CT) "__class__" = some (some (.builtin "object.__class__")))
    (hmT : PySem.W.mroIn K CT (.type "object") = some true)
    (obT : K.lookup CT = some oT)
    (osT : oT.slots[2]? = some (some (.str "Truncated" tkT)))
    (rdT : PySem.W.readsIn K CT (.type "type") = true)
    (fcT : PySem.W.findCls K (.ref CT) (.type "type") "__name__" = some (.get (.builtin "getset_descriptor.__get__") (.builtin "type.__name__") (.ref CT) (.type "type")))
    (fpT : PySem.W.findIn K (.ref CT) "place" = some none)
    (fnT : PySem.W.findIn K (.ref CT) "name" = some none)
    (fiT : PySem.W.findIn K (.ref CT) "__init__" = some (some (.ref fI)))
    {nmI qI : Str} {NI : Addr} {bsI bmI : List Value} {snI : List Str} {subI : List Value} {abI : Bool} {colI : Option Bool} {ddI : Option Addr} {m0I m1I m2I m3I m5I : Option Value} {oI : Obj} {tkI : Tok}
    (gI : PySem.W.nsIn K mainGlobals "InvalidWord" = some (some (.ref CI)))
    (xlI : K.lookup CI = some (excClassObj nmI qI CI NI bsI bmI true snI subI abI colI ddI m0I m1I m2I m3I m5I "ValueError.__new__"))
    (rI : PySem.HandSPX.refsVE bmI = true)
    (saI : PySem.W.findIn K (.ref CI) "__setattr__" = some (some (.builtin "object.__setattr__")))
    (exI : PySem.W.subIn K (.ref CI) (.type "BaseException") = some true)
    (tyI : PySem.W.typeIn K (.ref CI) = some (.type "type"))
    (kpI : PySem.W.keepIn K (.ref CI) = true)
    (gaI : PySem.W.findIn K (.ref CI) "__getattribute__" = some (some (.builtin "BaseException.__getattribute__")))
    (ggI : PySem.W.findIn K (.ref CI) "__getattr__" = some none)
    (hdI : PySem.W.hasDictIn K CI = true)
    (haI : PySem.W.findIn K (.ref CI) "__class__" = some (some (.builtin "object.__class__")))
    (hmI : PySem.W.mroIn K CI (.type "object") = some true)
    (obI : K.lookup CI = some oI)
    (osI : oI.slots[2]? = some (some (.str "InvalidWord" tkI)))
    (rdI : PySem.W.readsIn K CI (.type "type") = true)
    (fcI : PySem.W.findCls K (.ref CI) (.type "type") "__name__" = some (.get (.builtin "getset_descriptor.__get__") (.builtin "type.__name__") (.ref CI) (.type "type")))
    (fpI : PySem.W.findIn K (.ref CI) "place" = some none)
    (fnI : PySem.W.findIn K (.ref CI) "name" = some none)
    (fiI : PySem.W.findIn K (.ref CI) "__init__" = some (some (.ref fI)))
    (hn : PySem.W.specialIn K (.builtin "object.__class__") "__get__" = some (some (.builtin "getset_descriptor.__get__")))
    (ht : PySem.W.takesIn K (.builtin "object.__class__") = some true)
    {ocI : Value} {odI anI : Option Addr} {slI : Array (Option Value)} {kVI dcI pmI ctI cdI : Value}
    (tyF : PySem.W.typeIn K (.ref fI) = some (.type "function"))
    (lI : K.lookup fI = some ⟨ocI, odI, .func (PySem.W.fnOf "__init__" "KraftroomError.__init__" (defArgs s_KraftroomError_init) (defBody s_KraftroomError_init) (defScope s_KraftroomError_init) .none kVI dcI pmI anI cdI ctI), slI⟩)
    (cI : PySem.W.codeIn K cdI "KraftroomError.__init__" = true)
    (kI : PySem.W.keepIn K (.ref fI) = true)
    (zVE : PySem.W.nsIn K mainGlobals "ValueError" = some none)
    (vV : PySem.W.findCls K (.type "ValueError") (.type "type") "__init__" = some (.val (.builtin "ValueError.__init__")))
    {tz : Tok}
    (yg_MOST_ZEROS : PySem.W.nsIn K mainGlobals "MOST_ZEROS" = some (some (.int 40 tz)))
    {tt : Tok}
    (yg_MOST_TOLD : PySem.W.nsIn K mainGlobals "MOST_TOLD" = some (some (.int 40 tt)))
    : LawX l w K CX0 7 63 "script" mg fa h := by
  have e := hfa.symm.trans (PySem.W.mg_of X G a22)
  cases e
  have T1 : ∀ p ∈ ([] : List (Addr × Addr)), h.get? p.2 = some tabO := (fun p hp => absurd hp List.not_mem_nil)
  have T2 : ∀ p ∈ ([] : List (Addr × Addr)), K.lookup p.2 = none := (fun p hp => absurd hp List.not_mem_nil)
  have T3 : ∀ p ∈ ([] : List (Addr × Addr)), PySem.W.CodeHd h p.1 p.2 := (fun p hp => absurd hp List.not_mem_nil)
  refine ⟨PySem.W.fnOf "law" "law" (defArgs s_law) (defBody s_law) (defScope s_law) .none kV22 dc22 pm22 an22 cd22 ct22, [], spLaw K, ⟨T1, T2, T3⟩, fun s v => .of_eq rfl, fun H a ns hl hb hT hS => ⟨a, ns, rfl, hS, hl, fun H2 => ⟨rfl, fun p hp => absurd hp List.not_mem_nil⟩⟩, fun base kb gb TB => ?_⟩
  have B : Bs mg := ⟨PySem.W.mg_none_of X G z_len, PySem.W.mg_none_of X G z_int, PySem.W.mg_none_of X G z_min, PySem.W.mg_none_of X G z_max, PySem.W.mg_none_of X G z_list, PySem.W.mg_none_of X G z_sorted, PySem.W.mg_none_of X G z_sum, PySem.W.mg_none_of X G z_range, PySem.W.mg_none_of X G z_enumerate, PySem.W.mg_none_of X G z_zip, PySem.W.mg_none_of X G z_any, PySem.W.mg_none_of X G z_isinstance, PySem.W.mg_none_of X G z_bool, PySem.W.mg_none_of X G z_reversed⟩
  have FI := fun_mk (st := s_KraftroomError_init) lI cI kI
  have BI := FI.binds (ps := ["self", "place"]) fun _ _ _ _ _ _ us hl => match us, hl with | [_, _], _ => rfl
  have ET : ErrK K CT "Truncated" := ⟨⟨⟨_, _, _, _, _, _, _, _, _, _, _, _, _, _, _, xlT, rT⟩, saT, exT, tyT, kpT⟩, ⟨gaT, ggT, exT, hdT, haT, hn, ht, hmT⟩, ⟨⟨oT, tkT, obT, osT⟩, tyT, rdT, fcT⟩, fpT, fnT⟩
  have MT := PySem.W.mg_of X G gT
  have GT : ErrG l.prog w K mg base "Truncated" CT fI _ := ⟨ET, fiT, tyF, MT, ok_init (k := 0) FI (PySem.W.mg_none_of X G zVE) vV, BI⟩
  have EI : ErrK K CI "InvalidWord" := ⟨⟨⟨_, _, _, _, _, _, _, _, _, _, _, _, _, _, _, xlI, rI⟩, saI, exI, tyI, kpI⟩, ⟨gaI, ggI, exI, hdI, haI, hn, ht, hmI⟩, ⟨⟨oI, tkI, obI, osI⟩, tyI, rdI, fcI⟩, fpI, fnI⟩
  have MI := PySem.W.mg_of X G gI
  have GI : ErrG l.prog w K mg base "InvalidWord" CI fI _ := ⟨EI, fiI, tyF, MI, ok_init (k := 0) FI (PySem.W.mg_none_of X G zVE) vV, BI⟩
  have GN_ : GN mg tz tt := ⟨PySem.W.mg_of X G yg_MOST_ZEROS, PySem.W.mg_of X G yg_MOST_TOLD⟩
  have F0 := fun_mk (st := s_field_bits) l0 c0 k0
  have C_field_bits := cal_of (P := l.prog) (w := w) (base := base) F0 (PySem.W.mg_of X G a0) (F0.binds (ps := ["number", "width"]) fun _ _ _ _ _ _ us hl => match us, hl with | [_, _], _ => rfl) (ok_field_bits (k := 0) F0 B)
  have F1 := fun_mk (st := s_bits_number) l1 c1 k1
  have C_bits_number := cal_of (P := l.prog) (w := w) (base := base) F1 (PySem.W.mg_of X G a1) (F1.binds (ps := ["bits"]) fun _ _ _ _ _ _ us hl => match us, hl with | [_], _ => rfl) (ok_bits_number (k := 0) F1 B)
  have F2 := fun_mk (st := s_read_bits) l2 c2 k2
  have C_read_bits := CalX.mk (P := l.prog) (w := w) (base := base) ⟨_, _, PySem.W.mg_of X G a2, F2.kp, F2.binds (ps := ["bits", "at", "count"]) (fun _ _ _ _ _ _ us hl => match us, hl with | [_, _, _], _ => rfl), ok_read_bits (k := 0) F2 B GT⟩
  have F3 := fun_mk (st := s_read_field) l3 c3 k3
  have C_read_field := CalX.mk (P := l.prog) (w := w) (base := base) ⟨_, _, PySem.W.mg_of X G a3, F3.kp, F3.binds (ps := ["bits", "at", "width"]) (fun _ _ _ _ _ _ us hl => match us, hl with | [_, _, _], _ => rfl), ok_read_field (CI := CI) (k := 0) F3 B C_read_bits C_bits_number⟩
  have F4 := fun_mk (st := s_gamma_bits) l4 c4 k4
  have C_gamma_bits := cal_of (P := l.prog) (w := w) (base := base) F4 (PySem.W.mg_of X G a4) (F4.binds (ps := ["n"]) fun _ _ _ _ _ _ us hl => match us, hl with | [_], _ => rfl) (ok_gamma_bits (k := 0) F4 B C_field_bits)
  have F5 := fun_mk (st := s_delta_bits) l5 c5 k5
  have C_delta_bits := cal_of (P := l.prog) (w := w) (base := base) F5 (PySem.W.mg_of X G a5) (F5.binds (ps := ["n"]) fun _ _ _ _ _ _ us hl => match us, hl with | [_], _ => rfl) (ok_delta_bits (k := 0) F5 B C_field_bits C_gamma_bits)
  have F6 := fun_mk (st := s_rice_bits) l6 c6 k6
  have C_rice_bits := cal_of (P := l.prog) (w := w) (base := base) F6 (PySem.W.mg_of X G a6) (F6.binds (ps := ["k", "n"]) fun _ _ _ _ _ _ us hl => match us, hl with | [_, _], _ => rfl) (ok_rice_bits (k := 0) F6 B C_field_bits)
  have F7 := fun_mk (st := s_fibonacci_terms) l7 c7 k7
  have C_fibonacci_terms := cal_of (P := l.prog) (w := w) (base := base) F7 (PySem.W.mg_of X G a7) (F7.binds (ps := ["n"]) fun _ _ _ _ _ _ us hl => match us, hl with | [_], _ => rfl) (ok_terms (k := 0) F7 B)
  have F8 := fun_mk (st := s_fibonacci_bits) l8 c8 k8
  have C_fibonacci_bits := cal_of (P := l.prog) (w := w) (base := base) F8 (PySem.W.mg_of X G a8) (F8.binds (ps := ["n"]) fun _ _ _ _ _ _ us hl => match us, hl with | [_], _ => rfl) (ok_fib_bits (k := 0) F8 B C_fibonacci_terms)
  have F9 := fun_mk (st := s_count_zeros) l9 c9 k9
  have C_count_zeros := CalX.mk (P := l.prog) (w := w) (base := base) ⟨_, _, PySem.W.mg_of X G a9, F9.kp, F9.binds (ps := ["bits", "at"]) (fun _ _ _ _ _ _ us hl => match us, hl with | [_, _], _ => rfl), ok_count_zeros (k := 0) F9 B GN_ GI⟩
  have F10 := fun_mk (st := s_read_gamma) l10 c10 k10
  have C_read_gamma := CalX.mk (P := l.prog) (w := w) (base := base) ⟨_, _, PySem.W.mg_of X G a10, F10.kp, F10.binds (ps := ["bits", "at"]) (fun _ _ _ _ _ _ us hl => match us, hl with | [_, _], _ => rfl), ok_read_gamma (k := 0) F10 B C_count_zeros C_read_field⟩
  have F11 := fun_mk (st := s_read_delta) l11 c11 k11
  have C_read_delta := CalX.mk (P := l.prog) (w := w) (base := base) ⟨_, _, PySem.W.mg_of X G a11, F11.kp, F11.binds (ps := ["bits", "at"]) (fun _ _ _ _ _ _ us hl => match us, hl with | [_, _], _ => rfl), ok_read_delta (k := 0) F11 B GN_ GI C_read_gamma C_read_field⟩
  have F12 := fun_mk (st := s_read_rice) l12 c12 k12
  have C_read_rice := CalX.mk (P := l.prog) (w := w) (base := base) ⟨_, _, PySem.W.mg_of X G a12, F12.kp, F12.binds (ps := ["k", "bits", "at"]) (fun _ _ _ _ _ _ us hl => match us, hl with | [_, _, _], _ => rfl), ok_read_rice (k := 0) F12 B C_read_field⟩
  have F13 := fun_mk (st := s_read_fibonacci) l13 c13 k13
  have C_read_fibonacci := CalX.mk (P := l.prog) (w := w) (base := base) ⟨_, _, PySem.W.mg_of X G a13, F13.kp, F13.binds (ps := ["bits", "at"]) (fun _ _ _ _ _ _ us hl => match us, hl with | [_, _], _ => rfl), ok_read_fibonacci (CI := CI) (k := 0) F13 B GT⟩
  have F14 := fun_mk (st := s_law_cell) l14 c14 k14
  have C_law_cell := cal_of (P := l.prog) (w := w) (base := base) F14 (PySem.W.mg_of X G a14) (F14.binds (ps := ["script", "k"]) fun _ _ _ _ _ _ us hl => match us, hl with | [_, _], _ => rfl) (ok_cell (k := 0) F14 B)
  have F15 := fun_mk (st := s_law_number) l15 c15 k15
  have C_law_number := cal_of (P := l.prog) (w := w) (base := base) F15 (PySem.W.mg_of X G a15) (F15.binds (ps := ["cell"]) fun _ _ _ _ _ _ us hl => match us, hl with | [_], _ => rfl) (ok_number (k := 0) F15 B)
  have F16 := fun_mk (st := s_law_binary) l16 c16 k16
  have C_law_binary := cal_of (P := l.prog) (w := w) (base := base) F16 (PySem.W.mg_of X G a16) (F16.binds (ps := ["n"]) fun _ _ _ _ _ _ us hl => match us, hl with | [_], _ => rfl) (ok_binary (k := 0) F16 B)
  have F17 := fun_mk (st := s_law_gamma) l17 c17 k17
  have C_law_gamma := cal_of (P := l.prog) (w := w) (base := base) F17 (PySem.W.mg_of X G a17) (F17.binds (ps := ["n"]) fun _ _ _ _ _ _ us hl => match us, hl with | [_], _ => rfl) (ok_lgamma (k := 0) F17 B C_law_binary)
  have F18 := fun_mk (st := s_law_delta) l18 c18 k18
  have C_law_delta := cal_of (P := l.prog) (w := w) (base := base) F18 (PySem.W.mg_of X G a18) (F18.binds (ps := ["n"]) fun _ _ _ _ _ _ us hl => match us, hl with | [_], _ => rfl) (ok_ldelta (k := 0) F18 B C_law_binary C_law_gamma)
  have F19 := fun_mk (st := s_law_fibonacci) l19 c19 k19
  have C_law_fibonacci := cal_of (P := l.prog) (w := w) (base := base) F19 (PySem.W.mg_of X G a19) (F19.binds (ps := ["n"]) fun _ _ _ _ _ _ us hl => match us, hl with | [_], _ => rfl) (ok_lfib (k := 0) F19 B)
  have F20 := fun_mk (st := s_law_rice) l20 c20 k20
  have C_law_rice := cal_of (P := l.prog) (w := w) (base := base) F20 (PySem.W.mg_of X G a20) (F20.binds (ps := ["k", "n"]) fun _ _ _ _ _ _ us hl => match us, hl with | [_, _], _ => rfl) (ok_lrice (k := 0) F20 B)
  have F21 := fun_mk (st := s_law_all) l21 c21 k21
  have C_law_all := cal_of (P := l.prog) (w := w) (base := base) F21 (PySem.W.mg_of X G a21) (F21.binds (ps := ["n", "k"]) fun _ _ _ _ _ _ us hl => match us, hl with | [_, _], _ => rfl) (ok_all (k := 0) F21 B C_gamma_bits C_delta_bits C_fibonacci_bits C_rice_bits)
  have F22 := fun_mk (st := s_law) l22 c22 k22
  exact ok_law (k := 0) F22 B C_law_cell C_law_number C_law_gamma C_law_delta C_law_fibonacci C_law_rice C_law_all C_read_gamma C_read_delta C_read_fibonacci C_read_rice
end K14
open PySem PySem.W PyProof.Rows
set_option maxHeartbeats 0 in
theorem PySem.Challenge.cw_kraftroom_k14_codes_of_integers_holds : PySem.Challenge.rw_kraftroom_k14_codes_of_integers.Holds := by
  w_on; o_law; k_head; (case hw => w_witness2)
  k_fill
  refine KC.walk_X (l := PySem.Challenge.rw_kraftroom_k14_codes_of_integers) (n := 63) (k := 7) (x := "script") (CX := fun _ => L2.CX0) rfl (by decide) rfl ⟨rfl, by decide, by decide⟩ (fun w h Y => PySem.W.kIn_of Y) ?F (fun _ _ _ _ _ h => h)
  case F =>
    intro w mg fa h Y KX G hmg R
    refine' K14.top_of KX G R hmg  ?a0 ?l0 ?c0 ?k0 ?a1 ?l1 ?c1 ?k1 ?a2 ?l2 ?c2 ?k2 ?a3 ?l3 ?c3 ?k3 ?a4 ?l4 ?c4 ?k4 ?a5 ?l5 ?c5 ?k5 ?a6 ?l6 ?c6 ?k6 ?a7 ?l7 ?c7 ?k7 ?a8 ?l8 ?c8 ?k8 ?a9 ?l9 ?c9 ?k9 ?a10 ?l10 ?c10 ?k10 ?a11 ?l11 ?c11 ?k11 ?a12 ?l12 ?c12 ?k12 ?a13 ?l13 ?c13 ?k13 ?a14 ?l14 ?c14 ?k14 ?a15 ?l15 ?c15 ?k15 ?a16 ?l16 ?c16 ?k16 ?a17 ?l17 ?c17 ?k17 ?a18 ?l18 ?c18 ?k18 ?a19 ?l19 ?c19 ?k19 ?a20 ?l20 ?c20 ?k20 ?a21 ?l21 ?c21 ?k21 ?a22 ?l22 ?c22 ?k22 ?z_len ?z_int ?z_min ?z_max ?z_list ?z_sorted ?z_sum ?z_range ?z_enumerate ?z_zip ?z_any ?z_isinstance ?z_bool ?z_reversed ?gT ?xlT ?rT ?saT ?exT ?tyT ?kpT ?gaT ?ggT ?hdT ?haT ?hmT ?obT ?osT ?rdT ?fcT ?fpT ?fnT ?fiT ?gI ?xlI ?rI ?saI ?exI ?tyI ?kpI ?gaI ?ggI ?hdI ?haI ?hmI ?obI ?osI ?rdI ?fcI ?fpI ?fnI ?fiI ?hn ?ht ?tyF ?lI ?cI ?kI ?zVE ?vV ?yg_MOST_ZEROS ?yg_MOST_TOLD
    (case a0 => k_is); (case l0 => k_is); (case c0 => k_is); (case k0 => k_is); (case a1 => k_is); (case l1 => k_is); (case c1 => k_is); (case k1 => k_is); (case a2 => k_is); (case l2 => k_is); (case c2 => k_is); (case k2 => k_is); (case a3 => k_is); (case l3 => k_is); (case c3 => k_is); (case k3 => k_is); (case a4 => k_is); (case l4 => k_is); (case c4 => k_is); (case k4 => k_is); (case a5 => k_is); (case l5 => k_is); (case c5 => k_is); (case k5 => k_is); (case a6 => k_is); (case l6 => k_is); (case c6 => k_is); (case k6 => k_is); (case a7 => k_is); (case l7 => k_is); (case c7 => k_is); (case k7 => k_is); (case a8 => k_is); (case l8 => k_is); (case c8 => k_is); (case k8 => k_is); (case a9 => k_is); (case l9 => k_is); (case c9 => k_is); (case k9 => k_is); (case a10 => k_is); (case l10 => k_is); (case c10 => k_is); (case k10 => k_is); (case a11 => k_is); (case l11 => k_is); (case c11 => k_is); (case k11 => k_is); (case a12 => k_is); (case l12 => k_is); (case c12 => k_is); (case k12 => k_is); (case a13 => k_is); (case l13 => k_is); (case c13 => k_is); (case k13 => k_is); (case a14 => k_is); (case l14 => k_is); (case c14 => k_is); (case k14 => k_is); (case a15 => k_is); (case l15 => k_is); (case c15 => k_is); (case k15 => k_is); (case a16 => k_is); (case l16 => k_is); (case c16 => k_is); (case k16 => k_is); (case a17 => k_is); (case l17 => k_is); (case c17 => k_is); (case k17 => k_is); (case a18 => k_is); (case l18 => k_is); (case c18 => k_is); (case k18 => k_is); (case a19 => k_is); (case l19 => k_is); (case c19 => k_is); (case k19 => k_is); (case a20 => k_is); (case l20 => k_is); (case c20 => k_is); (case k20 => k_is); (case a21 => k_is); (case l21 => k_is); (case c21 => k_is); (case k21 => k_is); (case a22 => k_is); (case l22 => k_is); (case c22 => k_is); (case k22 => k_is); (case z_len => k_is); (case z_int => k_is); (case z_min => k_is); (case z_max => k_is); (case z_list => k_is); (case z_sorted => k_is); (case z_sum => k_is); (case z_range => k_is); (case z_enumerate => k_is); (case z_zip => k_is); (case z_any => k_is); (case z_isinstance => k_is); (case z_bool => k_is); (case z_reversed => k_is); (case gT => k_is); (case xlT => k_is); (case rT => first | rfl | decide +kernel); (case saT => first | k_is | rfl); (case exT => first | k_is | rfl); (case tyT => first | k_is | rfl); (case kpT => first | k_is | rfl); (case gaT => first | k_is | rfl); (case ggT => first | k_is | rfl); (case hdT => first | k_is | rfl); (case haT => first | k_is | rfl); (case hmT => first | k_is | rfl); (case obT => k_is); (case osT => first | rfl | k_is); (case rdT => first | k_is | rfl); (case fcT => first | k_is | rfl); (case fpT => first | k_is | rfl); (case fnT => first | k_is | rfl); (case fiT => k_is); (case gI => k_is); (case xlI => k_is); (case rI => first | rfl | decide +kernel); (case saI => first | k_is | rfl); (case exI => first | k_is | rfl); (case tyI => first | k_is | rfl); (case kpI => first | k_is | rfl); (case gaI => first | k_is | rfl); (case ggI => first | k_is | rfl); (case hdI => first | k_is | rfl); (case haI => first | k_is | rfl); (case hmI => first | k_is | rfl); (case obI => k_is); (case osI => first | rfl | k_is); (case rdI => first | k_is | rfl); (case fcI => first | k_is | rfl); (case fpI => first | k_is | rfl); (case fnI => first | k_is | rfl); (case fiI => k_is); (case hn => first | k_is | rfl); (case ht => first | k_is | rfl); (case tyF => first | k_is | rfl); (case lI => k_is); (case cI => k_is); (case kI => k_is); (case zVE => k_is); (case vV => first | k_is | rfl); (case yg_MOST_ZEROS => k_is); (case yg_MOST_TOLD => k_is)
