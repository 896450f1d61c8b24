import PyProof.Rows.All
import Wide.All
import OpenK.AllK
import Wide.FinOn
import HandS.GenList
import HandS.AnyAll
import HandS.EndOwn
import HandS.SortInts
import HandS.Walk
import HandS.ForMost
import HandS.Style
import HandS.Conv
import HandS.Evl
import HandS.Wide
import HandS.Star
import HandS.IsInst
import KE.BitLaws
import HandS.SortKw
import HandS.NamedTupSort
import HandS.DictEq
import KE.DataMinMax
import KE.KDictSum
import HandS.More
import PySem.Challenge.RW_kraftroom_k05_whole_packages
import HandS.ExcInit
import HandS.ExcIs
import HandS.FStr
import KE.KExcIs
import KE.KExcPX
import KE.KTypeName
import HandS.TryMany
import HandS.ExcField
import HandS.ExcOwn
import HandS.WordsExc
import HandS.WideBits
import HandS.DictComp
import HandS.Zip
import HandS.CallLocal
import KE.LtSeq
import KE.SortData
import KE.KRevSl
import HandS.EndTab
set_option Elab.async false
set_option linter.all false
set_option maxRecDepth 100000
set_option maxHeartbeats 4000000
/-! Generator expressions over the layer: any target, tests, element; consumed by sorted, sum, any, all. -/
namespace GX
open PySem PySem.Spec PyProof.Rows L2 GenW

abbrev Pins := List (Addr × Obj)
structure Sleeps (Ss : List Addr) (s s' : Shared) : Prop where
  os : s'.os = s.os
  bare : AllBare s'.gens
  keep : ∀ b o, b ∉ Ss → s.heap.get? b = some o → s'.heap.get? b = some o
structure PinsAt (Ss : List Addr) (pl : Pins) (h : Heap) : Prop where
  ad : pl.map (·.1) = Ss
  at_ : ∀ p ∈ pl, h.get? p.1 = some p.2 ∧ ∀ v, p.2.data ≠ .cell v
structure Cons where
  Ss : List Addr
  Gh : List V → Pins → Prop
  Th : List V → V → Hp → Prop
  Qe : List V → Hp → Prop

abbrev gcx (X : Cx) (sB : Shared) (HB : Hp) (N' : List Str) (cenv : Env) (fp : List Addr) (A : Around) (pn : Pins) : Cx :=
  { X with A := A, N := N', s_0 := sB, H_0 := HB, env := cenv, outer := X.stack, stack := cenv :: X.stack, ex := fp, fn := fun _ => false, calm := true, pn := pn, xe := fun _ _ => False }

/-- the generator expression's own scope, its names N', which of them are captured (cm: their slots outside) -/
structure CapOk (N N' : List Str) (cm : List (Option Nat)) (scope sc : Scope) : Prop where
  kind : scope.kind = .function
  co : scope.isCoroutine = false
  cell : ∀ y ∈ scope.names, y.2 ≠ .cell
  dot : scope.names.lookup (".0" : Str) = some NameKind.local
  free : ∀ y ∈ scope.names, y.2 = .free → sc.names.lookup y.1 = some .cell ∨ sc.names.lookup y.1 = some .free
  len : cm.length = N'.length
  cap : ((cm.zip N').all fun p => match p.1 with | some j => (N[j]? == some p.2) && (scope.names.lookup p.2 == some .free) | none => true) = true
def captS (cm : List (Option Nat)) (σ : L2.St) : L2.St := cm.map fun o => match o with
  | some j => (σ[j]?).join
  | none => none
theorem captS_some {cm : List (Option Nat)} {σ : L2.St} {i : Nat} {v : V} (h : (captS cm σ)[i]? = some (some v)) : ∃ j, cm[i]? = some (some j) ∧ σ[j]? = some (some v) := by
  unfold captS at h
  rw [List.getElem?_map] at h
  cases hc : cm[i]? with
  | none => rw [hc] at h; cases h
  | some o =>
    rw [hc] at h
    cases o with
    | none => cases h
    | some j =>
      refine ⟨j, rfl, ?_⟩
      have h' : (σ[j]?).join = some v := Option.some.inj h
      cases hs : σ[j]? with
      | none => rw [hs] at h'; cases h'
      | some w => rw [hs] at h'; exact congrArg some h'
theorem CapOk.capt {N N' : List Str} {cm : List (Option Nat)} {scope sc : Scope} (ok : CapOk N N' cm scope sc) {i j : Nat} {y : Str} (h1 : cm[i]? = some (some j)) (h2 : N'[i]? = some y) : N[j]? = some y ∧ scope.names.lookup y = some .free := by
  have h := List.all_eq_true.mp ok.cap (some j, y) (List.mem_of_getElem? (i := i) (by rw [List.getElem?_zip_eq_some]; exact ⟨h1, h2⟩))
  simp only [Bool.and_eq_true, beq_iff_eq] at h
  exact h

theorem inv_gens {G : Cx} {pl : Pins} {σ : L2.St} {H : Hp} {s : Shared} (I : Inv G pl σ H s) {g : Nat} {x : GenState} (hx : x.bare = true) : Inv G pl σ H (s.setGen g x) :=
  ⟨I.ok, I.os, allBare_setGen I.bare hx, I.base, I.loc, I.cell, I.free, I.freeC, I.pin, I.hok, I.len⟩

theorem woken {G : Cx} {Ss : List Addr} {pl pl' : Pins} {σ : L2.St} {H : Hp} {s s' : Shared} (hpn : ∀ p ∈ G.pn, p.1 ∉ Ss)
    (hap : ∀ b ∈ Ss, G.s_0.heap.objs.size ≤ b ∧ b ≠ G.env.locals ∧ ∀ x c, G.env.cells.lookup x = some c → c ≠ b) (hp : PinsAt Ss pl s.heap) (I : Inv G pl σ H s) (z : Sleeps Ss s s') (hp' : PinsAt Ss pl' s'.heap) :
    Inv G pl' σ H s' := by
  have fr : ∀ b ∈ Ss, H b = none ∧ b ≠ G.env.locals ∧ b ∉ G.fs := fun b hb => by
    rw [← hp.ad] at hb
    obtain ⟨p, hm, e⟩ := List.mem_map.mp hb
    obtain ⟨_, h2, h3, h4, _⟩ := I.pin p (List.mem_append_right _ hm)
    rw [← e]
    exact ⟨h2, h3, h4⟩
  have I0 : Inv G [] σ H s := I.pins_of fun p hp => absurd hp (by simp)
  have nt : ∀ b u, H b = some u → b ∉ Ss := fun b u q hb => by rw [(fr b hb).1] at q; cases q
  obtain ⟨z1, z2, z3⟩ := z
  obtain ⟨hh, g, d, t, o⟩ := s'
  have ho : o = s.os := z1
  subst ho
  have J : Inv G [] σ H { s with heap := hh, gens := g, drawn := d, toks := t } := by
    refine I0.step (g' := g) (t' := t) (d' := d) (ch := Ss) (fun b hb => ?_)
      (fun b ob _ _ hc q _ => z3 b ob hc q) (fun b ob _ _ hc q _ => ⟨ob.slots, z3 b ob hc q⟩) (fun _ _ _ _ n => n) (fun b ob hc q => ⟨ob, z3 b ob hc q⟩)
      (fun _ _ q => q) (fun _ _ _ q => q) (fun b ps q => ⟨#[], by rw [q]; simp⟩) (fun m hm => ?_) (fun b u q => ?_) z2
    · refine ⟨.inr (hap b hb).1, (hap b hb).2.1, (hap b hb).2.2, fun p hp => ?_⟩
      rcases List.mem_append.mp hp with hp | hp
      · exact fun e => hpn p hp (by rw [e]; exact hb)
      · cases hp
    · obtain ⟨ob, es, ep, ho, r⟩ := hm
      exact ⟨ob, es, ep, z3 _ ob (fun hm => (fr _ hm).2.1 rfl) ho, r⟩
    · refine (I0.hok b u q).stay (fun c v hc y => z3 c v ?_ y) (fun _ y => y) fun _ _ y => y
      rcases hc with y | y
      · rw [y]; exact nt b u q
      · exact nt c _ y
  refine J.pins_of fun p hp => ?_
  have hS : p.1 ∈ Ss := by rw [← hp'.ad]; exact List.mem_map.mpr ⟨p, hp, rfl⟩
  exact ⟨(hp'.at_ p hp).1, (fr _ hS).1, (fr _ hS).2.1, (fr _ hS).2.2, (hp'.at_ p hp).2⟩

def GY (G : Cx) (C : Cons) (σ0 : L2.St) : Protocol := fun n s₀ v s kap =>
  ∃ ys x pl H, n + 1 + ys.length = sizeLine ∧ RelV x v ∧ PinsAt C.Ss pl s.heap ∧ C.Gh ys pl ∧ Inv G pl σ0 H s ∧ C.Th ys x H ∧
    (∀ b ∈ C.Ss, s.heap.get? b = s₀.heap.get? b) ∧ ∀ s' pl', Sleeps C.Ss s s' → PinsAt C.Ss pl' s'.heap → C.Gh (ys ++ [x]) pl' → kap (.send .none) s'
def GP (G : Cx) (C : Cons) (σ0 : L2.St) (s₀ s : Shared) : Prop := ∃ ys pl H, ys.length ≤ sizeLine ∧ PinsAt C.Ss pl s.heap ∧ C.Gh ys pl ∧ Inv G pl σ0 H s ∧ C.Qe ys H ∧ ∀ b ∈ C.Ss, s.heap.get? b = s₀.heap.get? b
def GR (G : Cx) (C : Cons) (σ0 : L2.St) : GenEnd := fun n s₀ r s => r = .ok .next ∧ GP G C σ0 s₀ s
theorem PinsAt.same {Ss : List Addr} {pl : Pins} {h h' : Heap} (a : PinsAt Ss pl h) (b : PinsAt Ss pl h') : ∀ x ∈ Ss, h'.get? x = h.get? x := fun x hx => by
  rw [← a.ad] at hx
  obtain ⟨p, hp, e⟩ := List.mem_map.mp hx
  rw [← e, (a.at_ p hp).1, (b.at_ p hp).1]

theorem over_gl {A : Around} {elt : Expr} {gens : List Comprehension} {scope : Scope} {pos : Pos} {it acc : Value} {env : Env} : A.over (.compLoop (.GeneratorExp elt gens scope pos) 0 it acc env) [] = A.deeper env := by
  first
    | rfl
    | (obtain ⟨hd, d, fr, gs, u⟩ := A; simp [Around.over, Around.deeper, marksOver, frameCount, unitsOf, envsOf, guardsOf, pushEnvs, pushGuards, Code.envs, Code.env?, Code.isFrame, Code.guards, Code.isGuard, Code.weight, Code.frames, Code.isCreation, Code.isCaller, Code.cUnits])

/-- what each turn is to bring -/
def Turns (J : It) (g : TG) (tt : TT) (te : TE) (σ0 : L2.St) (own : List Nat) (Th : List V → V → Hp → Prop) (Qe : List V → Hp → Prop) (W : Nat → Nat → List V → Hp → Prop) : Prop :=
  ∀ i m ys H, W i m ys H → (J.stop i H ∧ Qe ys H) ∨ (J.go i H ∧ ∃ Nx : List V → Hp → Prop, (∀ ys' H', Nx ys' H' → ∃ m', m' < m ∧ W (i + 1) m' ys' H') ∧
    ∀ x H', J.yld i H x H' → g x σ0 H' fun σ2 H2 => wipe σ2 own = σ0 ∧ tt σ2 H2 fun b H3 =>
      if b = true then te σ2 H3 fun y H4 => ys.length < sizeLine ∧ Th ys y H4 ∧ Nx (ys ++ [y]) H4 else Nx ys H3)

section
variable {G : Cx} {A : Around} {C : Cons} {cenv : Env} {tg elt iter : Expr} {ifs : List Expr} {scope : Scope} {pos : Pos} {J : It} {fp : List Addr} {it : Addr} {tn : Nat → Heap → Prop} {g : TG} {tt : TT} {te : TE} {σ0 : L2.St} {own : List Nat}
  {W : Nat → Nat → List V → Hp → Prop}
theorem seg_loop (hA : A.deeper cenv = G.A) (hE : G.env = cenv) (hcalm : G.calm = true) (hxe : G.xe = fun _ _ => False) (hco : cenv.scope.isCoroutine = false)
    (T : Turn G.prog G.w G.K tg J fp it tn) (hg : PG G tg g) (ht : PTs G ifs tt) (he : PE G elt te)
    (hpn : ∀ p ∈ G.pn, p.1 ∉ C.Ss) (hap : ∀ b ∈ C.Ss, G.s_0.heap.objs.size ≤ b ∧ b ≠ G.env.locals ∧ ∀ x c, G.env.cells.lookup x = some c → c ≠ b)
    (hfp : ∀ b ∈ fp, b ≠ G.env.locals ∧ b ∉ G.fs ∧ (b ∈ G.ex ∨ G.s_0.heap.objs.size ≤ b) ∧ (∀ x c, G.env.cells.lookup x = some c → c ≠ b) ∧ (∀ p ∈ G.pn, p.1 ≠ b) ∧ b ∉ C.Ss)
    (tr : Turns J g tt te σ0 own C.Th C.Qe W) :
    ∀ (m i n : Nat) (ys : List V) (s₀ s : Shared) (H : Hp) (pl : Pins), n + ys.length = sizeLine → W i m ys H → PinsAt C.Ss pl s.heap → C.Gh ys pl → Inv G pl σ0 H s → tn i s.heap → (∀ b ∈ fp, H b = none) → (∀ b ∈ C.Ss, s.heap.get? b = s₀.heap.get? b) →
      Seg (model G.prog G.w) A (GR G C σ0) (GY G C σ0) n s₀ (.compLoop (.GeneratorExp elt [⟨tg, iter, ifs, 0⟩] scope pos) 0 (.ref it) .none cenv)
        ((model G.prog G.w).den (.compLoop (.GeneratorExp elt [⟨tg, iter, ifs, 0⟩] scope pos) 0 (.ref it) .none cenv)) [] s := by
  subst hE
  intro m
  induction m using Nat.strongRecOn with
  | ind m ih =>
    intro i n ys s₀ s H pl hn w hp hgh I hst hfr hs0
    have hov : A.over (.compLoop (.GeneratorExp elt [⟨tg, iter, ifs, 0⟩] scope pos) 0 (.ref it) .none G.env) [] = G.A := over_gl.trans hA
    have stat : ∀ {pl' : Pins} {H' : Hp}, (pl'.map (·.1) = C.Ss) → (∀ b ∈ fp, H' b = none) → ∀ b ∈ fp, FpOk G pl' H' b := fun {pl' H'} had hn b hb => by
      obtain ⟨h1, h2, h3, h4, h5, h6⟩ := hfp b hb
      refine ⟨hn b hb, h1, h2, h3, h4, fun p hp => ?_⟩
      rcases List.mem_append.mp hp with hp | hp
      · exact h5 p hp
      · intro e
        exact h6 (by rw [← had, ← e]; exact List.mem_map.mpr ⟨p, hp, rfl⟩)
    show Seg _ A _ _ _ s₀ _ ((compTurn (.GeneratorExp elt [⟨tg, iter, ifs, 0⟩] scope pos) 0 (.ref it) .none G.env).onRaise (leaving G.env)) [] s
    rw [compTurn_gen, Sem.onRaise_eq_wrap]
    refine seg_bind_wrap (wpAny_standAt ?_)
    rcases tr i m ys H w with ⟨stop, qn⟩ | ⟨go, Nx, hN, step⟩
    · refine seg_bind_wrap ?_
      rw [hov]
      refine thn (T.done G rfl rfl rfl hcalm i pl s σ0 H _ I (stat hp.ad hfr) hst stop) fun r s4 ⟨hr, I4⟩ => ?_
      subst hr
      have hp4 : PinsAt C.Ss pl s4.heap := ⟨hp.ad, fun p hm => ⟨(I4.pin p (List.mem_append_right _ hm)).1, (hp.at_ p hm).2⟩⟩
      exact seg_end (.ok .next) ⟨rfl, ys, pl, H, by omega, hp4, hgh, I4, qn, fun b hb => (hp.same hp4 b hb).trans (hs0 b hb)⟩
    · refine seg_bind_wrap ?_
      rw [hov]
      refine thn (T.item G rfl rfl rfl hcalm i pl s σ0 H _ I (stat hp.ad hfr) hst go) fun r s4 ⟨u, hr, h4⟩ => ?_
      subst hr
      refine seg_bind_wrap ?_
      rw [hov]
      refine thn h4 fun _ s5 ⟨x, H5, I5, r5, y5, st5, fr5⟩ => ?_
      have I5' := I5.pinned (stat hp.ad fr5) (T.obj _ _ st5)
      refine seg_bind_wrap ?_
      rw [hov]
      refine wpAny_mono (hg.run _ s5 σ0 H5 x u _ I5' r5 (step x H5 y5)) (fun _ s6 ⟨σ6, H6, I6, hw6, q6⟩ => ?_) fun e s' hx => absurd hx (by rw [hxe]; exact fun z => z)
      refine seg_bind_wrap ?_
      rw [hov]
      refine wpAny_mono (ht.run _ s6 σ6 H6 _ I6 q6) (fun ok s7 ⟨H7, I7, q7⟩ => ?_) fun e s' hx => absurd hx (by rw [hxe]; exact fun z => z)
      have back : ∀ {s8 : Shared} {H8 : Hp}, Inv G (pl ++ pinsAt fp s5.heap) σ6 H8 s8 → Inv G pl σ0 H8 s8 ∧ PinsAt C.Ss pl s8.heap ∧ (∀ b ∈ fp, H8 b = none) ∧ ∀ b ∈ fp, ∀ o, s5.heap.get? b = some o → s8.heap.get? b = some o := fun {s8 H8} I8 => by
        refine ⟨(I8.unpinned).weak (by rw [← hw6, wipe_length]) fun j v hv => ?_, ⟨hp.ad, fun p hm => ?_⟩, fun b hb => ?_, fun b hb o e => ?_⟩
        · rw [← hw6] at hv
          exact (wipe_some hv).1
        · exact ⟨(I8.pin p (List.mem_append_right _ (List.mem_append_left _ hm))).1, (hp.at_ p hm).2⟩
        · obtain ⟨o, e, d⟩ := T.obj _ _ st5 b hb
          exact (I8.pin (b, o) (List.mem_append_right _ (List.mem_append_right _ (mem_pinsAt hb e)))).2.1
        · exact (I8.pin (b, o) (List.mem_append_right _ (List.mem_append_right _ (mem_pinsAt hb e)))).1
      cases ok with
      | false =>
        rw [if_neg Bool.false_ne_true] at q7
        simp only [Bool.false_eq_true, if_false]
        obtain ⟨I8, hp8, hf8, hk8⟩ := back I7
        obtain ⟨m', hm', w'⟩ := hN _ _ q7
        exact seg_again rfl (ih m' hm' (i + 1) n ys s₀ s7 H7 pl hn w' hp8 hgh I8 (T.keep _ _ _ st5 hk8) hf8 fun b hb => (hp.same hp8 b hb).trans (hs0 b hb))
      | true =>
        rw [if_pos rfl] at q7
        simp only [if_true]
        have hy : ∀ v, yieldOut G.env v = yieldValue v := fun v => by simp only [yieldOut, hco, Bool.false_eq_true, if_false]
        simp only [hy]
        rw [Sem.bind_eq_wrap', Sem.bind_eq_wrap', Sem.wrap_wrap, Sem.wrap_wrap]
        refine seg_wrap ?_
        rw [hov]
        refine wpAny_mono (he.run _ s7 σ6 H7 _ I7 q7) (fun v s8 ⟨y, H8, I8', r8, hlt, hth, hnx⟩ => ?_) fun e s' hx => absurd hx (by rw [hxe]; exact fun z => z)
        obtain ⟨n, rfl⟩ : ∃ k, n = k + 1 := ⟨n - 1, by omega⟩
        obtain ⟨I8, hp8, hf8, hk8⟩ := back I8'
        obtain ⟨m', hm', w'⟩ := hN _ _ hnx
        refine seg_at (seg_yield rfl rfl rfl ⟨ys, y, pl, H8, hn, r8, hp8, hgh, I8, hth, fun b hb => (hp.same hp8 b hb).trans (hs0 b hb), fun s'' pl' hsl hpl' hgh' => ?_⟩)
        refine seg_again rfl (ih m' hm' (i + 1) n (ys ++ [y]) s'' s'' H8 pl' (by rw [List.length_append, List.length_singleton]; omega) w' hpl' hgh' (woken hpn hap hp8 I8 hsl hpl')
          (T.keep _ _ _ st5 fun b hb o e => hsl.keep b o (hfp b hb).2.2.2.2.2 (hk8 b hb o e)) hf8 fun _ _ => rfl)

theorem seg_start (hA : A.deeper cenv = G.A) (hE : G.env = cenv) (hcalm : G.calm = true) (hxe : G.xe = fun _ _ => False) (hco : cenv.scope.isCoroutine = false)
    (T : Turn G.prog G.w G.K tg J fp it tn) (hg : PG G tg g) (ht : PTs G ifs tt) (he : PE G elt te)
    (hpn : ∀ p ∈ G.pn, p.1 ∉ C.Ss) (hap : ∀ b ∈ C.Ss, G.s_0.heap.objs.size ≤ b ∧ b ≠ G.env.locals ∧ ∀ x c, G.env.cells.lookup x = some c → c ≠ b)
    (hfp : ∀ b ∈ fp, b ≠ G.env.locals ∧ b ∉ G.fs ∧ (b ∈ G.ex ∨ G.s_0.heap.objs.size ≤ b) ∧ (∀ x c, G.env.cells.lookup x = some c → c ≠ b) ∧ (∀ p ∈ G.pn, p.1 ≠ b) ∧ b ∉ C.Ss)
    (tr : Turns J g tt te σ0 own C.Th C.Qe W) {m : Nat} {s₀ s : Shared} {H : Hp} {pl : Pins} (w : W 0 m [] H) (hp : PinsAt C.Ss pl s.heap) (hgh : C.Gh [] pl) (I : Inv G pl σ0 H s) (hst : tn 0 s.heap) (hfr : ∀ b ∈ fp, H b = none) (hs0 : ∀ b ∈ C.Ss, s.heap.get? b = s₀.heap.get? b) :
    Seg (model G.prog G.w) A (GR G C σ0) (GY G C σ0) sizeLine s₀ (.compStart (.GeneratorExp elt [⟨tg, iter, ifs, 0⟩] scope pos) 0 (.ref it) .none cenv)
      ((model G.prog G.w).den (.compStart (.GeneratorExp elt [⟨tg, iter, ifs, 0⟩] scope pos) 0 (.ref it) .none cenv)) [] s := by
  have loop := seg_loop (iter := iter) (scope := scope) (pos := pos) hA hE hcalm hxe hco T hg ht he hpn hap hfp tr m 0 sizeLine [] s₀ s H pl rfl w hp hgh I hst hfr hs0
  show Seg _ A _ _ _ s₀ _ ((compStart (.GeneratorExp elt [⟨tg, iter, ifs, 0⟩] scope pos) 0 (.ref it) .none cenv).onRaise (leaving cenv)) [] s
  unfold compStart
  rw [Sem.onRaise_eq_wrap]
  show Seg _ A _ _ _ s₀ _ ((ask >>= _).wrap _ _ _ _) [] s
  refine seg_bind_wrap (wpAny_askSetting ?_)
  split
  · exact seg_again rfl loop
  · first
      | exact seg_bind_wrap (wpAny_rule (seg_bind_wrap (wpAny_standAt (seg_bind_wrap (T.self _ 0 s _ _ hst (seg_again rfl loop))))))
      | (refine seg_bind_wrap (wpAny_rule ?_); show Seg _ A _ _ _ s₀ _ ((standAt iter.pos >>= _).wrap _ _ _ _) [] s; exact seg_bind_wrap (wpAny_standAt (seg_bind_wrap (T.self _ 0 s _ _ hst (seg_again rfl loop)))))
end
end GX
set_option Elab.async false
set_option linter.all false
set_option maxRecDepth 100000
set_option maxHeartbeats 4000000
namespace GX
open PySem PySem.Spec PyProof.Rows L2 GenW

section
variable {X : Cx} {pins : Pins} {σ : L2.St} {H : Hp} {sB : Shared} {N' : List Str} {cm : List (Option Nat)} {scope : Scope}
theorem gen_start (I : Inv X pins σ H sB) (ok : CapOk X.N N' cm scope X.env.scope) {code : Value} {fp : List Addr} (hfp : ∀ b ∈ fp, FpOk X pins H b ∧ b < sB.heap.objs.size)
    {A : Around} (hA : A.handled = none) (hfr : A.frames = some (genEnv scope (cloFrom X.env.cells scope.names []) sB.heap.objs.size code builtinsNs X.env :: X.stack))
    {s2 : Shared} {m0 : Str → Option Value} (hn : s2.heap.Ns sB.heap.objs.size m0) (hk : ∀ b o, sB.heap.get? b = some o → s2.heap.get? b = some o) (hos : s2.os = sB.os) (hb : AllBare s2.gens) {pn pl : Pins}
    (hp : ∀ p ∈ pn ++ pl, s2.heap.get? p.1 = some p.2 ∧ sB.heap.objs.size < p.1 ∧ ∀ v, p.2.data ≠ .cell v) :
    Inv (gcx X sB H N' (genEnv scope (cloFrom X.env.cells scope.names []) sB.heap.objs.size code builtinsNs X.env) fp A pn) pl (captS cm σ) H s2 := by
  have hfree : ∀ y ∈ scope.names, y.2 = .free → ∃ c, X.env.cells.lookup y.1 = some c := fun y hy e => by
    rcases ok.free y hy e with k | k
    · exact I.ok.has _ (.inl k)
    · exact I.ok.has _ (.inr k)
  have cm1 : ∀ {y c}, (cloFrom X.env.cells scope.names []).lookup y = some c → X.env.cells.lookup y = some c ∧ c < sB.heap.objs.size := fun {y c} hm => by
    rcases cloFrom_mem (PySem.mem_of_lookup hm) with hm | ⟨h1, rfl⟩
    · cases hm
    · obtain ⟨c, hc⟩ := hfree _ h1 rfl
      rw [hc]
      obtain ⟨w, z⟩ := I.cell _ _ hc
      exact ⟨rfl, z.lt⟩
  have look : ∀ {y}, scope.names.lookup y = some .free → ∃ c, (cloFrom X.env.cells scope.names []).lookup y = some c ∧ X.env.cells.lookup y = some c := fun {y} hl => by
    have hy : (y, NameKind.free) ∈ scope.names := PySem.mem_of_lookup hl
    obtain ⟨c', e'⟩ := mem_lookup (cloFrom_has (cells := X.env.cells) (acc := []) hy)
    exact ⟨c', e', (cm1 e').1⟩
  have nstk : ∀ b, sB.heap.objs.size ≤ b → b ∉ frs X.stack := fun b hb z => by
    rcases List.mem_cons.mp (I.stkSub b z) with z | z
    · exact absurd (Nat.lt_of_lt_of_le I.lt (by rw [← z]; exact hb)) (Nat.lt_irrefl _)
    · exact I.nofs hb z
  have okB : (gcx X sB H N' (genEnv scope (cloFrom X.env.cells scope.names []) sB.heap.objs.size code builtinsNs X.env) fp A pn).Ok := by
    refine ⟨I.ok.mod, ok.kind, I.ok.glob, rfl, Nat.le_refl _, fun y z c e1 e2 => I.ok.inj y z c (cm1 e1).1 (cm1 e2).1, fun y hy => ?_, fun y c z e => ?_, fun _ => hA, hfr, .inr ⟨rfl, rfl⟩, fun b hb => ⟨?_, fun y c e z => ?_⟩, I.bs, Nat.le_trans I.ok.bsz I.sz, fun b o e hb => ?_, fun b hb z => ?_, I.stack, I.stkFree⟩
    · rcases hy with hy | hy
      · exact absurd rfl (ok.cell _ (PySem.mem_of_lookup hy))
      · obtain ⟨c, h1, _⟩ := look hy
        exact ⟨c, h1⟩
    · exact absurd (show false = true from z) Bool.false_ne_true
    · exact Nat.ne_of_lt (hfp b hb).2
    · exact (hfp b hb).1.2.2.2.2.1 y c (cm1 e).1 z
    · rcases (hfp b hb).1.2.2.2.1 with z | z
      · exact I.ok.noex b o e z
      · exact absurd (Nat.lt_of_lt_of_le (Heap.lt_size e) (Nat.le_trans I.ok.bsz z)) (Nat.lt_irrefl _)
    · rcases List.mem_cons.mp (I.stkSub b z) with z | z
      · exact (hfp b hb).1.2.1 z
      · exact (hfp b hb).1.2.2.1 z
  refine ⟨okB, hos, hb, Un.kept hk, ⟨m0, hn, fun i y av e1 e2 e3 => ?_⟩, fun y c e => ?_, I.hok.fresh (Nat.le_refl _), fun y c e => I.freeC y c (cm1 e).1, fun p hm => ?_, I.hok.kept hk, by
    show (captS cm σ).length = N'.length
    unfold captS
    rw [List.length_map, ok.len]⟩
  · obtain ⟨j, hj, hs⟩ := captS_some e2
    obtain ⟨hy, hf⟩ := ok.capt hj e1
    obtain ⟨m, hn2, hl⟩ := I.loc
    have hvis : Vis X.env.scope y := (ok.free _ (PySem.mem_of_lookup hf) rfl).elim (fun k => .inr (.inl k)) (fun k => .inr (.inr k))
    obtain ⟨w, r, q⟩ := hl j y av hy hs hvis
    refine ⟨w, r, .inr ⟨.inr hf, ?_⟩⟩
    obtain ⟨c, h1, h2⟩ := look hf
    rcases q with ⟨k, _⟩ | ⟨_, c', e', z⟩
    · have k : X.env.scope.names.lookup y = some .local := k
      rcases ok.free _ (PySem.mem_of_lookup hf) rfl with k' | k' <;> rw [show X.env.scope.names.lookup y = _ from k'] at k <;> cases k
    · rw [h2] at e'; cases e'
      exact ⟨c, h1, z.keeps hk⟩
  · obtain ⟨w, z⟩ := I.cell y c (cm1 e).1
    exact ⟨w, z.keeps hk⟩
  · obtain ⟨h1, h2, h3⟩ := hp p hm
    exact ⟨h1, I.hok.fresh (Nat.le_of_lt h2), Nat.ne_of_gt h2, nstk _ (Nat.le_of_lt h2), h3⟩
end

/-- a code object's table, whatever it holds -/
def TabX (P : Addr) : HO := .ext fun h => ∃ ps : Array Value, h.get? P = some { cls := .none, data := .fields ps } ∧ TriplesOk ps.toList
theorem tabx_ok {prog : Program} {w : World} {H : Hp} {h : Heap} {P : Addr} {ps : Array Value} (e : h.get? P = some { cls := .none, data := .fields ps }) (t : TriplesOk ps.toList) : ObjOk prog w H h P (TabX P) :=
  ⟨⟨ps, e, t⟩, ⟨_, e⟩, fun h1 h2 ⟨qs, e1, t1⟩ k => ⟨qs, k _ e1, t1⟩⟩
theorem upd_id {H : Hp} {a : Addr} {o : HO} (h : H a = some o) : upd H a o = H := by
  funext b
  by_cases e : b = a
  · rw [e, upd_same, h]
  · rw [upd_ne e]
/-- a generator that has not begun -/
def RdG (X : Cx) (pins : Pins) (σ : L2.St) (k : Nat) (Th : List V → V → Hp → Prop) (Qe : List V → Hp → Prop) (u : Value) (s' : Shared) : Prop :=
  ∃ (a : Addr) (g : Nat) (c : Code) (go : Obj) (sB : Shared) (HB : Hp) (N' : List Str) (cenv : Env) (fp : List Addr) (σ0 : L2.St),
    u = .ref a ∧ Inv X pins σ HB sB ∧ ExOk X pins fp ∧ sB.heap.objs.size < a ∧ a < s'.heap.objs.size ∧ (∀ h : Heap, h.get? a = some go → h.IsGen a g) ∧ s'.heap.get? a = some go ∧ s'.gens[g]? = some (.fresh c) ∧ s'.os = sB.os ∧ AllBare s'.gens ∧ (∀ b o, sB.heap.get? b = some o → s'.heap.get? b = some o) ∧
    ∀ (A : Around) (s2 : Shared) (Ss : List Addr) (Gh : List V → Pins → Prop) (pl : Pins), Room (k + 1) A → A.frames = some X.stack → (∀ b ∈ Ss, s'.heap.objs.size ≤ b) → (∀ b o, s'.heap.get? b = some o → s2.heap.get? b = some o) → s2.os = sB.os → AllBare s2.gens → PinsAt Ss pl s2.heap → Gh [] pl →
      Seg (model X.prog X.w) A (GR (gcx X sB HB N' cenv fp (A.deeper cenv) [(a, go)]) ⟨Ss, Gh, Th, Qe⟩ σ0) (GY (gcx X sB HB N' cenv fp (A.deeper cenv) [(a, go)]) ⟨Ss, Gh, Th, Qe⟩ σ0) sizeLine s2 c ((model X.prog X.w).den c) [] s2
abbrev TGx := L2.St → Hp → (List V → V → Hp → Prop) → (List V → Hp → Prop) → Prop
structure PGx (X : Cx) (k : Nat) (e : Expr) (t : TGx) : Prop where
  run : ∀ (pins : Pins) (s : Shared) (σ : L2.St) (H : Hp) (Th : List V → V → Hp → Prop) (Qe : List V → Hp → Prop), Inv X pins σ H s → t σ H Th Qe → wpAny (model X.prog X.w) X.A (eval e X.env) (RdG X pins σ k Th Qe) X.xe s
/-- the reading of a generator expression -/
def tGx (P : Addr) (wi : TI) (g : TG) (tt : TT) (te : TE) (cm : List (Option Nat)) (own : List Nat) : TGx := fun σ H Th Qe => wi σ H fun J H1 => H1 P = some (TabX P) ∧
  ∃ W : Nat → Nat → List V → Hp → Prop, (∃ m, W 0 m [] H1) ∧ Turns J g tt te (captS cm σ) own Th Qe W

theorem pgx_gen {X : Cx} {c P : Addr} {elt iter tg : Expr} {ifs : List Expr} {scope : Scope} {gpos : Pos} {N' : List Str} {cm : List (Option Nat)} {own : List Nat} {wi : TI} {g : TG} {tt : TT} {te : TE} {k k0 : Nat}
    (hr : Room k0 X.A) (TB : GxR.TabB X.base X.mg c P) (hcode : X.env.code = .ref c) (ok : CapOk X.N N' cm scope X.env.scope) (hi : PI X tg iter wi)
    (hg : ∀ (sB : Shared) (HB : Hp) (cl : List (Str × Addr)) (L : Addr) (code : Value) (fp : List Addr) (A : Around) (pn : Pins), Room k A → PG (gcx X sB HB N' (genEnv scope cl L code builtinsNs X.env) fp A pn) tg g)
    (ht : ∀ (sB : Shared) (HB : Hp) (cl : List (Str × Addr)) (L : Addr) (code : Value) (fp : List Addr) (A : Around) (pn : Pins), Room k A → PTs (gcx X sB HB N' (genEnv scope cl L code builtinsNs X.env) fp A pn) ifs tt)
    (he : ∀ (sB : Shared) (HB : Hp) (cl : List (Str × Addr)) (L : Addr) (code : Value) (fp : List Addr) (A : Around) (pn : Pins), Room k A → PE (gcx X sB HB N' (genEnv scope cl L code builtinsNs X.env) fp A pn) elt te)
    (hs : ∀ v, genFold iter X.env v = pure v := by intro _; rfl) : PGx X k (.GeneratorExp elt [⟨tg, iter, ifs, 0⟩] scope gpos) (tGx P wi g tt te cm own) := by
  refine ⟨fun pins s σ H Th Qe I h => ?_⟩
  have hfree : ∀ y ∈ scope.names, y.2 = .free → ∃ c, X.env.cells.lookup y.1 = some c := fun y hy e => by
    rcases ok.free y hy e with k | k
    · exact I.ok.has _ (.inl k)
    · exact I.ok.has _ (.inr k)
  refine wpAny_GeneratorExp_make ok.co (closure_ok hfree) ok.cell ok.dot ok.kind (by have := hr.dp; omega) ?_ hs
  refine thn (hi.run pins s σ H _ I h) fun xv s1 h1 => thn h1 fun itv s2 h2 => ?_
  obtain ⟨it, fp, tn, J, H2, rfl, I2, T, st2, f2, hP, W, ⟨m0, w0⟩, tr⟩ := h2
  obtain ⟨⟨ps, hPs, ht3⟩, _, _⟩ := I2.hok P _ hP
  have cd : PySem.W.CodeHd s2.heap c P := TB.code.keeps fun b u e => I2.bk b u e
  have fpP : ∀ b ∈ fp, b ≠ P := fun b hb z => by
    have q := (f2 b hb).1
    rw [z, hP] at q; cases q
  have fplt : ∀ b ∈ fp, b < s2.heap.objs.size := fun b hb => let ⟨o, e, _⟩ := T.obj _ _ st2 b hb; Heap.lt_size e
  have cont : ∀ (code : Value) (h3 : Heap) (tk : Nat) (ps' : Array Value), Heap.ExtBut P s2.heap h3 → s2.heap.objs.size ≤ h3.objs.size → h3.get? P = some { cls := .none, data := .fields ps' } → (∃ more, ps' = ps ++ more) → TriplesOk ps'.toList →
      wpAny (model X.prog X.w) X.A (builtinsFor X.env.globals X.env.builtins) (fun bi s₄ =>
        ∀ h', h'.Ns s₄.heap.objs.size (fun y => if y = ".0" then some (.ref it) else none) → Heap.SameBut s₄.heap.objs.size (s₄.heap.push { cls := .type "frame", data := .dict #[] }) h' →
          RdG X pins σ k Th Qe (.ref h'.objs.size) { s₄ with
            gens := s₄.gens.push (.fresh (.compStart (.GeneratorExp elt [⟨tg, iter, ifs, 0⟩] scope gpos) 0 (.ref it) .none (genEnv scope (cloFrom X.env.cells scope.names []) s₄.heap.objs.size code bi X.env))),
            toks := s₄.toks + 1 + 1 + 1,
            heap := h'.push { cls := .type "generator", data := .fields #[.int s₄.gens.size 0, .str "<genexpr>" (s₄.toks + 1), .str (X.env.qual ++ "<genexpr>") (s₄.toks + 1 + 1)] } }) X.xe { s2 with heap := h3, toks := tk } := by
    intro code h3 tk ps' hx hsz hP3 hmore ht4
    obtain ⟨bm, ob, e1, e2, e3, e4, e5, e6, e7, e8⟩ := TB.bm
    refine wpAny_builtinsFor (m := X.mg) (by rw [I2.ok.glob]; exact (I2.mod.glob.keeps I2.bk).extBut hx TB.gP) e1 e2 (hx _ _ e4 (I2.bk _ _ e5)) e6 e7 e8 ?_
    intro h' hn' hs'
    obtain ⟨more, em⟩ := hmore
    subst em
    have J3 : Inv X pins σ H2 { s2 with heap := h3, toks := tk } := by
      have q := I2.write (x := P) (e := P) (o := TabX P) (h' := h3) (t' := tk) (by rw [hP]; trivial) (.inl rfl) (fun b u hb hu => hx b u hb hu) ⟨_, hP3⟩ (tabx_ok hP3 ht4)
      rw [upd_id hP] at q
      exact q
    generalize hgo : ({ cls := .type "generator", data := .fields #[.int s2.gens.size 0, .str "<genexpr>" (tk + 1), .str (X.env.qual ++ "<genexpr>") (tk + 1 + 1)] } : Obj) = go
    have hsz' : h'.objs.size = h3.objs.size + 1 := by
      have q := hs'.1
      rw [q, Heap.size_push]
    have keep' : ∀ b o, h3.get? b = some o → h'.get? b = some o := fun b o e => hs'.extBut b o (Nat.ne_of_lt (Heap.lt_size e)) (Heap.get?_push_of_some _ e)
    have goat : (h'.push go).get? h'.objs.size = some go := by
      subst hgo
      exact Heap.get?_push_size _ rfl
    have fp3 := f2
    refine ⟨h'.objs.size, s2.gens.size, _, go, { s2 with heap := h3, toks := tk }, H2, N', genEnv scope (cloFrom X.env.cells scope.names []) h3.objs.size code builtinsNs X.env, fp, captS cm σ, rfl, J3, fun b hb => ⟨(f2 b hb).2.2.2.1, (f2 b hb).2.1, (f2 b hb).2.2.2.2.1, (f2 b hb).2.2.2.2.2⟩, ?_, ?_, fun h e => ?_, goat, Array.getElem?_push_size .., rfl, ?_, fun b o e => ?_, fun A s2' Ss Gh pl hrA hfr hSs hk2 hos2 hb2 hpl hgh => ?_⟩
    · show h3.objs.size < h'.objs.size
      omega
    · show h'.objs.size < (h'.push _).objs.size
      rw [Heap.size_push]; exact Nat.lt_succ_self _
    · subst hgo
      exact ⟨_, _, _, e, rfl, rfl, rfl⟩
    · exact AllBare.push I2.bare rfl
    · exact Heap.get?_push_of_some _ (keep' b o e)
    · have keep2 : ∀ b o, h3.get? b = some o → s2'.heap.get? b = some o := fun b o e => hk2 b o (Heap.get?_push_of_some _ (keep' b o e))
      have hpins : ∀ p ∈ [(h'.objs.size, go)] ++ pl, s2'.heap.get? p.1 = some p.2 ∧ h3.objs.size < p.1 ∧ ∀ v, p.2.data ≠ .cell v := fun p hp => by
        rcases List.mem_append.mp hp with hp | hp
        · rw [List.mem_singleton.mp hp]
          refine ⟨hk2 h'.objs.size go ?_, by show h3.objs.size < h'.objs.size; omega, fun v q => by subst hgo; cases q⟩
          exact goat
        · have hS : p.1 ∈ Ss := by rw [← hpl.ad]; exact List.mem_map.mpr ⟨p, hp, rfl⟩
          have q := hSs _ hS
          have q2 : (h'.push go).objs.size ≤ p.1 := by subst hgo; exact q
          rw [Heap.size_push] at q2
          refine ⟨(hpl.at_ p hp).1, ?_, (hpl.at_ p hp).2⟩
          have q3 : h'.objs.size < p.1 := Nat.lt_of_succ_le q2
          rw [hsz'] at q3
          exact Nat.lt_of_succ_lt q3
      have IG := gen_start (code := code) (cm := cm) (N' := N') (fp := fp) J3 ok (fun b hb => ⟨fp3 b hb, Nat.lt_of_lt_of_le (fplt b hb) hsz⟩) (A := A.deeper (genEnv scope (cloFrom X.env.cells scope.names []) h3.objs.size code builtinsNs X.env)) hrA.hd
        (by show A.frames.map _ = _; rw [hfr]; rfl) (s2 := s2') (m0 := fun y => if y = ".0" then some (.ref it) else none) ((hn'.push _).keeps hk2) keep2 hos2 hb2 hpins
      have hSlt : ∀ b ∈ Ss, h'.objs.size < b := fun b hb => by
        have q := hSs b hb
        have q2 : (h'.push go).objs.size ≤ b := by subst hgo; exact q
        rw [Heap.size_push] at q2
        exact Nat.lt_of_succ_le q2
      have hrD := hrA.deeper (genEnv scope (cloFrom X.env.cells scope.names []) h3.objs.size code builtinsNs X.env)
      have cmL : ∀ {y c}, (cloFrom X.env.cells scope.names []).lookup y = some c → X.env.cells.lookup y = some c := fun {y c} hm => by
        rcases cloFrom_mem (PySem.mem_of_lookup hm) with hm | ⟨h1, rfl⟩
        · cases hm
        · obtain ⟨c, hc⟩ := hfree _ h1 rfl
          rw [hc] <;> rfl
      refine seg_start (G := gcx X { s2 with heap := h3, toks := tk } H2 N' (genEnv scope (cloFrom X.env.cells scope.names []) h3.objs.size code builtinsNs X.env) fp (A.deeper (genEnv scope (cloFrom X.env.cells scope.names []) h3.objs.size code builtinsNs X.env)) [(h'.objs.size, go)]) (C := ⟨Ss, Gh, Th, Qe⟩) (own := own) (W := W) rfl rfl rfl rfl ok.co T (hg _ _ _ _ _ _ _ _ hrD) (ht _ _ _ _ _ _ _ _ hrD) (he _ _ _ _ _ _ _ _ hrD) (fun p hp z => ?_) (fun b hb => ⟨?_, ?_, fun x c e z => ?_⟩) (fun b hb => ⟨?_, ?_, .inl hb, fun x c e => ?_, fun p hp => ?_, fun z => ?_⟩) tr w0 hpl hgh IG (T.keep _ _ _ st2 fun b hb o e => ?_) (fun b hb => (fp3 b hb).1) (fun _ _ => rfl)
      · rw [List.mem_singleton.mp hp] at z
        exact Nat.lt_irrefl _ (hSlt _ z)
      · exact Nat.le_of_lt (Nat.lt_of_le_of_lt (by omega : h3.objs.size ≤ h'.objs.size) (hSlt b hb))
      · exact Nat.ne_of_gt (Nat.lt_of_le_of_lt (by omega : h3.objs.size ≤ h'.objs.size) (hSlt b hb))
      · obtain ⟨w, q⟩ := I2.cell x c (cmL e)
        have q1 := q.lt
        rw [z] at q1
        exact Nat.lt_irrefl _ (Nat.lt_trans (Nat.lt_of_lt_of_le q1 hsz) (Nat.lt_of_le_of_lt (by omega : h3.objs.size ≤ h'.objs.size) (hSlt b hb)))
      · exact Nat.ne_of_lt (Nat.lt_of_lt_of_le (fplt b hb) hsz)
      · intro z
        rcases List.mem_cons.mp (J3.stkSub b z) with z | z
        · exact (fp3 b hb).2.1 z
        · exact (fp3 b hb).2.2.1 z
      · exact (f2 b hb).2.2.2.2.1 x c (cmL e)
      · rw [List.mem_singleton.mp hp]
        exact Nat.ne_of_gt (Nat.lt_of_lt_of_le (fplt b hb) (by omega : s2.heap.objs.size ≤ h'.objs.size))
      · exact Nat.lt_irrefl _ (Nat.lt_trans (Nat.lt_of_lt_of_le (fplt b hb) (by omega : s2.heap.objs.size ≤ h'.objs.size)) (hSlt b z))
      · exact keep2 b o (hx b o (fpP b hb) e)
  refine ⟨I2.nolimit, ?_⟩
  cases hf : codeAmong gpos ps.toList with
  | none =>
    refine wpAny_genexprCodeX hcode (cd.code hPs ht3) (cd.tab hPs) hf fun c' h' tk hx hge hlt hco' _ htab' _ => ?_
    obtain ⟨o1, vs, f1, tf, fl, tg, inF, tx, tt, op, _, _, _, _, _, _, _, _, _, htr, _⟩ := hco'
    exact cont _ h' tk _ hx (Nat.le_trans hge (Nat.le_of_lt hlt)) htab'.2 ⟨_, rfl⟩ htr
  | some cv =>
    refine wpAny_genexprCode_hit hcode (cd.code hPs ht3) hf ?_
    exact cont cv s2.heap s2.toks ps (Heap.ExtBut.refl _ _) (Nat.le_refl _) hPs ⟨#[], by simp⟩ ht3
end GX
set_option Elab.async false
set_option linter.all false
set_option maxRecDepth 100000
set_option maxHeartbeats 4000000
namespace GX
open PySem PySem.Spec PyProof.Rows L2 GenW

/-- the generator g sleeps (or has not begun), n items at most are to come -/
def Susp (G : Cx) (C : Cons) (σ0 : L2.St) (A : Around) (g n : Nat) (s : Shared) : Prop :=
  ∃ gs, s.gens[g]? = some gs ∧ gs.Goes (model G.prog G.w) A.in1 (GR G C σ0) (GY G C σ0) n (.send .none) (s.setGen g .running)

section
variable {G : Cx} {C : Cons} {σ0 : L2.St} {A : Around} {a : Addr} {g n : Nat} {go : Obj} {s : Shared} {E : Value → Shared → Prop} {Q : Option Value → Shared → Prop}
theorem gx_next (hh : A.handled = none) (hd : A.depth < recursionLimit) (hl : s.heap.NoLimit) (hg : s.heap.IsGen a g) (hS : Susp G C σ0 A g n s)
    (hY : ∀ ys x v pl H s1, n - 1 + 1 + ys.length = sizeLine → RelV x v → PinsAt C.Ss pl s1.heap → C.Gh ys pl → Inv G pl σ0 H s1 → C.Th ys x H → (∀ b ∈ C.Ss, s1.heap.get? b = s.heap.get? b) →
      (∀ s' pl', Sleeps C.Ss s1 s' → s'.gens = s1.gens → PinsAt C.Ss pl' s'.heap → C.Gh (ys ++ [x]) pl' → ∃ m, n = m + 1 ∧ Susp G C σ0 A g m s') → Q (some v) s1)
    (hP : ∀ s1, GP G C σ0 s s1 → Q none s1) : wpAny (model G.prog G.w) A (pyNext (.ref a)) Q E s := by
  obtain ⟨gs, hgs, hgo⟩ := hS
  have hgl : g < s.gens.size := (Array.getElem?_eq_some_iff.mp hgs).1
  refine wpAny_gsz (n := g + 1) hgl ?_
  refine wpAny_pyNext_genexpQ (P := fun n s₀ s₁ => GP G C σ0 s₀ s₁) hh hl hd hg hgs hgo (fun v s₁ gs' hbare hv hsz => ?_) (fun s₁ hp h' hk hsz => ?_)
  · obtain ⟨ys, x, pl, H, h1, h2, h3, h4, h5, h6, h8, h7⟩ := hv
    have hsz1 : g < s₁.gens.size := by
      have q : (s₁.setGen g gs').gens.size = s₁.gens.size := setGen_size _ _ _
      have hsz' : g + 1 ≤ (s₁.setGen g gs').gens.size := hsz
      omega
    refine hY ys x v pl H _ h1 h2 h3 h4 (inv_gens h5 hbare) h6 h8 fun s' pl' hsl hge hpl' hgh' => ?_
    have hsl2 : Sleeps C.Ss s₁ (s'.setGen g .running) := ⟨hsl.os, allBare_setGen hsl.bare rfl, hsl.keep⟩
    have q := h7 (s'.setGen g .running) pl' hsl2 hpl' hgh'
    cases n with
    | zero => exact False.elim q
    | succ m =>
      refine ⟨m, rfl, gs', ?_, q⟩
      rw [hge]
      exact setGen_at hsz1
  · obtain ⟨ys, pl, H, h1, h2, h3, h4, h5, h6⟩ := hp
    have hp2 : PinsAt C.Ss pl h' := ⟨h2.ad, fun p hp => ⟨hk _ _ (h2.at_ p hp).1, (h2.at_ p hp).2⟩⟩
    have I1 := inv_gens (g := g) (x := .finished) h4 rfl
    exact hP _ ⟨ys, pl, H, h1, hp2, h3, I1.kept (t' := s₁.toks) hk, h5, fun b hb => (h2.same hp2 b hb).trans (h6 b hb)⟩
end

/-- a generator just made, now drained: at its first resumption -/
theorem susp_of {X : Cx} {A : Around} {C : Cons} {sB : Shared} {HB : Hp} {N' : List Str} {cenv : Env} {fp : List Addr} {σ0 : L2.St} {a g : Nat} {go : Obj} {c : Code} {s2 : Shared} (hgs : s2.gens[g]? = some (.fresh c))
    (h : Seg (model X.prog X.w) A.in1 (GR (gcx X sB HB N' cenv fp (A.in1.deeper cenv) [(a, go)]) C σ0) (GY (gcx X sB HB N' cenv fp (A.in1.deeper cenv) [(a, go)]) C σ0) sizeLine (s2.setGen g .running) c ((model X.prog X.w).den c) [] (s2.setGen g .running)) :
    Susp (gcx X sB HB N' cenv fp (A.in1.deeper cenv) [(a, go)]) C σ0 A g sizeLine s2 := ⟨_, hgs, rfl, h⟩

section
variable {X : Cx} {pins : Pins} {σ : L2.St} {HB H : Hp} {sB s' : Shared} {N' : List Str} {cenv : Env} {fp : List Addr} {σ0 : L2.St} {A : Around} {pn pl : Pins}
/-- back outside -/
theorem inv_back (I : Inv X pins σ HB sB) (hex : ExOk X pins fp) (J : Inv (gcx X sB HB N' cenv fp A pn) pl σ0 H s') : Inv X pins σ H s' :=
  I.call' (ch := fp) J.os J.base J.hok J.bare hex
end

/-! ### list.extend's loop -/
def GhL (S : Addr) : List V → Pins → Prop := fun ys pl => ∃ (acc : Array Value) (c : Nat), pl = [(S, lstObj acc c)] ∧ Vals ys acc.toList
theorem ghl_at {S : Addr} {ys : List V} {pl : Pins} {h : Heap} (g : GhL S ys pl) (p : PinsAt [S] pl h) : ∃ (acc : Array Value) (c : Nat), h.get? S = some (lstObj acc c) ∧ Vals ys acc.toList := by
  obtain ⟨acc, c, rfl, r⟩ := g
  exact ⟨acc, c, (p.at_ _ (List.mem_singleton.mpr rfl)).1, r⟩
theorem drainL {G : Cx} {Th : List V → V → Hp → Prop} {Qe : List V → Hp → Prop} {σ0 : L2.St} {A : Around} {a S : Addr} {g : Nat} {go : Obj} {res : Value} {R : Result → Shared → Prop} (hh : A.handled = none) (hd : A.depth < recursionLimit) (hpa : (a, go) ∈ G.pn) (hgo : ∀ h : Heap, h.get? a = some go → h.IsGen a g)
    (hSa : S ≠ a) (hSc : S ≠ cStatics)
    (hend : ∀ s' ys acc c pl H, ys.length ≤ sizeLine → s'.heap.get? S = some (lstObj acc c) → Vals ys acc.toList → Inv G pl σ0 H s' → H S = none → Qe ys H → R (.ok (.ret res)) s') :
    ∀ (n : Nat) (s : Shared), s.heap.NoLimit → s.heap.IsGen a g → Susp G ⟨[S], GhL S, Th, Qe⟩ σ0 A.in1 g n s → codeAny (model G.prog G.w) A (.builtin "list.extend.loop" ⟨[.ref S, .ref a, res], []⟩) R s := by
  intro n
  induction n using Nat.strongRecOn with
  | ind n ih =>
    intro s hl hg hS
    refine codeAny_builtin F.entry_extend_loop ?_
    rw [Around.under_plainId F.plain_extend_loop _]
    show wpAny _ A.in1 (pyNext (.ref a) >>= _) _ _ s
    refine wpAny_bind (gx_next (A := A.in1) hh hd hl hg hS (fun ys x v pl H s1 h1 h2 h3 h4 h5 h6 _ h7 => ?_) fun s1 hp => ?_)
    · obtain ⟨acc, c, hS1, hv⟩ := ghl_at h4 h3
      have hlen : acc.toList.length = ys.length := hv.length.symm
      have hacc : acc.size < sizeLine := by
        have e : acc.toList.length = acc.size := by simp
        omega
      show wpAny _ A.in1 (updateSeq S (·.push v) >>= _) _ _ _
      refine wpAny_bind ?_
      refine wpAny_updateSeq hS1 rfl (wpAny_pure ⟨plainId_quiet F.plain_extend_loop _, ?_⟩) (Nat.le_of_lt hacc) (by show (acc.push v).size ≤ sizeLine + 1; rw [Array.size_push]; omega)
      have keep3 : ∀ b o, b ≠ S → s1.heap.get? b = some o → (s1.heap.update S (Obj.mapSeq (·.push v))).get? b = some o := fun b o hbS e => (Heap.get?_update_other _ _ (Ne.symm hbS)).trans e
      have hSn : ∃ c', (s1.heap.update S (Obj.mapSeq (·.push v))).get? S = some (lstObj (acc.push v) c') := ⟨_, Heap.get?_update_self _ hS1 rfl⟩
      obtain ⟨c', hSn⟩ := hSn
      obtain ⟨m, hm, hS2⟩ := h7 { s1 with heap := s1.heap.update S (Obj.mapSeq (·.push v)) } [(S, lstObj (acc.push v) c')] ⟨rfl, h5.bare, fun b o hb e => keep3 b o (fun z => hb (by rw [z]; exact List.mem_singleton.mpr rfl)) e⟩ rfl
        ⟨rfl, fun p hp => by rw [List.mem_singleton.mp hp]; exact ⟨hSn, fun v q => by cases q⟩⟩ ⟨_, _, rfl, by rw [Array.toList_push]; exact hv.append (.cons h2 .nil)⟩
      refine ih m (by omega) _ ?_ ?_ hS2
      · obtain ⟨mc, hns, hnn⟩ := h5.nolimit
        exact ⟨mc, hns.at' fun o e => keep3 _ o (Ne.symm hSc) e, hnn⟩
      · exact hgo _ (keep3 a go (Ne.symm hSa) (h5.pin (a, go) (List.mem_append_left _ hpa)).1)
    · obtain ⟨ys, pl, H, q1, q2, q3, q4, q5, _⟩ := hp
      obtain ⟨acc, c, hS1, hv⟩ := ghl_at q3 q2
      have hn : H S = none := by
        obtain ⟨acc', c', e, _⟩ := q3
        exact (q4.pin (S, lstObj acc' c') (List.mem_append_right _ (by rw [e]; exact List.mem_singleton.mpr rfl))).2.1
      exact wpAny_pure (hend _ ys acc c pl H q1 hS1 hv q4 hn q5)

/-- collect(g): the items in a list at S, untracked -/
theorem collect_gx {X : Cx} {pins : Pins} {σ : L2.St} {k : Nat} {Th : List V → V → Hp → Prop} {Qe : List V → Hp → Prop} {u : Value} {s : Shared} {A : Around} {Q : List Value → Shared → Prop} {E : Value → Shared → Prop} (hr : Room (k + 4) A) (hfr : A.frames = some X.stack)
    (hTh : ∀ ys x H, Th ys x H) (h : RdG X pins σ k Th Qe u s) (hQ : ∀ s' its ys H, ys.length ≤ sizeLine → Vals ys its → Inv X pins σ H s' → Qe ys H → Q its s') : wpAny (model X.prog X.w) A (collect u) Q E s := by
  obtain ⟨a, g, c, go, sB, HB, N', cenv, fp, σ0, rfl, I, hex, ha1, ha2, hgo, hat, hgs, hos, hb, hkp, run⟩ := h
  have hsB : sB.heap.NoLimit := I.nolimit
  have hcl : cStatics < sB.heap.objs.size := let ⟨_, hn, _⟩ := hsB; hn.lt
  have hlim : s.heap.NoLimit := hsB.keeps hkp
  have hSa : s.heap.objs.size ≠ a := Nat.ne_of_gt ha2
  have hSc : s.heap.objs.size ≠ cStatics := Nat.ne_of_gt (Nat.lt_trans hcl (Nat.lt_trans ha1 ha2))
  unfold collect
  refine wpAny_bind (wpAny_runValue (codeAny_builtin F.entry_proto_collect ?_))
  rw [Around.under_plainId F.plain_proto_collect _]
  show wpAny _ A.in1 (newList [] >>= fun l => again (.builtin "list.__iadd__" ⟨[l, .ref a], []⟩)) _ _ s
  refine wpAny_bind (wpAny_newObj_type ?_)
  refine wpAny_pure ⟨plainId_quiet F.plain_list_iadd _, codeAny_builtin F.entry_list_iadd ?_⟩
  rw [Around.under_plainId F.plain_list_iadd _]
  have hS₁ : (s.heap.push { cls := .type "list", data := .seq ([] : List Value).toArray }).get? s.heap.objs.size = some { cls := .type "list", data := .seq ([] : List Value).toArray } := Heap.get?_push_size _ rfl
  have k1 : ∀ b o, s.heap.get? b = some o → (s.heap.push { cls := .type "list", data := .seq ([] : List Value).toArray }).get? b = some o := fun b o e => Heap.get?_push_of_some _ e
  have gty : (s.heap.push { cls := .type "list", data := .seq ([] : List Value).toArray }).IsGen a g := hgo _ (k1 _ _ hat)
  show wpAny _ A.in1 (Builtin.List.listExtendWith (.ref s.heap.objs.size) (.ref a) (.ref s.heap.objs.size)) _ _ _
  unfold Builtin.List.listExtendWith
  refine wpAny_bind (wpAny_typeOf (Heap.IsGen.typeIs (s := { s with heap := _ }) gty) ?_)
  have h1 : Builtin.List.listSameRef (.ref s.heap.objs.size) (.ref a) = false := by simp [Builtin.List.listSameRef, hSa]
  have h2 : (Value.type "generator" == Value.type "list") = false := by decide
  have h3 : (Value.type "generator" == Value.type "tuple") = false := by decide
  simp only [h1, h2, h3, Bool.or_false, Bool.false_eq_true, if_false]
  refine wpAny_bind (wpAny_pyIter_gen (s := { s with heap := _ }) gty ?_)
  refine wpAny_bind (wpAny_holding ?_)
  unfold Builtin.List.listLengthHint
  refine wpAny_bind (wpAny_specialOf (Heap.IsGen.typeIs (s := { s with heap := _ }) gty) F.gen_no_len ?_)
  show wpAny _ A.in1 (specialOf (Value.ref a) (Str.ofString "__length_hint__") >>= _) _ _ _
  refine wpAny_bind (wpAny_specialOf (Heap.IsGen.typeIs (s := { s with heap := _ }) gty) F.gen_no_hint ?_)
  refine wpAny_pure ?_
  show wpAny _ A.in1 (rule "list.extend.makes-room" >>= fun _ => Builtin.List.listTouch (.ref s.heap.objs.size) >>= fun _ =>
    again (.builtin "list.extend.loop" ⟨[.ref s.heap.objs.size, .ref a, .ref s.heap.objs.size], []⟩)) _ _ _
  refine wpAny_bind (wpAny_rule ?_)
  refine wpAny_bind ?_
  show wpAny _ A.in1 (updateSeq s.heap.objs.size (·.push .none) >>= fun _ => updateSeq s.heap.objs.size (·.pop)) _ _ _
  refine wpAny_bind (wpAny_updateSeq hS₁ rfl ?_)
  have hS3 := Heap.get?_update_self (Obj.mapSeq (·.push Value.none)) hS₁ rfl
  refine wpAny_updateSeq (hz := by seq_fits) hS3 rfl ?_
  have hS4 := Heap.get?_update_self (Obj.mapSeq (·.pop)) hS3 rfl
  have up : ∀ (h : Heap) (f : Obj → Obj), (∀ b o, s.heap.get? b = some o → h.get? b = some o) → ∀ b o, s.heap.get? b = some o → (h.update s.heap.objs.size f).get? b = some o := fun h f q b o e =>
    (Heap.get?_update_other _ _ (Ne.symm (Nat.ne_of_lt (Heap.lt_size e)))).trans (q b o e)
  have k4 := up _ (Obj.mapSeq (·.pop)) (up _ (Obj.mapSeq (·.push Value.none)) k1)
  refine wpAny_pure ⟨plainId_quiet F.plain_extend_loop _, ?_⟩
  have hroom : Room (k + 1) A.in1.in1 := ⟨hr.hd, by have := hr.dp; show A.depth + 3 * (k + 1) + 5 < _; omega, by have := hr.un; show A.units + 1 + 1 + 16 * (k + 1) + 200 < _; omega⟩
  refine drainL (G := gcx X sB HB N' cenv fp (A.in1.in1.deeper cenv) [(a, go)]) (Th := Th) (Qe := Qe) (σ0 := σ0) (go := go) hr.hd (by have := hr.dp; show A.depth < _; omega) (List.mem_singleton.mpr rfl) hgo hSa hSc
    (fun s' ys acc c pl H q1 q2 q3 q4 q5 q6 => ?_) sizeLine _ (hlim.keeps k4) (hgo _ (k4 _ _ hat)) (susp_of hgs (run A.in1.in1 _ [s.heap.objs.size] (GhL s.heap.objs.size) _ hroom hfr (fun b hb => by rw [List.mem_singleton.mp hb]; exact Nat.le_refl _) k4 hos (allBare_setGen (s := { s with heap := _ }) hb rfl)
      ⟨rfl, fun p hp => by rw [List.mem_singleton.mp hp]; exact ⟨hS4, fun v q => by cases q⟩⟩ ⟨#[], _, rfl, .nil⟩))
  show wpAny _ A (load s.heap.objs.size >>= _) _ _ s'
  refine wpAny_bind (wpAny_load q2 ?_)
  exact wpAny_pure (hQ s' acc.toList ys H q1 q3 (inv_back I hex q4) q6)
end GX
set_option Elab.async false
set_option linter.all false
set_option maxRecDepth 100000
set_option maxHeartbeats 4000000
namespace GX
open PySem PySem.Spec PyProof.Rows L2 GenW

theorem boot_sorted' : bootBuiltins "sorted" = some (.builtin "sorted") := by decide +kernel
theorem boot_sum' : bootBuiltins "sum" = some (.builtin "sum") := by decide +kernel
theorem boot_any' : bootBuiltins "any" = some (.builtin "any") := by decide +kernel
theorem boot_all' : bootBuiltins "all" = some (.builtin "all") := by decide +kernel

section
variable {X : Cx} {pins : Pins} {σ : L2.St} {H : Hp} {s : Shared}
theorem inv_A (I : Inv X pins σ H s) {A' : Around} (h1 : A'.handled = X.A.handled) (h2 : A'.frames = X.A.frames) : Inv { X with A := A' } pins σ H s :=
  ⟨⟨I.ok.mod, I.ok.kind, I.ok.glob, I.ok.blt, I.ok.above, I.ok.inj, I.ok.has, I.ok.cab, fun c => h1.trans (I.ok.hd c), h2.trans I.ok.frames, I.ok.stk, I.ok.exf, I.ok.bs, I.ok.bsz, I.ok.noex, I.ok.exfs, I.ok.funs, I.ok.frf⟩, I.os, I.bare, I.base, I.loc, I.cell, I.free, I.freeC, I.pin, I.hok, I.len⟩
theorem inv_A' {A' : Around} (I : Inv { X with A := A' } pins σ H s) (h1 : X.A.handled = A'.handled) (h2 : X.A.frames = A'.frames) : Inv X pins σ H s := inv_A (X := { X with A := A' }) I h1 h2
end

section
variable {X : Cx} {p pos : Pos} {e : Expr} {tg : TGx} {k : Nat}
/-- sorted(g): r is list.sort's rule -/
def tSortedG (tg : TGx) (r : V → List V → Hp → VK → Prop) : TE := fun σ H Q => tg σ H (fun _ _ _ => True) fun ys H1 => ∀ l, H1 l = none → r (.ref l) [] (upd H1 l (.lst ys)) fun _ H2 => Q (.ref l) H2
theorem pe_sortedG {r : V → List V → Hp → VK → Prop} (h : PGx X k e tg) (hs : ∀ A', MtR { X with A := A' } "list.sort" r) (hr : Room (k + 5) X.A) (hg : Gl X "sorted") (hm : X.mg "sorted" = none)
    (he : starEach [e] X.env = (false, eval e X.env) :: starEach [] X.env := by rfl) : PE X (.Call (.Name "sorted" p) [e] [] pos) (tSortedG tg r) := by
  refine ⟨fun pins s σ H Q I hq => ?_⟩
  refine wpAny_Call_Name_kw (ld_blt I hg hm boot_sorted' ?_)
  refine PyProof.Rows.callWith_builtin1 ?_ he (by rfl)
  rw [he]
  show wpAny _ _ (spliced ((false, eval e X.env) :: backTo pos (starEach [] X.env))) _ _ s
  refine Calls.spliced_cons (thn (h.run pins s σ H _ _ I hq) fun u s1 hG => ?_)
  refine Calls.spliced_nil ?_
  refine Calls.call_function_entry kind_sorted plain_sorted entry_sorted (args_sorted1 _) ?_
  unfold Builtin.«sorted»
  refine wpAny_bind (m := checkCount "sorted" 1 1 _) (wpAny_pure ?_)
  have hr1 : Room (k + 4) X.A.in1 := ⟨hr.hd, by have := hr.dp; show X.A.depth + 3 * (k + 4) + 5 < _; omega, by have := hr.un; show X.A.units + 1 + 16 * (k + 4) + 200 < _; omega⟩
  refine wpAny_bind (collect_gx (pins := pins) (σ := σ) hr1 I.ok.frames (fun _ _ _ => trivial) hG fun s' its ys H1 hlen hv I1 hq1 => ?_)
  have hil : its.length ≤ sizeLine := by rw [← hv.length]; exact hlen
  refine wpAny_bind (wpAny_newList ?_ hil)
  have fresh : H1 s'.heap.objs.size = none := I1.hok.fresh (Nat.le_refl _)
  have I2 : Inv X pins σ (upd H1 s'.heap.objs.size (.lst ys)) { s' with heap := s'.heap.push (seqObj "list" its.toArray 0) } :=
    I1.laid (t' := s'.toks) (fun _ _ e => Heap.get?_push_of_some _ e) (Nat.le_refl _) ⟨hlen, its, 0, hv, Heap.get?_push_size _ rfl⟩
  refine wpAny_bind (wpAny_holding ?_)
  refine wpAny_mono (hs X.A.in1 pins _ σ _ (.ref s'.heap.objs.size) [] (.ref s'.heap.objs.size) [] _ (inv_A (A' := X.A.in1) I2 rfl rfl) rfl .nil (hq1 _ fresh)) (fun v s3 h3 => ?_) fun _ _ e => e
  obtain ⟨v', H3, I3, r3, q3⟩ := h3
  exact wpAny_pure ⟨_, rfl, .ref s'.heap.objs.size, H3, inv_A' I3 rfl rfl, rfl, q3⟩

/-! ### sum -/
def vsum : List V → Int
  | [] => 0
  | .int i :: r => i + vsum r
  | _ :: r => vsum r
theorem vsum_append (xs ys : List V) : vsum (xs ++ ys) = vsum xs + vsum ys := by
  induction xs with
  | nil => simp [vsum]
  | cons v r ih =>
    cases v <;> simp [vsum, ih] <;> omega
theorem vsum_ints (is : List Int) : vsum (is.map V.int) = is.sum := by
  induction is with
  | nil => rfl
  | cons i r ih => simp [vsum, ih]
def GhS (S : Addr) : List V → Pins → Prop := fun ys pl => ∃ (t : Tok) (c : Nat), pl = [(S, lstObj #[.int (vsum ys) t] c)]
def ThS : List V → V → Hp → Prop := fun ys x _ => ∃ j, x = .int j ∧ InLong j ∧ InLong (vsum ys + j)
theorem drainS {G : Cx} {Qe : List V → Hp → Prop} {σ0 : L2.St} {A : Around} {a S : Addr} {g : Nat} {go : Obj} {R : Result → Shared → Prop} (hh : A.handled = none) (hd : A.depth < recursionLimit) (hpa : (a, go) ∈ G.pn) (hgo : ∀ h : Heap, h.get? a = some go → h.IsGen a g)
    (hSa : S ≠ a) (hSc : S ≠ cStatics)
    (hend : ∀ s' ys t pl H, Inv G pl σ0 H s' → Qe ys H → R (.ok (.ret (.int (vsum ys) t))) s') :
    ∀ (n : Nat) (s : Shared) (z : Int) (t : Tok) (c : Nat), s.heap.NoLimit → s.heap.IsGen a g → s.heap.get? S = some (lstObj #[.int z t] c) → Susp G ⟨[S], GhS S, ThS, Qe⟩ σ0 A.in1 g n s → codeAny (model G.prog G.w) A (.builtin "sum.loop" ⟨[.ref a, .ref S, rawInt 0, rawInt 0], []⟩) R s := by
  intro n
  induction n using Nat.strongRecOn with
  | ind n ih =>
    intro s z t c hl hg hS0 hS
    refine codeAny_builtin F.entry_sum_loop ?_
    rw [Around.under_plainId F.plain_sum_loop _]
    show wpAny _ A.in1 (seqItems? (.ref S) >>= _) _ _ s
    refine wpAny_bind (wpAny_seqItems hS0 rfl ?_)
    show wpAny _ A.in1 (tryCatch (pyNext (.ref a)) _ >>= _) _ _ s
    have hS0' := hS0
    refine wpAny_bind (wpAny_tryCatch ?_)
    refine gx_next (A := A.in1) hh hd hl hg hS (fun ys x v pl H s1 h1 h2 h3 h4 h5 h6 h8 h7 => ?_) fun s1 hp => ?_
    · obtain ⟨t', c', rfl⟩ := h4
      have e1 : s1.heap.get? S = some (lstObj #[.int (vsum ys) t'] c') := (h3.at_ _ (List.mem_singleton.mpr rfl)).1
      have e2 := e1.symm.trans ((h8 S (List.mem_singleton.mpr rfl)).trans hS0)
      obtain ⟨j, rfl, ⟨f1, f2⟩, f3, f4⟩ := h6
      obtain ⟨tv, rfl⟩ := (show ∃ t, v = Value.int j t from h2)
      have ez : z = vsum ys := by
        have e3 : (#[Value.int (vsum ys) t'] : Array Value) = #[.int z t] := by
          have := congrArg Obj.data (Option.some.inj e2)
          injection this
        have e4 := congrArg Array.toList e3
        simp only [List.cons.injEq, Value.int.injEq, and_true] at e4
        exact e4.1.symm
      subst ez
      have hc : ((decide (-(2 ^ 63) ≤ j) && decide (j < 2 ^ 63)) && (decide (-(2 ^ 63) ≤ vsum ys + j) && decide (vsum ys + j < 2 ^ 63))) = true := by
        simp only [Bool.and_eq_true, decide_eq_true_eq]
        exact ⟨⟨f1, f2⟩, f3, f4⟩
      show wpAny _ A.in1 (if (_ : Bool) = true then (mkInt (vsum ys + j) >>= _) else _) _ _ _
      split
      · refine wpAny_bind (wpAny_mkInt ?_)
        show wpAny _ A.in1 (updateSeq S (fun _ => #[.int (vsum ys + j) s1.toks]) >>= _) _ _ _
        refine wpAny_bind ?_
        refine wpAny_updateSeq e1 rfl (wpAny_pure ⟨plainId_quiet F.plain_sum_loop _, ?_⟩)
        have keep3 : ∀ b o, b ≠ S → s1.heap.get? b = some o → (s1.heap.update S (Obj.mapSeq (fun _ => #[.int (vsum ys + j) s1.toks]))).get? b = some o := fun b o hbS e => (Heap.get?_update_other _ _ (Ne.symm hbS)).trans e
        obtain ⟨c2, hSn⟩ : ∃ c2, (s1.heap.update S (Obj.mapSeq (fun _ => #[.int (vsum ys + j) s1.toks]))).get? S = some (lstObj #[.int (vsum ys + j) s1.toks] c2) := ⟨_, Heap.get?_update_self _ e1 rfl⟩
        obtain ⟨m, hm, hS2⟩ := h7 { s1 with heap := s1.heap.update S (Obj.mapSeq (fun _ => #[.int (vsum ys + j) s1.toks])), toks := s1.toks + 1 } [(S, lstObj #[.int (vsum ys + j) s1.toks] c2)] ⟨rfl, h5.bare, fun b o hb e => keep3 b o (fun z => hb (by rw [z]; exact List.mem_singleton.mpr rfl)) e⟩ rfl
          ⟨rfl, fun p hp => by rw [List.mem_singleton.mp hp]; exact ⟨hSn, fun v q => by cases q⟩⟩ ⟨s1.toks, c2, by rw [vsum_append]; simp [vsum]⟩
        refine ih m (by omega) _ (vsum ys + j) s1.toks c2 ?_ ?_ hSn hS2
        · obtain ⟨mc, hns, hnn⟩ := h5.nolimit
          exact ⟨mc, hns.at' fun o e => keep3 _ o (Ne.symm hSc) e, hnn⟩
        · exact hgo _ (keep3 a go (Ne.symm hSa) (h5.pin (a, go) (List.mem_append_left _ hpa)).1)
      · rename_i hneg
        exact absurd hc hneg
    · obtain ⟨ys, pl, H, q1, q2, ⟨t', c', rfl⟩, q4, q5, q6⟩ := hp
      have e1 : s1.heap.get? S = some (lstObj #[.int (vsum ys) t'] c') := (q2.at_ _ (List.mem_singleton.mpr rfl)).1
      have e2 := e1.symm.trans ((q6 S (List.mem_singleton.mpr rfl)).trans hS0)
      have ez : z = vsum ys := by
        have e3 : (#[Value.int (vsum ys) t'] : Array Value) = #[.int z t] := by
          have := congrArg Obj.data (Option.some.inj e2)
          injection this
        have e4 := congrArg Array.toList e3
        simp only [List.cons.injEq, Value.int.injEq, and_true] at e4
        exact e4.1.symm
      subst ez
      exact wpAny_pure (hend s1 ys t _ H q4 q5)
def tSumG (tg : TGx) : TE := fun σ H Q => tg σ H ThS fun ys H1 => Q (.int (vsum ys)) H1
theorem pe_sumG (h : PGx X k e tg) (hr : Room (k + 4) X.A) (hg : Gl X "sum") (hm : X.mg "sum" = none)
    (he : starEach [e] X.env = (false, eval e X.env) :: starEach [] X.env := by rfl) : PE X (.Call (.Name "sum" p) [e] [] pos) (tSumG tg) := by
  refine ⟨fun pins s σ H Q I hq => ?_⟩
  refine wpAny_Call_Name_kw (ld_blt I hg hm boot_sum' ?_)
  refine PyProof.Rows.callWith_builtin1 ?_ he (by rfl)
  rw [he]
  show wpAny _ _ (spliced ((false, eval e X.env) :: backTo pos (starEach [] X.env))) _ _ s
  refine Calls.spliced_cons (thn (h.run pins s σ H _ _ I hq) fun u s1 hG => ?_)
  refine Calls.spliced_nil ?_
  obtain ⟨a, g, c, go, sB, HB, N', cenv, fp, σ0, rfl, I1, hex, ha1, ha2, hgo, hat, hgs, hos, hb, hkp, run⟩ := hG
  have hsB : sB.heap.NoLimit := I1.nolimit
  have hcl : cStatics < sB.heap.objs.size := let ⟨_, hn, _⟩ := hsB; hn.lt
  have hlim : s1.heap.NoLimit := hsB.keeps hkp
  refine call_function_tree F.kind_sum F.plain_sum F.entry_sum (F.args_sum1 _) ?_
  unfold Builtin.«sum»
  simp only [List.length_cons, List.length_nil]
  rw [if_neg (by decide)]
  refine wpAny_bind (wpAny_of_eq (show Builtin.Builtins.bindParams "sum" ["start"] 0 { } = pure [none] from rfl) ?_)
  refine wpAny_bind (wpAny_pyIter_gen (hgo _ hat) ?_)
  refine wpAny_bind (wpAny_mkInt ?_)
  refine wpAny_bind (wpAny_pure ?_)
  simp only [List.forIn_cons, List.forIn_nil]
  refine wpAny_bind (wpAny_bind (wpAny_bind (wpAny_isInstance (T := "int") (b := false) (typeIs_int _ _ _) PySem.sub_int_str ?_)))
  simp only [Bool.false_eq_true, if_false]
  refine wpAny_pure (wpAny_bind (wpAny_bind (wpAny_isInstance (T := "int") (b := false) (typeIs_int _ _ _) PySem.sub_int_bytes ?_)))
  simp only [Bool.false_eq_true, if_false]
  refine wpAny_pure (wpAny_bind (wpAny_bind (wpAny_isInstance (T := "int") (b := false) (typeIs_int _ _ _) PySem.sub_int_bytearray ?_)))
  simp only [Bool.false_eq_true, if_false]
  refine wpAny_pure (wpAny_pure ?_)
  refine wpAny_bind (wpAny_newObj_type ?_)
  have k1 : ∀ (o : Obj) b u, s1.heap.get? b = some u → (s1.heap.push o).get? b = some u := fun o b u e => Heap.get?_push_of_some _ e
  have hroom : Room (k + 1) X.A.in1.in1 := ⟨hr.hd, by have := hr.dp; show X.A.depth + 3 * (k + 1) + 5 < _; omega, by have := hr.un; show X.A.units + 1 + 1 + 16 * (k + 1) + 200 < _; omega⟩
  have hS0 : ∀ t, (s1.heap.push { cls := .type "list", data := .seq ([Value.int 0 t] : List Value).toArray }).get? s1.heap.objs.size = some (lstObj #[.int (vsum []) t] 0) := fun t => Heap.get?_push_size _ rfl
  refine wpAny_pure ⟨plainId_quiet F.plain_sum_loop _, ?_⟩
  refine drainS (G := gcx X sB HB N' cenv fp (X.A.in1.in1.deeper cenv) [(a, go)]) (Qe := fun ys H1 => Q (V.int (vsum ys)) H1) (σ0 := σ0) (A := X.A) (go := go) hr.hd (by have := hr.dp; show X.A.depth < _; omega) (List.mem_singleton.mpr rfl) hgo (Nat.ne_of_gt ha2) (Nat.ne_of_gt (Nat.lt_trans hcl (Nat.lt_trans ha1 ha2)))
    (fun s' ys t pl H1 q1 q2 => ?_) sizeLine _ (vsum []) s1.toks 0 ?_ ?_ ?_ ?_
  · exact ⟨.int (vsum ys), H1, inv_back I1 hex q1, ⟨t, rfl⟩, q2⟩
  · exact hlim.keeps (k1 _)
  · exact hgo _ (k1 _ _ _ hat)
  · exact hS0 _
  · refine susp_of hgs (run X.A.in1.in1 _ [s1.heap.objs.size] (GhS s1.heap.objs.size) _ hroom I.ok.frames (fun b hb => by rw [List.mem_singleton.mp hb]; exact Nat.le_refl _) (k1 _) hos (allBare_setGen (s := { s1 with heap := _ }) hb rfl) ?_ ⟨s1.toks, 0, rfl⟩)
    exact ⟨rfl, fun p hp => by rw [List.mem_singleton.mp hp]; exact ⟨hS0 _, fun v q => by cases q⟩⟩
end

/-! ### any, all -/
theorem drain1 {G : Cx} {nm : String} {bb : Bool} {Th : List V → V → Hp → Prop} {Qe : List V → Hp → Prop} {σ0 : L2.St} {A : Around} {a : Addr} {g : Nat} {go : Obj} {R : Result → Shared → Prop} (hh : A.handled = none) (hd : A.depth < recursionLimit) (hpa : (a, go) ∈ G.pn) (hgo : ∀ h : Heap, h.get? a = some go → h.IsGen a g)
    (hTh : ∀ ys x H, Th ys x H → ∃ b, x = .bl b)
    (step : ∀ (s : Shared) (R' : Result → Shared → Prop), wpAny (model G.prog G.w) A.in1 (pyNext (.ref a)) (fun r s1 => match r with
        | none => R' (.ok (.ret (.bool (!bb)))) s1
        | some v => ∃ b, v = .bool b ∧ if b = bb then R' (.ok (.ret (.bool bb))) s1 else codeAny (model G.prog G.w) A (.builtin nm ⟨[.ref a], []⟩) R' s1) (fun e s1 => R' (.error e) s1) s → codeAny (model G.prog G.w) A (.builtin nm ⟨[.ref a], []⟩) R' s)
    (hend : ∀ s' ys pl H, Inv G pl σ0 H s' → Qe ys H → (∀ y ∈ ys, y ≠ V.bl bb) → R (.ok (.ret (.bool (!bb)))) s') (hyes : ∀ s' ys pl H, Inv G pl σ0 H s' → Th ys (.bl bb) H → R (.ok (.ret (.bool bb))) s') :
    ∀ (n : Nat) (s : Shared), s.heap.NoLimit → s.heap.IsGen a g → Susp G ⟨[], fun ys pl => pl = [] ∧ ∀ y ∈ ys, y ≠ V.bl bb, Th, Qe⟩ σ0 A.in1 g n s → codeAny (model G.prog G.w) A (.builtin nm ⟨[.ref a], []⟩) R s := by
  intro n
  induction n using Nat.strongRecOn with
  | ind n ih =>
    intro s hl hg hS
    refine step s R (gx_next (A := A.in1) hh hd hl hg hS (fun ys x v pl H s1 h1 h2 h3 h4 h5 h6 h8 h7 => ?_) fun s1 hp => ?_)
    · obtain ⟨b, rfl⟩ := hTh _ _ _ h6
      have ev : v = Value.bool b := h2
      refine ⟨b, ev, ?_⟩
      by_cases hb : b = bb
      · rw [if_pos hb]
        subst hb
        exact hyes s1 ys pl H h5 h6
      · rw [if_neg hb]
        obtain ⟨m, hm, hS2⟩ := h7 s1 [] ⟨rfl, h5.bare, fun _ _ _ e => e⟩ rfl ⟨rfl, fun p hp => absurd hp (by simp)⟩ ⟨rfl, fun y hy => by
          rcases List.mem_append.mp hy with z | z
          · exact h4.2 y z
          · rw [List.mem_singleton.mp z]
            exact fun q => hb (V.bl.inj q)⟩
        exact ih m (by omega) s1 h5.nolimit (hgo _ (h5.pin (a, go) (List.mem_append_left _ hpa)).1) hS2
    · obtain ⟨ys, pl, H, q1, q2, q3, q4, q5, q6⟩ := hp
      exact hend s1 ys pl H q4 q5 q3.2
theorem step_any {prog : Program} {w : World} {A : Around} {a : Addr} (s : Shared) (R' : Result → Shared → Prop) (h : wpAny (model prog w) A.in1 (pyNext (.ref a)) (fun r s1 => match r with
        | none => R' (.ok (.ret (.bool (!true)))) s1
        | some v => ∃ b, v = .bool b ∧ if b = true then R' (.ok (.ret (.bool true))) s1 else codeAny (model prog w) A (.builtin "any.loop" ⟨[.ref a], []⟩) R' s1) (fun e s1 => R' (.error e) s1) s) : codeAny (model prog w) A (.builtin "any.loop" ⟨[.ref a], []⟩) R' s := by
  refine codeAny_builtin F.entry_any_loop ?_
  rw [Around.under_plainId F.plain_any_loop _]
  show wpAny _ A.in1 (pyNext (.ref a) >>= _) _ _ s
  refine wpAny_bind (thn h fun r s1 h1 => ?_)
  cases r with
  | none => exact wpAny_bind (wpAny_rule (wpAny_pure h1))
  | some v =>
    obtain ⟨b, rfl, h1⟩ := h1
    refine wpAny_bind (wpAny_holding (wpAny_truthy_bool ?_))
    refine wpAny_bind (wpAny_letGo ?_)
    cases b with
    | true =>
      simp only [if_true]
      exact wpAny_bind (wpAny_rule (wpAny_pure h1))
    | false =>
      simp only [Bool.false_eq_true, if_false]
      exact wpAny_pure ⟨plainId_quiet F.plain_any_loop _, h1⟩
theorem step_all {prog : Program} {w : World} {A : Around} {a : Addr} (s : Shared) (R' : Result → Shared → Prop) (h : wpAny (model prog w) A.in1 (pyNext (.ref a)) (fun r s1 => match r with
        | none => R' (.ok (.ret (.bool (!false)))) s1
        | some v => ∃ b, v = .bool b ∧ if b = false then R' (.ok (.ret (.bool false))) s1 else codeAny (model prog w) A (.builtin "all.loop" ⟨[.ref a], []⟩) R' s1) (fun e s1 => R' (.error e) s1) s) : codeAny (model prog w) A (.builtin "all.loop" ⟨[.ref a], []⟩) R' s := by
  refine codeAny_builtin F.entry_all_loop ?_
  rw [Around.under_plainId F.plain_all_loop _]
  show wpAny _ A.in1 (pyNext (.ref a) >>= _) _ _ s
  refine wpAny_bind (thn h fun r s1 h1 => ?_)
  cases r with
  | none => exact wpAny_bind (wpAny_rule (wpAny_pure h1))
  | some v =>
    obtain ⟨b, rfl, h1⟩ := h1
    refine wpAny_bind (wpAny_holding (wpAny_truthy_bool ?_))
    refine wpAny_bind (wpAny_letGo ?_)
    cases b with
    | false =>
      simp only [Bool.false_eq_true, if_false]
      exact wpAny_bind (wpAny_rule (wpAny_pure h1))
    | true =>
      simp only [if_true]
      exact wpAny_pure ⟨plainId_quiet F.plain_all_loop _, h1⟩
def tAnyG (tg : TGx) : TE := fun σ H Q => tg σ H (fun _ x H1 => ∃ b, x = .bl b ∧ (b = true → Q (.bl true) H1)) fun ys H1 => (∀ y ∈ ys, y ≠ V.bl true) → Q (.bl false) H1
def tAllG (tg : TGx) : TE := fun σ H Q => tg σ H (fun _ x H1 => ∃ b, x = .bl b ∧ (b = false → Q (.bl false) H1)) fun ys H1 => (∀ y ∈ ys, y ≠ V.bl false) → Q (.bl true) H1
section
variable {X : Cx} {p pos : Pos} {e : Expr} {tg : TGx} {k : Nat}
theorem pe_anyG (h : PGx X k e tg) (hr : Room (k + 4) X.A) (hg : Gl X "any") (hm : X.mg "any" = none)
    (he : starEach [e] X.env = (false, eval e X.env) :: starEach [] X.env := by rfl) : PE X (.Call (.Name "any" p) [e] [] pos) (tAnyG tg) := by
  refine ⟨fun pins s σ H Q I hq => ?_⟩
  refine wpAny_Call_Name_kw (ld_blt I hg hm boot_any' ?_)
  refine PyProof.Rows.callWith_builtin1 ?_ he (by rfl)
  rw [he]
  show wpAny _ _ (spliced ((false, eval e X.env) :: backTo pos (starEach [] X.env))) _ _ s
  refine Calls.spliced_cons (thn (h.run pins s σ H _ _ I hq) fun u s1 hG => ?_)
  refine Calls.spliced_nil ?_
  obtain ⟨a, g, c, go, sB, HB, N', cenv, fp, σ0, rfl, I1, hex, ha1, ha2, hgo, hat, hgs, hos, hb, hkp, run⟩ := hG
  refine call_function_tree F.kind_any F.plain_any F.entry_any (F.args_any1 _) ?_
  unfold Builtin.«any»
  refine wpAny_bind (m := oneArg "any" _) (wpAny_pure ?_)
  refine wpAny_bind (wpAny_pyIter_gen (hgo _ hat) ?_)
  have hroom : Room (k + 1) X.A.in1.in1 := ⟨hr.hd, by have := hr.dp; show X.A.depth + 3 * (k + 1) + 5 < _; omega, by have := hr.un; show X.A.units + 1 + 1 + 16 * (k + 1) + 200 < _; omega⟩
  refine wpAny_pure ⟨plainId_quiet F.plain_any_loop _, ?_⟩
  refine drain1 (G := gcx X sB HB N' cenv fp (X.A.in1.in1.deeper cenv) [(a, go)]) (bb := true) (nm := "any.loop") (Th := fun _ x H1 => ∃ b, x = .bl b ∧ (b = true → Q (.bl true) H1)) (Qe := fun ys H1 => (∀ y ∈ ys, y ≠ V.bl true) → Q (.bl false) H1) (σ0 := σ0) (A := X.A) (go := go) hr.hd (by have := hr.dp; show X.A.depth < _; omega) (List.mem_singleton.mpr rfl) hgo
    (fun _ _ _ ⟨b, e, _⟩ => ⟨b, e⟩) step_any (fun s' ys pl H1 q1 q2 q3 => ?_) (fun s' ys pl H1 q1 q2 => ?_) sizeLine _ (I1.nolimit.keeps hkp) (hgo _ hat) (susp_of hgs (run X.A.in1.in1 _ [] (fun ys pl => pl = [] ∧ ∀ y ∈ ys, y ≠ V.bl true) [] hroom I.ok.frames (fun b hb => absurd hb (by simp)) (fun _ _ e => e) hos (allBare_setGen hb rfl) ⟨rfl, fun p hp => absurd hp (by simp)⟩ ⟨rfl, fun y hy => absurd hy (by simp)⟩))
  · exact ⟨.bl false, H1, inv_back I1 hex q1, rfl, q2 q3⟩
  · obtain ⟨b, e, q2⟩ := q2
    cases e
    exact ⟨.bl true, H1, inv_back I1 hex q1, rfl, q2 rfl⟩
theorem pe_allG (h : PGx X k e tg) (hr : Room (k + 4) X.A) (hg : Gl X "all") (hm : X.mg "all" = none)
    (he : starEach [e] X.env = (false, eval e X.env) :: starEach [] X.env := by rfl) : PE X (.Call (.Name "all" p) [e] [] pos) (tAllG tg) := by
  refine ⟨fun pins s σ H Q I hq => ?_⟩
  refine wpAny_Call_Name_kw (ld_blt I hg hm boot_all' ?_)
  refine PyProof.Rows.callWith_builtin1 ?_ he (by rfl)
  rw [he]
  show wpAny _ _ (spliced ((false, eval e X.env) :: backTo pos (starEach [] X.env))) _ _ s
  refine Calls.spliced_cons (thn (h.run pins s σ H _ _ I hq) fun u s1 hG => ?_)
  refine Calls.spliced_nil ?_
  obtain ⟨a, g, c, go, sB, HB, N', cenv, fp, σ0, rfl, I1, hex, ha1, ha2, hgo, hat, hgs, hos, hb, hkp, run⟩ := hG
  refine call_function_tree F.kind_all F.plain_all F.entry_all (F.args_all1 _) ?_
  unfold Builtin.«all»
  refine wpAny_bind (m := oneArg "all" _) (wpAny_pure ?_)
  refine wpAny_bind (wpAny_pyIter_gen (hgo _ hat) ?_)
  have hroom : Room (k + 1) X.A.in1.in1 := ⟨hr.hd, by have := hr.dp; show X.A.depth + 3 * (k + 1) + 5 < _; omega, by have := hr.un; show X.A.units + 1 + 1 + 16 * (k + 1) + 200 < _; omega⟩
  refine wpAny_pure ⟨plainId_quiet F.plain_all_loop _, ?_⟩
  refine drain1 (G := gcx X sB HB N' cenv fp (X.A.in1.in1.deeper cenv) [(a, go)]) (bb := false) (nm := "all.loop") (Th := fun _ x H1 => ∃ b, x = .bl b ∧ (b = false → Q (.bl false) H1)) (Qe := fun ys H1 => (∀ y ∈ ys, y ≠ V.bl false) → Q (.bl true) H1) (σ0 := σ0) (A := X.A) (go := go) hr.hd (by have := hr.dp; show X.A.depth < _; omega) (List.mem_singleton.mpr rfl) hgo
    (fun _ _ _ ⟨b, e, _⟩ => ⟨b, e⟩) step_all (fun s' ys pl H1 q1 q2 q3 => ?_) (fun s' ys pl H1 q1 q2 => ?_) sizeLine _ (I1.nolimit.keeps hkp) (hgo _ hat) (susp_of hgs (run X.A.in1.in1 _ [] (fun ys pl => pl = [] ∧ ∀ y ∈ ys, y ≠ V.bl false) [] hroom I.ok.frames (fun b hb => absurd hb (by simp)) (fun _ _ e => e) hos (allBare_setGen hb rfl) ⟨rfl, fun p hp => absurd hp (by simp)⟩ ⟨rfl, fun y hy => absurd hy (by simp)⟩))
  · exact ⟨.bl true, H1, inv_back I1 hex q1, rfl, q2 q3⟩
  · obtain ⟨b, e, q2⟩ := q2
    cases e
    exact ⟨.bl false, H1, inv_back I1 hex q1, rfl, q2 rfl⟩
end
end GX
set_option Elab.async false
set_option linter.all false
set_option maxRecDepth 100000
set_option maxHeartbeats 4000000
/-! What all laws of this program share. -/
namespace KC
open PySem PySem.Spec PyProof.Rows L2 GX Evl

/-- a def of the top, called by its name -/
structure Cal (P : Program) (w : World) (K : PySem.W.Frag) (mg : Str → Option Value) (base : Heap) (nm : Str) (k : Nat) (ps : List Str) (sp : Sp) : Prop where
  out : ∃ f fd, mg nm = some (.ref f) ∧ PySem.W.keepIn K (.ref f) = true ∧ Binds K fd ps [] ∧ FnOk P w K mg base CX0 k f fd ps sp
theorem pe_callC {X : Cx} {nm : Str} {k : Nat} {ps : List Str} {sp : Sp} {p pos : Pos} {e : Expr} {es : List Expr} {t : TA} (C : Cal X.prog X.w X.K X.mg X.base nm k ps sp) (hr : Room k X.A) (hg : Gl X nm) (ha : PA X (e :: es) t)
    (hdb : (nm == ("__debug__" : Str)) = false := by decide) (he : starEach (e :: es) X.env = (false, eval e X.env) :: starEach es X.env := by rfl) (hpl : (backTo pos (starEach es X.env)).any (·.1) = false := by rfl) :
    PE X (.Call (.Name nm p) (e :: es) [] pos) (tCall sp [] E0 t) := by
  obtain ⟨f, fd, h1, h2, h3, h4⟩ := C.out
  exact pe_call h4 hr hg h1 h2 h3 .nil pass0 ha hdb he hpl

/-- the builtins that no def of the text hides -/
structure Bs (mg : Str → Option Value) : Prop where
  len : mg "len" = none
  int : mg "int" = none
  min : mg "min" = none
  max : mg "max" = none
  list : mg "list" = none
  sorted : mg "sorted" = none
  sum : mg "sum" = none
  range : mg "range" = none
  enumerate : mg "enumerate" = none
  zip : mg "zip" = none
  any : mg "any" = none
  isinstance : mg "isinstance" = none
  bool : mg "bool" = none
  reversed : mg "reversed" = none

/-- a def whose code object is known (its table of codes is used) -/
structure FunT (K : PySem.W.Frag) (x qual : Str) (st : Stmt) (f : Addr) (fd : FuncData) (c : Addr) : Prop where
  ex : ∃ (oc : Value) (od : Option Addr) (kV doc pm : Value) (an : Option Addr) (ct : Value) (osl : Array (Option Value)),
    fd = PySem.W.fnOf x qual (defArgs st) (defBody st) (defScope st) .none kV doc pm an (.ref c) ct ∧ K.lookup f = some ⟨oc, od, .func fd, osl⟩ ∧ PySem.W.codeIn K (.ref c) qual = true
  kp : PySem.W.keepIn K (.ref f) = true
theorem FunT.fn {K : PySem.W.Frag} {x qual : Str} {st : Stmt} {f c : Addr} {fd : FuncData} (F : FunT K x qual st f fd c) : Fun K x qual st f fd := by
  obtain ⟨oc, od, kV, doc, pm, an, ct, osl, h1, h2, h3⟩ := F.ex
  exact ⟨⟨oc, od, kV, doc, pm, an, .ref c, ct, osl, h1, h2, h3⟩, F.kp⟩
section
variable {P : Program} {w : World} {K : PySem.W.Frag} {mg : Str → Option Value} {base : Heap}
theorem FunT.ok {x qual : Str} {st : Stmt} {f c : Addr} {fd : FuncData} {N ps : List Str} {k : Nat} {sp : Sp} (F : FunT K x qual st f fd c) (S : FnScope N ps (defScope st)) (len : ∀ vs H Q E, sp vs H Q E → vs.length = ps.length)
    (hbody : ∀ (A : Around) (outer : List Env) (s : Shared) (H : Hp) (vs : List V) (Q : VK) (E : XK), Room k (A.deeper (envOfC qual (defScope st) s.heap.objs.size f (.ref c))) → sp vs H Q E →
      ∃ t, PSs (cxOf CX0 P w K mg base N qual (defScope st) f (.ref c) A outer s H E).nox (defBody st) t ∧ t { nx := fun _ H' => Q .non H', rt := Q } (start N vs) H) : FnOk P w K mg base CX0 (k + 1) f fd ps sp := by
  obtain ⟨oc, od, kV, doc, pm, an, ct, osl, rfl, lk, hcd⟩ := F.ex
  refine fn_of lk hcd S len fun A outer s H vs Q E hr hsp => ?_
  obtain ⟨t, h, q⟩ := hbody A outer s H vs Q E hr hsp
  exact ⟨t, h.nox, q⟩
theorem cal_of {nm : Str} {st : Stmt} {f : Addr} {fd : FuncData} {k : Nat} {ps : List Str} {sp : Sp} (F : Fun K nm nm st f fd) (g : mg nm = some (.ref f)) (b : Binds K fd ps []) (ok : FnOk P w K mg base CX0 k f fd ps sp) : Cal P w K mg base nm k ps sp :=
  ⟨f, fd, g, F.kp, b, ok⟩
end

/-! ### heaps -/
theorem ex_of_new {H H' : Hp} {p : Addr} {o : HO} (e : Ex H H') (h : H' p = none) : Ex H (upd H' p o) := e.trans (Ex.new h)
mutual
theorem Dp.ext {K : PySem.W.Frag} {H H' : Hp} (e : Ex H H') : ∀ (d : PyData) (v : V), Dp K H v d → Dp K H' v d
  | .none, _, h => by cases h; exact .non
  | .bool b, _, h => by cases h; exact .bl b
  | .int i, _, h => by cases h; exact .int i
  | .str x, _, h => by cases h; exact .str x
  | .list ds, _, h => by
    cases h with
    | lst h1 h2 => exact .lst (ex_l e h1) (DpAll.ext e ds _ h2)
  | .tuple ds, _, h => by
    cases h with
    | tup h1 h2 => exact .tup (ex_t e h1) (DpAll.ext e ds _ h2)
  | .dict _, _, h => by cases h
theorem DpAll.ext {K : PySem.W.Frag} {H H' : Hp} (e : Ex H H') : ∀ (ds : List PyData) (vs : List V), DpAll K H vs ds → DpAll K H' vs ds
  | [], _, h => by cases h; exact .nil
  | d :: ds, _, h => by
    cases h with
    | cons h1 h2 => exact .cons (Dp.ext e d _ h1) (DpAll.ext e ds _ h2)
end
theorem DpAll.app {K : PySem.W.Frag} {H : Hp} : ∀ {vs : List V} {ds : List PyData} {v : V} {d : PyData}, DpAll K H vs ds → Dp K H v d → DpAll K H (vs ++ [v]) (ds ++ [d])
  | [], _, _, _, h, h2 => by cases h; exact .cons h2 .nil
  | _ :: _, _, _, _, h, h2 => by
    cases h with
    | cons a b => exact .cons a (DpAll.app b h2)
theorem DpAll.len {K : PySem.W.Frag} {H : Hp} : ∀ {vs : List V} {ds : List PyData}, DpAll K H vs ds → vs.length = ds.length
  | [], _, h => by cases h; rfl
  | _ :: _, _, h => by
    cases h with
    | cons a b => exact congrArg (· + 1) (DpAll.len b)
theorem dpAll_ints {K : PySem.W.Frag} {H : Hp} : ∀ ns : List Int, DpAll K H (ns.map V.int) (ns.map PyData.int)
  | [] => .nil
  | n :: r => .cons (.int n) (dpAll_ints r)
theorem eqvAll_ints : ∀ xs ys : List Int, PyData.eqvAll (xs.map PyData.int) (ys.map PyData.int) = decide (xs = ys)
  | [], [] => by simp [PyData.eqvAll]
  | [], _ :: _ => by simp [PyData.eqvAll]
  | _ :: _, [] => by simp [PyData.eqvAll]
  | x :: xs, y :: ys => by
    simp only [List.map_cons, PyData.eqvAll, PyData.eqv, eqvAll_ints xs ys]
    by_cases h1 : x = y <;> by_cases h2 : xs = ys <;> simp [h1, h2]
theorem int_at {ns : List Int} {i : Nat} (h : i < ns.length) : (ns.map V.int)[i]? = some (.int (ns.getD i 0)) := by
  rw [List.getElem?_map, List.getElem?_eq_getElem h, List.getD_eq_getElem?_getD, List.getElem?_eq_getElem h]
  rfl
theorem atI_at {ns : List Int} {z : Int} {i : Nat} (e : z = (i : Int)) (h : i < ns.length) : atI (ns.map V.int) z = some (.int (ns.getD i 0)) := at_of e (int_at h)

/-! ### more readings, in short -/
section
variable {K : PySem.W.Frag} {σ : L2.St} {H H' : Hp} {ta tb te tx : TE} {t u : TT} {x y z v : V} {D : Ends} {tu tw tz : TS} {g : TG}
theorem rv_mod {i j : Int} (h : 0 < j) : RV (rI (fun _ j => 0 < j) fun i j => .int (i % j)) (.int i) (.int j) H (.int (i % j)) := rv_I h
theorem rv_div {i j : Int} (h : 0 < j) (h2 : j < 1073741824) : RV (rI CDiv fun i j => .int (i / j)) (.int i) (.int j) H (.int (i / j)) := rv_I ⟨h, h2⟩
theorem rv_mul {i j : Int} (h : -(2 ^ 64) < i ∧ i < 2 ^ 64) : RV (rI CMul fun i j => .int (i * j)) (.int i) (.int j) H (.int (i * j)) := rv_I (.inl h)
theorem rc_val {r : List V → Hp → VK → Prop} {vs : List V} (h : ∀ H1, Ex H H1 → ∀ Q : VK, Q z H1 → r vs H1 Q) : RC r vs H z := fun H1 e Q q => h H1 e Q (q H1 (Ex.refl H1))
theorem rc_int {i : Int} : RC (fun xs H Q => (∃ i, xs = [.int i] ∧ Q (.int i) H) ∨ ∃ k, xs = [.bl k] ∧ Q (.int (if k then 1 else 0)) H) [.int i] H (.int i) := rc_val fun _ _ _ q => .inl ⟨i, rfl, q⟩
theorem rc_len {a : Addr} {xs : List V} {r : List V → Hp → VK → Prop} (h : ∀ H1, Ex H H1 → ∀ Q : VK, Q (.int (xs.length : Int)) H1 → r [.ref a] H1 Q) : RC r [.ref a] H (.int (xs.length : Int)) := rc_val h
theorem ea1 (h : Ev ta σ H x) : EvA (tCons ta tNil) σ H [x] := ea_cons h ea_nil
theorem ea2 (h : Ev ta σ H x) (h2 : Ev tb σ H y) : EvA (tCons ta (tCons tb tNil)) σ H [x, y] := ea_cons h (ea1 h2)
theorem ea3 {tc : TE} (h : Ev ta σ H x) (h2 : Ev tb σ H y) (h3 : Ev tc σ H z) : EvA (tCons ta (tCons tb (tCons tc tNil))) σ H [x, y, z] := ea_cons h (ea2 h2 h3)
end
end KC
set_option Elab.async false
set_option linter.all false
set_option maxRecDepth 100000
set_option maxHeartbeats 4000000
namespace KC
open PySem PySem.Spec PyProof.Rows L2 GX Evl

/-- it gives data d -/
def EvD (K : PySem.W.Frag) (te : TE) (σ : L2.St) (H : Hp) (d : PyData) : Prop := ∀ H1, Ex H H1 → ∀ Q : VK, (∀ v H2, Ex H1 H2 → Dp K H2 v d → Q v H2) → te σ H1 Q
def EvDA (K : PySem.W.Frag) (ta : TA) (σ : L2.St) (H : Hp) (ds : List PyData) : Prop := ∀ H1, Ex H H1 → ∀ Q : List V → Hp → Prop, (∀ vs H2, Ex H1 H2 → DpAll K H2 vs ds → Q vs H2) → ta σ H1 Q
def RetD (K : PySem.W.Frag) (d : PyData) (H : Hp) (Q : VK) : Prop := ∀ v H2, Ex H H2 → Dp K H2 v d → Q v H2
def SpD (K : PySem.W.Frag) (sp : Sp) (vs : List V) (H : Hp) (d : PyData) : Prop := ∀ H1, Ex H H1 → ∀ Q : VK, (∀ v H2, Ex H1 H2 → Dp K H2 v d → Q v H2) → ∀ E : XK, sp vs H1 Q E
mutual
def noList : PyData → Bool
  | .list _ => false
  | .dict _ => false
  | .tuple ds => noListAll ds
  | _ => true
def noListAll : List PyData → Bool
  | [] => true
  | d :: r => noList d && noListAll r
end
theorem sqt_put {K : PySem.W.Frag} {H : Hp} {l a : Addr} {zs ys xs : List V} (h : SqT K H a xs) (hl : H l = some (.lst zs)) : SqT K (upd H l (.lst ys)) a xs := by
  rcases h with (h | ⟨o, h⟩) | h
  · exact .inl (.inl (by rw [upd_ne (fun e => by rw [e, hl] at h; cases h)]; exact h))
  · exact .inl (.inr ⟨o, by rw [upd_ne (fun e => by rw [e, hl] at h; cases h)]; exact h⟩)
  · exact .inr h
theorem sql_put {K : PySem.W.Frag} {H : Hp} {l a : Addr} {ys xs : List V} (h : SqL K H a xs) (hl : a ≠ l) : SqL K (upd H l (.lst ys)) a xs := by
  rcases h with (h | ⟨o, h⟩) | h
  · exact .inl (.inl (by rw [upd_ne hl]; exact h))
  · exact .inl (.inr ⟨o, by rw [upd_ne hl]; exact h⟩)
  · exact .inr h
mutual
theorem Dp.put {K : PySem.W.Frag} {H : Hp} {l : Addr} {zs ys : List V} (hl : H l = some (.lst zs)) : ∀ (d : PyData) (v : V), noList d = true → Dp K H v d → Dp K (upd H l (.lst ys)) v d
  | .none, _, _, h => by cases h; exact .non
  | .bool b, _, _, h => by cases h; exact .bl b
  | .int i, _, _, h => by cases h; exact .int i
  | .str x, _, _, h => by cases h; exact .str x
  | .list _, _, z, _ => by simp [noList] at z
  | .tuple ds, _, z, h => by
    cases h with
    | tup h1 h2 => exact .tup (sqt_put h1 hl) (DpAll.put hl ds _ (by simpa [noList] using z) h2)
  | .dict _, _, _, h => by cases h
theorem DpAll.put {K : PySem.W.Frag} {H : Hp} {l : Addr} {zs ys : List V} (hl : H l = some (.lst zs)) : ∀ (ds : List PyData) (vs : List V), noListAll ds = true → DpAll K H vs ds → DpAll K (upd H l (.lst ys)) vs ds
  | [], _, _, h => by cases h; exact .nil
  | d :: ds, _, z, h => by
    cases h with
    | cons h1 h2 =>
      simp only [noListAll, Bool.and_eq_true] at z
      exact .cons (Dp.put hl d _ z.1 h1) (DpAll.put hl ds _ z.2 h2)
end
theorem noListAll_map {α : Type} {f : α → PyData} (hf : ∀ a, noList (f a) = true) : ∀ xs : List α, noListAll (xs.map f) = true
  | [] => rfl
  | a :: r => by simp [noListAll, hf a, noListAll_map hf r]

section
variable {K : PySem.W.Frag} {σ : L2.St} {H H' : Hp} {ta tb te tx : TE} {t u : TT} {x y z v : V} {D : Ends} {tu tw tz : TS} {g : TG} {d d2 : PyData} {ds : List PyData}
theorem EvD.mono (e : Ex H H') (h : EvD K te σ H d) : EvD K te σ H' d := fun H1 a Q q => h H1 (e.trans a) Q q
theorem ed_int {i : Int} (h : Ev te σ H (.int i)) : EvD K te σ H (.int i) := fun H1 e Q q => h H1 e Q fun H2 e2 => q _ H2 e2 (.int i)
theorem ed_non (h : Ev te σ H .non) : EvD K te σ H .none := fun H1 e Q q => h H1 e Q fun H2 e2 => q _ H2 e2 .non
theorem ed_bl {b : Bool} (h : Ev te σ H (.bl b)) : EvD K te σ H (.bool b) := fun H1 e Q q => h H1 e Q fun H2 e2 => q _ H2 e2 (.bl b)
theorem ed_at (h : Ev te σ H v) (hd : Dp K H v d) : EvD K te σ H d := fun H1 e Q q => h H1 e Q fun H2 e2 => q _ H2 e2 (Dp.ext (e.trans e2) _ _ hd)
theorem eda_nil : EvDA K tNil σ H [] := fun H1 _ Q q => q [] H1 (Ex.refl H1) .nil
theorem eda_cons {tr : TA} (h : EvD K te σ H d) (hr : EvDA K tr σ H ds) : EvDA K (tCons te tr) σ H (d :: ds) := fun H1 e Q q =>
  h H1 e _ fun v H2 e2 hv => hr H2 (e.trans e2) _ fun vs H3 e3 hvs => q _ H3 (e2.trans e3) (.cons (Dp.ext e3 _ _ hv) hvs)
theorem ed_tup {ta : TA} (h : EvDA K ta σ H ds) (hl : ds.length ≤ 100000) : EvD K (tTup ta) σ H (.tuple ds) := fun H1 e Q q =>
  h H1 e _ fun vs H2 e2 hvs => ⟨sz_of (by rw [DpAll.len hvs]; exact hl), fun p hp => q _ _ (e2.trans (Ex.new hp)) (.tup (.inl (.inl upd_same)) (DpAll.ext (Ex.new hp) _ _ hvs))⟩
theorem ed_lst {ta : TA} (h : EvDA K ta σ H ds) (hl : ds.length ≤ 100000) : EvD K (tLst ta) σ H (.list ds) := fun H1 e Q q =>
  h H1 e _ fun vs H2 e2 hvs => ⟨sz_of (by rw [DpAll.len hvs]; exact hl), fun p hp => q _ _ (e2.trans (Ex.new hp)) (.lst (.inl (.inl upd_same)) (DpAll.ext (Ex.new hp) _ _ hvs))⟩
theorem ed_call {sp : Sp} {dvs vs : List V} {E : XK} {ta : TA} (h : EvA ta σ H vs) (hs : SpD K sp (vs ++ dvs) H d) : EvD K (tCall sp dvs E ta) σ H d := fun H1 e Q q =>
  h H1 e _ fun H2 e2 => hs H2 (e.trans e2) Q (fun v H3 e3 hv => q v H3 (e2.trans e3) hv) E
/-- a list of ints as data -/
theorem ed_listI {ns : List Int} (h : EvL te σ H (ns.map V.int)) : EvD K te σ H (.list (ns.map PyData.int)) := fun H1 e Q q =>
  h H1 e Q fun p H2 _ e2 hp => q _ H2 e2 (.lst (.inl (.inl hp)) (dpAll_ints ns))
theorem dp_listI {l : Addr} {ns : List Int} (h : SqL K H l (ns.map V.int)) : Dp K H (.ref l) (.list (ns.map PyData.int)) := .lst h (dpAll_ints ns)
theorem s_retD (h : EvD K te σ H d) (k : ∀ v H1, Ex H H1 → Dp K H1 v d → D.rt v H1) : tRet te D σ H := h H (Ex.refl H) _ k
theorem s_asgD {i : Nat} (h : EvD K te σ H d) (k : ∀ v H1, Ex H H1 → Dp K H1 v d → D.nx (σ.set i (some v)) H1) : tAsg te (gName i) D σ H := h H (Ex.refl H) _ k
theorem q_asgD {i : Nat} (h : EvD K te σ H d) (k : ∀ v H1, Ex H H1 → Dp K H1 v d → tz D (σ.set i (some v)) H1) : tSeq (tAsg te (gName i)) tz D σ H := s_asgD (D := { D with nx := tz D }) h k
/-- xs.append(data) -/
theorem s_appD {l : Addr} {xs : List V} (hl : H l = some (.lst xs)) (ha : Ev ta σ H (.ref l)) (h : EvD K te σ H d) (hz : xs.length < 100000) (k : ∀ v H1, Ex H H1 → Dp K H1 v d → D.nx σ (upd H1 l (.lst (xs ++ [v])))) :
    tDrop (tBM K "list" rAppend ta (tCons te tNil)) D σ H := ha H (Ex.refl H) _ fun H1 e1 =>
  ⟨Or.inl ⟨rfl, xs, sq_of (e1 l _ hl)⟩, h H1 e1 _ fun v H2 e2 hv => ⟨l, xs, v, rfl, rfl, e2 l _ (e1 l _ hl), sz_lt hz, k v H2 (e1.trans e2) hv⟩⟩
/-- data equal, not equal -/
theorem ev_eqD (ha : EvD K ta σ H d) (hb : EvD K tb σ H d2) (h1 : SeqAt.shaped d = true) (h2 : SeqAt.shaped d2 = true) : Ev (tOp (rEqD K) ta tb) σ H (.bl (PyData.eqv d d2)) := fun H1 e Q q =>
  ha H1 e _ fun v H2 e2 hv => hb H2 (e.trans e2) _ fun u H3 e3 hu => ⟨d, d2, Dp.ext e3 _ _ hv, hu, h1, h2, q H3 (e2.trans e3)⟩
theorem ev_neD (ha : EvD K ta σ H d) (hb : EvD K tb σ H d2) (h1 : SeqAt.shaped d = true) (h2 : SeqAt.shaped d2 = true) : Ev (tOp (rNeD K) ta tb) σ H (.bl (!PyData.eqv d d2)) := fun H1 e Q q =>
  ha H1 e _ fun v H2 e2 hv => hb H2 (e.trans e2) _ fun u H3 e3 hu => ⟨d, d2, Dp.ext e3 _ _ hv, hu, h1, h2, q H3 (e2.trans e3)⟩
theorem el_cat {xs ys : List V} {b : Addr} (ha : EvL ta σ H xs) (hb : Ev tb σ H (.ref b)) (h : H b = some (.lst ys)) (hz : xs.length + ys.length ≤ 100000) : EvL (tOp rCat ta tb) σ H (xs ++ ys) := fun H1 e Q q =>
  ha H1 e _ fun p H2 np e2 hp => hb H2 (e.trans e2) _ fun H3 e3 => ⟨p, b, xs, ys, rfl, rfl, e3 p _ hp, ((e.trans e2).trans e3) b _ h, sz_of hz, fun p2 hp2 => q p2 _ (fresh_back (e2.trans e3) hp2) ((e2.trans e3).trans (Ex.new hp2)) upd_same⟩
theorem el_cat2 {xs ys : List V} {a b : Addr} (ha : Ev ta σ H (.ref a)) (h0 : H a = some (.lst xs)) (hb : Ev tb σ H (.ref b)) (h : H b = some (.lst ys)) (hz : xs.length + ys.length ≤ 100000) : EvL (tOp rCat ta tb) σ H (xs ++ ys) := fun H1 e Q q =>
  ha H1 e _ fun H2 e2 => hb H2 (e.trans e2) _ fun H3 e3 => ⟨a, b, xs, ys, rfl, rfl, ((e.trans e2).trans e3) a _ h0, ((e.trans e2).trans e3) b _ h, sz_of hz, fun p2 hp2 => q p2 _ (fresh_back (e2.trans e3) hp2) ((e2.trans e3).trans (Ex.new hp2)) upd_same⟩
theorem el_rep {xs : List V} {i : Int} (ha : EvL ta σ H xs) (hb : Ev tb σ H (.int i)) (h1 : 0 ≤ i ∧ i ≤ 10000) (hz : xs.length ≤ 10) : EvL (tOp rRep ta tb) σ H (List.replicate i.toNat xs).flatten := fun H1 e Q q =>
  ha H1 e _ fun p H2 np e2 hp => hb H2 (e.trans e2) _ fun H3 e3 => ⟨p, i, xs, rfl, rfl, e3 p _ hp, by omega, by omega, sz_of (Nat.le_trans (Nat.mul_le_mul hz (show i.toNat ≤ 10000 by omega)) (by decide)), fun p2 hp2 => q p2 _ (fresh_back (e2.trans e3) hp2) ((e2.trans e3).trans (Ex.new hp2)) upd_same⟩
theorem el_rev {xs : List V} {a : Addr} (ha : Ev ta σ H (.ref a)) (h : SqL K H a xs) : EvL (tRevL K ta) σ H xs.reverse := fun H1 e Q q =>
  ha H1 e _ fun H2 e2 => ⟨a, xs, rfl, ex_l (e.trans e2) h, fun p hp => q p _ (fresh_back e2 hp) (e2.trans (Ex.new hp)) upd_same⟩
theorem el_if {b : Bool} {xs : List V} (h : EvT t σ H b) (h1 : b = true → EvL ta σ H xs) (h2 : b = false → EvL tb σ H xs) : EvL (tIf t ta tb) σ H xs := fun H1 e Q q => h H1 e _ fun H2 e2 => by
  cases b with
  | true => exact h1 rfl H2 (e.trans e2) Q fun p H3 hp e3 => q p H3 (fresh_back e2 hp) (e2.trans e3)
  | false => exact h2 rfl H2 (e.trans e2) Q fun p H3 hp e3 => q p H3 (fresh_back e2 hp) (e2.trans e3)
theorem rv_shl {i j : Int} (h : 0 ≤ j ∧ j ≤ 1000000 ∧ i.natAbs < 2 ^ 64) : RV (rI CPow fun i j => .int (i * 2 ^ j.toNat)) (.int i) (.int j) H (.int (i * 2 ^ j.toNat)) := rv_I h
theorem rv_shr {i j : Int} (h : 0 ≤ j) : RV (rI (fun _ j => 0 ≤ j) fun i j => .int (i / 2 ^ j.toNat)) (.int i) (.int j) H (.int (i / 2 ^ j.toNat)) := rv_I h
theorem rc_min {i j : Int} : RC (fun xs H Q => ∃ i j, xs = [.int i, .int j] ∧ Q (.int (if j < i then j else i)) H) [.int i, .int j] H (.int (if j < i then j else i)) := rc_val fun _ _ _ q => ⟨i, j, rfl, q⟩
theorem rc_max {i j : Int} : RC (fun xs H Q => ∃ i j, xs = [.int i, .int j] ∧ Q (.int (if j > i then j else i)) H) [.int i, .int j] H (.int (if j > i then j else i)) := rc_val fun _ _ _ q => ⟨i, j, rfl, q⟩
theorem ev_min {i j : Int} (h : Ev ta σ H (.int i)) (h2 : Ev tb σ H (.int j)) : Ev (tCB (fun xs H Q => ∃ i j, xs = [.int i, .int j] ∧ Q (.int (if j < i then j else i)) H) (tCons ta (tCons tb tNil))) σ H (.int (if j < i then j else i)) := ev_cb (ea2 h h2) rc_min
theorem ev_add {i j : Int} (h : Ev ta σ H (.int i)) (h2 : Ev tb σ H (.int j)) : Ev (tOp (rI0 fun i j => .int (i + j)) ta tb) σ H (.int (i + j)) := ev_op h h2 rv_I0
theorem ev_sub {i j : Int} (h : Ev ta σ H (.int i)) (h2 : Ev tb σ H (.int j)) : Ev (tOp (rI0 fun i j => .int (i - j)) ta tb) σ H (.int (i - j)) := ev_op h h2 rv_I0
theorem ev_lt {i j : Int} (h : Ev ta σ H (.int i)) (h2 : Ev tb σ H (.int j)) : Ev (tOp (rI0 fun i j => .bl (decide (i < j))) ta tb) σ H (.bl (decide (i < j))) := ev_op h h2 rv_I0
theorem ev_eq {i j : Int} (h : Ev ta σ H (.int i)) (h2 : Ev tb σ H (.int j)) : Ev (tOp rEq ta tb) σ H (.bl (decide (i = j))) := by
  have q := ev_op h h2 (rv_eq (x := .int i) (y := .int j) rfl)
  have e : decide ((V.int i) = V.int j) = decide (i = j) := by
    by_cases z : i = j
    · subst z; simp
    · rw [decide_eq_false z, decide_eq_false (fun q => z (V.int.inj q))]
  rw [e] at q
  exact q
theorem ev_ne {i j : Int} (h : Ev ta σ H (.int i)) (h2 : Ev tb σ H (.int j)) : Ev (tOp rNe ta tb) σ H (.bl (!decide (i = j))) := by
  have q := ev_op h h2 (rv_ne (x := .int i) (y := .int j) rfl)
  have e : decide ((V.int i) = V.int j) = decide (i = j) := by
    by_cases z : i = j
    · subst z; simp
    · rw [decide_eq_false z, decide_eq_false (fun q => z (V.int.inj q))]
  rw [e] at q
  exact q
end
end KC
set_option Elab.async false
set_option linter.all false
set_option maxRecDepth 100000
set_option maxHeartbeats 4000000
namespace KC
open PySem PySem.Spec PyProof.Rows L2 GX Evl
def capC (N N' : List Str) (cm : List (Option Nat)) (scope sc : Scope) : Bool :=
  decide (scope.kind = .function) && !scope.isCoroutine && (scope.names.all fun y => decide (y.2 ≠ .cell)) && decide (scope.names.lookup (".0" : Str) = some NameKind.local) &&
    (scope.names.all fun y => !decide (y.2 = .free) || (decide (sc.names.lookup y.1 = some .cell) || decide (sc.names.lookup y.1 = some .free))) && decide (cm.length = N'.length) &&
    ((cm.zip N').all fun p => match p.1 with | some j => (N[j]? == some p.2) && (scope.names.lookup p.2 == some .free) | none => true)
theorem capOk_by {N N' : List Str} {cm : List (Option Nat)} {scope sc : Scope} (h : capC N N' cm scope sc = true) : CapOk N N' cm scope sc := by
  unfold capC at h
  simp only [Bool.and_eq_true, List.all_eq_true, decide_eq_true_eq, Bool.not_eq_true', Bool.or_eq_true, decide_eq_false_iff_not] at h
  obtain ⟨⟨⟨⟨⟨⟨h1, h2⟩, h3⟩, h4⟩, h5⟩, h6⟩, h7⟩ := h
  refine ⟨h1, h2, h3, h4, fun y hy e => ?_, h6, ?_⟩
  · rcases h5 y hy with z | z
    · exact absurd e z
    · exact z
  · rw [List.all_eq_true]
    intro p hp
    have := h7 p hp
    revert this
    cases p.1 <;> simp
theorem ix_listK {X : Cx} {K : PySem.W.Frag} (h : X.K = K) : IxR X (rIxL K) := by
  subst h
  exact ix_list
theorem ix_tupK {X : Cx} {K : PySem.W.Frag} (h : X.K = K) : IxR X (rIxT K) := by
  subst h
  exact ix_tup
theorem canLayAll0_map {α : Type} {f : α → PyData} (h : ∀ a, (f a).canLay0 = true) : ∀ xs : List α, PyData.canLayAll0 (xs.map f) = true
  | [] => by simp [PyData.canLayAll0]
  | a :: r => by simp [PyData.canLayAll0, h a, canLayAll0_map h r]
theorem depthAll_map {α : Type} {f : α → PyData} {n : Nat} (h : ∀ a, (f a).depth ≤ n) : ∀ xs : List α, PyData.depthAll (xs.map f) ≤ n
  | [] => by simp [PyData.depthAll]
  | a :: r => by
    have h1 := depthAll_map h r
    have h2 := h a
    simp only [List.map_cons, PyData.depthAll]
    omega
theorem shaped_list {α : Type} {f : α → PyData} {n : Nat} (hn : n ≤ 60) (h1 : ∀ a, (f a).canLay0 = true) (h2 : ∀ a, (f a).depth ≤ n) (xs : List α) : SeqAt.shaped (.list (xs.map f)) = true := by
  have h3 := depthAll_map h2 xs
  have h4 : PyData.depth (.list (xs.map f)) ≤ 64 := by simp only [PyData.depth]; omega
  show (PyData.canLay0 (.list (xs.map f)) && decide (PyData.depth (.list (xs.map f)) ≤ 64)) = true
  rw [Bool.and_eq_true]
  exact ⟨by simp only [PyData.canLay0]; exact canLayAll0_map h1 xs, decide_eq_true h4⟩
theorem shaped_ints (ns : List Int) : SeqAt.shaped (.list (ns.map PyData.int)) = true := shaped_list (n := 1) (by decide) (fun a => by simp [PyData.canLay0]) (fun a => by simp [PyData.depth]) ns
theorem eqvAll_map {α : Type} {f : α → PyData} (h : ∀ a, PyData.eqv (f a) (f a) = true) : ∀ xs : List α, PyData.eqvAll (xs.map f) (xs.map f) = true
  | [] => by simp [PyData.eqvAll]
  | a :: r => by simp [PyData.eqvAll, h a, eqvAll_map h r]
theorem eqv_list {α : Type} {f : α → PyData} (h : ∀ a, PyData.eqv (f a) (f a) = true) (xs : List α) : PyData.eqv (.list (xs.map f)) (.list (xs.map f)) = true := by
  simp only [PyData.eqv]
  exact eqvAll_map h xs
theorem eqv_ints (xs : List Int) : PyData.eqv (.list (xs.map PyData.int)) (.list (xs.map PyData.int)) = true := eqv_list (fun a => by simp [PyData.eqv]) xs
section
variable {K : PySem.W.Frag} {σ : L2.St} {H H' : Hp} {ta tb tc te tx : TE}
theorem ev_sumL {ns : List Int} (h : EvL te σ H (ns.map V.int)) : Ev (tCB (rSum K) (tCons te tNil)) σ H (.int ns.sum) := fun H1 e Q q =>
  h H1 e _ fun p H2 _ e2 hp => ⟨p, ns, rfl, sq_of hp, q H2 e2⟩
theorem ev_sumLa {ns : List Int} {a : Addr} (h : Ev te σ H (.ref a)) (hs : SqL K H a (ns.map V.int)) : Ev (tCB (rSum K) (tCons te tNil)) σ H (.int ns.sum) := fun H1 e Q q =>
  h H1 e _ fun H2 e2 => ⟨a, ns, rfl, ex_l (e.trans e2) hs, q H2 e2⟩
theorem et_yes : EvT tYes σ H true := fun H1 _ _ q => q H1 (Ex.refl H1)
/-- list(xs) -/
theorem el_listOf {p : Addr} {xs : List V} (ha : Ev ta σ H (.ref p)) (h : SqL K H p xs) : EvL (tCB (fun xs H Q => ∃ p ys, xs = [.ref p] ∧ (SqL K H p ys ∨ SqT K H p ys) ∧ ∀ l, H l = none → Q (.ref l) (upd H l (.lst ys))) (tCons ta tNil)) σ H xs := fun H1 e Q q =>
  ha H1 e _ fun H2 e2 => ⟨p, xs, rfl, .inl (ex_l (e.trans e2) h), fun l hl => q l _ (fresh_back e2 hl) (e2.trans (Ex.new hl)) upd_same⟩
/-- a call whose third argument is a new tuple -/
theorem ed_call3U {sp : Sp} {E : XK} {x y : V} {xs : List V} {d : PyData} (h1 : Ev ta σ H x) (h2 : Ev tb σ H y) (h3 : EvU tc σ H xs) (hs : ∀ p H1, Ex H H1 → H1 p = some (.tup xs) → SpD K sp [x, y, .ref p] H1 d) : EvD K (tCall sp [] E (tCons ta (tCons tb (tCons tc tNil)))) σ H d := fun H1 e Q q =>
  h1 H1 e _ fun H2 e2 => h2 H2 (e.trans e2) _ fun H3 e3 => h3 H3 ((e.trans e2).trans e3) _ fun p H4 hp e4 h4 =>
    hs p H4 (((e.trans e2).trans e3).trans e4) h4 H4 (Ex.refl _) Q (fun v H5 e5 hv => q v H5 (((e2.trans e3).trans e4).trans e5) hv) E
end
end KC
set_option Elab.async false
set_option linter.all false
set_option maxRecDepth 100000
set_option maxHeartbeats 4000000
namespace KC
open PySem PySem.Spec PyProof.Rows L2 StX GX Evl
section
variable {K : PySem.W.Frag} {σ : L2.St} {H H' : Hp} {ta tb tc te tx tl : TE} {D : Ends} {tz : TS}
theorem tt_yes {A B : Hp → Prop} (h : A H) : tYes σ H (fun b H3 => if b = true then A H3 else B H3) := by
  show (if true = true then A H else B H)
  rw [if_pos rfl]
  exact h
/-- a < b < c -/
theorem ev_chain {r r2 : R2} {x y z : V} {b1 b2 : Bool} (h1 : Ev ta σ H x) (h2 : Ev tb σ H y) (h3 : RV r x y H (.bl b1)) (h4 : b1 = true → Ev tc σ H z) (h5 : b1 = true → RV r2 y z H (.bl b2)) : Ev (tChain r r2 ta tb tc) σ H (.bl (b1 && b2)) := fun H1 e Q q =>
  h1 H1 e _ fun H2 e2 => h2 H2 (e.trans e2) _ fun H3 e3 => h3 H3 ((e.trans e2).trans e3) _ fun H4 e4 => by
    have e14 := (e2.trans e3).trans e4
    refine ⟨b1, rfl, ?_⟩
    cases b1 with
    | false =>
      rw [if_neg Bool.false_ne_true]
      exact q H4 e14
    | true =>
      rw [if_pos rfl]
      exact h4 rfl H4 (e.trans e14) _ fun H5 e5 => h5 rfl H5 ((e.trans e14).trans e5) _ fun H6 e6 => q H6 ((e14.trans e5).trans e6)
/-- max([c, *xs]) where c is not below any -/
theorem ev_maxStar {c : Int} {l : Addr} {ls : List Int} (h : Ev ta σ H (.int c)) (h2 : Ev tb σ H (.ref l)) (hs : SqL K H l (ls.map V.int)) (hb : ∀ x ∈ ls, x ≤ c) (hz : ls.length ≤ 1000) :
    Ev (tCB (rMax K) (tCons (tLst (tCons ta (tStar K tb tNil))) tNil)) σ H (.int c) := fun H1 e Q q =>
  h H1 e _ fun H2 e2 => h2 H2 (e.trans e2) _ fun H3 e3 => by
    refine ⟨l, ls.map V.int, rfl, .inr (ex_l ((e.trans e2).trans e3) hs), sz_of ?_, fun p hp => ⟨p, c :: ls, rfl, sq_of ?_, Nat.succ_pos _, fun m hm hall => ?_⟩⟩
    · simp
      omega
    · rw [upd_same, List.append_nil]
      rfl
    · have h1 := hall c List.mem_cons_self
      have h3 : m ≤ c := by
        rcases List.mem_cons.mp hm with z | z
        · omega
        · exact hb m z
      have h4 : m = c := by omega
      subst h4
      exact q _ ((e2.trans e3).trans (Ex.new hp))
theorem max_of : ∀ ls : List Int, ls ≠ [] → ∃ m, m ∈ ls ∧ ∀ y ∈ ls, y ≤ m
  | [], h => absurd rfl h
  | [x], _ => ⟨x, List.mem_cons_self, fun y hy => by rw [List.mem_singleton.mp hy]; exact Int.le_refl _⟩
  | x :: y :: r, _ => by
    obtain ⟨m, h1, h2⟩ := max_of (y :: r) (by simp)
    by_cases e : m ≤ x
    · refine ⟨x, List.mem_cons_self, fun z hz => ?_⟩
      rcases List.mem_cons.mp hz with h | h
      · omega
      · have := h2 z h; omega
    · refine ⟨m, List.mem_cons_of_mem _ h1, fun z hz => ?_⟩
      rcases List.mem_cons.mp hz with h | h
      · omega
      · exact h2 z h
/-- max(xs) -/
theorem ev_maxL {l : Addr} {ls : List Int} {m : Int} (h : Ev ta σ H (.ref l)) (hs : SqL K H l (ls.map V.int)) (hm : m ∈ ls) (hall : ∀ y ∈ ls, y ≤ m) : Ev (tCB (rMax K) (tCons ta tNil)) σ H (.int m) := fun H1 e Q q =>
  h H1 e _ fun H2 e2 => ⟨l, ls, rfl, ex_l (e.trans e2) hs, List.length_pos_of_mem hm, fun n hn hal => by
    have h1 := hal m hm
    have h2 := hall n hn
    have : n = m := by omega
    subst this
    exact q H2 e2⟩
theorem sum_bd : ∀ (l : List Int) (B : Int), (∀ x ∈ l, 0 ≤ x ∧ x ≤ B) → 0 ≤ l.sum ∧ l.sum ≤ l.length * B
  | [], B, _ => by simp
  | x :: r, B, h => by
    have h1 := sum_bd r B fun y hy => h y (List.mem_cons_of_mem _ hy)
    have h2 := h x List.mem_cons_self
    have e : ((x :: r).length : Int) * B = r.length * B + B := by
      rw [List.length_cons, Int.natCast_add, Int.add_mul]
      simp
    rw [List.sum_cons, e]
    omega
/-- sum(f(x) for x in xs if b(x)) -/
theorem ev_sumLF {tt : TT} {Pt l : Addr} {cm : List (Option Nat)} {own : List Nat} {xs : List Int} (f : Int → Int) (b : Int → Bool) (h : Ev tl σ H (.ref l)) (hx : SqL K H l (xs.map V.int)) (hn : xs.length ≤ 1000) (tab : H Pt = some (TabX Pt))
    (hf : ∀ x ∈ xs, 0 ≤ f x ∧ f x ≤ 2 ^ 40) (hw : ∀ x, wipe ((captS cm σ).set 0 (some x)) own = captS cm σ) (ht : ∀ x ∈ xs, ∀ H1, Ex H H1 → EvT tt ((captS cm σ).set 0 (some (.int x))) H1 (b x))
    (he : ∀ x ∈ xs, b x = true → ∀ H1, Ex H H1 → Ev te ((captS cm σ).set 0 (some (.int x))) H1 (.int (f x))) :
    Ev (tSumG (tGx Pt (iList K tl) (gName 0) tt te cm own)) σ H (.int ((xs.filter b).map f).sum) := fun H1 e Q q =>
  h H1 e _ fun H3 e13 => by
    have e03 := e.trans e13
    have hxl : (xs.map V.int).length = xs.length := List.length_map _
    refine ⟨l, rfl, ⟨_, ex_l e03 hx⟩, e03 Pt _ tab, fun i m zs H' => m + i = xs.length ∧ Ex H3 H' ∧ zs = (((xs.take i).filter b).map f).map V.int, ⟨xs.length, by omega, Ex.refl _, rfl⟩, ?_⟩
    rintro i m zs H' ⟨hm, e4, rfl⟩
    have e04 := e03.trans e4
    by_cases hi : i < xs.length
    · right
      refine ⟨⟨_, _, ex_l e04 hx, int_at hi⟩, fun zs H5 => (m - 1) + (i + 1) = xs.length ∧ Ex H3 H5 ∧ zs = (((xs.take (i + 1)).filter b).map f).map V.int, fun zs H5 q => ⟨m - 1, by omega, q⟩, ?_⟩
      rintro v H5 ⟨rfl, hx1⟩
      have ex1 := (Option.some.inj ((int_at hi).symm.trans (hx1 _ (ex_l e04 hx)))).symm
      subst ex1
      have hxi : xs.getD i 0 = xs[i] := by rw [List.getD_eq_getElem?_getD, List.getElem?_eq_getElem hi] <;> rfl
      have hmem : xs.getD i 0 ∈ xs := by rw [hxi]; exact List.getElem_mem hi
      have htk : xs.take (i + 1) = xs.take i ++ [xs.getD i 0] := by rw [hxi]; exact (List.take_append_getElem hi).symm
      refine ⟨hw _, ht _ hmem _ e04 _ (Ex.refl _) _ fun H6 e6 => ?_⟩
      cases hb : b (xs.getD i 0) with
      | false =>
        rw [if_neg Bool.false_ne_true]
        refine ⟨by omega, e4.trans e6, ?_⟩
        rw [htk, List.filter_append, List.filter_cons, if_neg (by rw [hb]; decide), List.filter_nil, List.append_nil]
      | true =>
        rw [if_pos rfl]
        refine he _ hmem hb _ (e04.trans e6) _ (Ex.refl _) _ fun H7 e7 => ?_
        have hall : ∀ y ∈ ((xs.take i).filter b).map f, 0 ≤ y ∧ y ≤ 2 ^ 40 := fun y hy => by
          obtain ⟨x, hx2, rfl⟩ := List.mem_map.mp hy
          exact hf x (List.mem_of_mem_take (List.mem_filter.mp hx2).1)
        have hb1 := sum_bd _ _ hall
        have hb2 := hf _ hmem
        have hlen : (((xs.take i).filter b).map f).length ≤ i := by
          rw [List.length_map]
          exact Nat.le_trans (List.length_filter_le _ _) (by rw [List.length_take]; omega)
        have hB : ((((xs.take i).filter b).map f).length : Int) * 2 ^ 40 ≤ 1000 * 2 ^ 40 := by omega
        refine ⟨sz_lt (by rw [List.length_map]; omega), ⟨f _, rfl, ⟨by omega, by omega⟩, ?_⟩, by omega, (e4.trans e6).trans e7, ?_⟩
        · rw [vsum_ints]
          exact ⟨by omega, by omega⟩
        · rw [htk, List.filter_append, List.filter_cons, if_pos hb, List.filter_nil, List.map_append, List.map_append]
          rfl
    · left
      have hin : i = xs.length := by omega
      subst hin
      refine ⟨⟨_, ex_l e04 hx, by rw [hxl]; exact Nat.le_refl _⟩, ?_⟩
      show Q (.int (vsum _)) H'
      rw [vsum_ints, List.take_length]
      exact q H' (e13.trans e4)
/-- any(b(x) for x in xs) -/
theorem ev_anyL {Pt l : Addr} {cm : List (Option Nat)} {own : List Nat} {xs : List Int} (b : Int → Bool) (h : Ev tl σ H (.ref l)) (hx : SqL K H l (xs.map V.int)) (hn : xs.length ≤ 1000) (tab : H Pt = some (TabX Pt))
    (hw : ∀ x, wipe ((captS cm σ).set 0 (some x)) own = captS cm σ) (he : ∀ x ∈ xs, ∀ H1, Ex H H1 → Ev te ((captS cm σ).set 0 (some (.int x))) H1 (.bl (b x))) :
    Ev (tAnyG (tGx Pt (iList K tl) (gName 0) tYes te cm own)) σ H (.bl (xs.any b)) := fun H1 e Q q =>
  h H1 e _ fun H3 e13 => by
    have e03 := e.trans e13
    have hxl : (xs.map V.int).length = xs.length := List.length_map _
    refine ⟨l, rfl, ⟨_, ex_l e03 hx⟩, e03 Pt _ tab, fun i m zs H' => m + i = xs.length ∧ Ex H3 H' ∧ zs = (xs.take i).map fun x => V.bl (b x), ⟨xs.length, by omega, Ex.refl _, rfl⟩, ?_⟩
    rintro i m zs H' ⟨hm, e4, rfl⟩
    have e04 := e03.trans e4
    by_cases hi : i < xs.length
    · right
      refine ⟨⟨_, _, ex_l e04 hx, int_at hi⟩, fun zs H5 => (m - 1) + (i + 1) = xs.length ∧ Ex H3 H5 ∧ zs = (xs.take (i + 1)).map fun x => V.bl (b x), fun zs H5 q => ⟨m - 1, by omega, q⟩, ?_⟩
      rintro v H5 ⟨rfl, hx1⟩
      have ex1 := (Option.some.inj ((int_at hi).symm.trans (hx1 _ (ex_l e04 hx)))).symm
      subst ex1
      have hxi : xs.getD i 0 = xs[i] := by rw [List.getD_eq_getElem?_getD, List.getElem?_eq_getElem hi] <;> rfl
      have hmem : xs.getD i 0 ∈ xs := by rw [hxi]; exact List.getElem_mem hi
      have htk : xs.take (i + 1) = xs.take i ++ [xs.getD i 0] := by rw [hxi]; exact (List.take_append_getElem hi).symm
      refine ⟨hw _, tt_yes ?_⟩
      refine he _ hmem _ e04 _ (Ex.refl _) _ fun H7 e7 => ?_
      have hyes : b (xs.getD i 0) = true → xs.any b = true := fun z => List.any_eq_true.mpr ⟨_, hmem, z⟩
      refine ⟨sz_lt (by rw [List.length_map, List.length_take]; omega), ⟨_, rfl, fun z => ?_⟩, by omega, e4.trans e7, ?_⟩
      · have := hyes z
        rw [← this]
        exact q _ ((e13.trans e4).trans e7)
      · rw [htk, List.map_append]
        rfl
    · left
      have hin : i = xs.length := by omega
      subst hin
      refine ⟨⟨_, ex_l e04 hx, by rw [hxl]; exact Nat.le_refl _⟩, fun hno => ?_⟩
      rw [List.take_length] at hno
      have hr : xs.any b = false := by
        rw [List.any_eq_false]
        intro x hx2 hb
        exact hno _ (List.mem_map.mpr ⟨x, hx2, rfl⟩) (by rw [hb])
      rw [← hr]
      exact q H' (e13.trans e4)
end
end KC
set_option Elab.async false
set_option linter.all false
set_option maxRecDepth 100000
set_option maxHeartbeats 4000000
/-! Objects: methods by the kind of the receiver's class, instances made, attributes. -/
namespace KC
open PySem PySem.Spec PyProof.Rows L2 GX Evl

/-- a method by the kind of its receiver's class: the class of kind i stands at Cl i -/
structure MCal (P : Program) (w : World) (K : PySem.W.Frag) (mg : Str → Option Value) (base : Heap) (Cl : Nat → Addr) (Is : Nat → Prop) (m : Str) (k : Nat) (ps : List Str) (sp : Nat → Sp) : Prop where
  out : ∀ i, Is i → Cls K (Cl i) ∧ ∃ f fd, Meth K (Cl i) m f ∧ Binds K fd ps [] ∧ FnOk P w K mg base CX0 k f fd ps (sp i)
def tMethD (Cl : Nat → Addr) (Is : Nat → Prop) (m : Str) (sp : Nat → Sp) (ta : TE) (t : TA) : TE := fun σ H Q => ta σ H fun x H1 => ∃ i a dx fs, Is i ∧ x = .ref a ∧ H1 a = some (.ins (Cl i) dx fs) ∧ fs.lookup m = none ∧
  t σ H1 fun vs H2 => sp i (x :: (vs ++ [])) H2 Q E0
section
variable {X : Cx} {k : Nat} {Cl : Nat → Addr} {Is : Nat → Prop} {ps : List Str} {sp : Nat → Sp} {m : Str} {pos apos : Pos} {e o : Expr} {es : List Expr} {ta : TE} {t : TA}
theorem pe_methD {pl : Sem Bool} (he : PE X o ta) (M : MCal X.prog X.w X.K X.mg X.base Cl Is m k ps sp) (hr : Room k X.A) (ha : PA X (e :: es) t)
    (hst : starEach (e :: es) X.env = (false, eval e X.env) :: starEach es X.env := by rfl) (hpl : (backTo pos (starEach es X.env)).any (·.1) = false := by rfl)
    (ht : eval (.Call (.Attribute o m apos) (e :: es) [] pos) X.env = (do
      let ov ← eval o X.env
      standAt apos.atName
      let (f, first) ← holding [ov] (getMethod ov m pl)
      callWith pos f first (backTo pos (starEach (e :: es) X.env)) (backToKw pos (keywordEach [] X.env))) := by rfl) :
    PE X (.Call (.Attribute o m apos) (e :: es) [] pos) (tMethD Cl Is m sp ta t) := by
  refine ⟨fun pins s σ H Q I h => ?_⟩
  refine PySem.W.methodCall_KW (pl := pl) (thn (he.run pins s σ H _ I h) fun u s1 ⟨x, H1, I1, rx, i, a, dx, fs, hi, ex, ea, l, q⟩ => ?_) ht
  subst ex
  obtain rfl : u = Value.ref a := rx
  obtain ⟨c, f, fd, hm, hb, F⟩ := M.out i hi
  refine getmeth_ok I1 ea c hm l ?_
  refine PySem.W.callWith_K (first := [.ref a]) (h₀ := X.base) I1.ok.mod.kin hm.kp (thn (ha.run pos pins s1 σ H1 _ I1 q) fun us s2 ⟨vs, H2, I2, r, q2⟩ => ⟨I2.kIn, ?_⟩) hst hpl
  exact run_fn (us := .ref a :: us) (vs := .ref a :: vs) F hr hb .nil pass0 I2 (.cons rfl r) q2
theorem pe_methD0 {pl : Sem Bool} (he : PE X o ta) (M : MCal X.prog X.w X.K X.mg X.base Cl Is m k ps sp) (hr : Room k X.A)
    (ht : eval (.Call (.Attribute o m apos) [] [] pos) X.env = (do
      let ov ← eval o X.env
      standAt apos.atName
      let (f, first) ← holding [ov] (getMethod ov m pl)
      callWith pos f first (backTo pos (starEach [] X.env)) (backToKw pos (keywordEach [] X.env))) := by rfl) :
    PE X (.Call (.Attribute o m apos) [] [] pos) (tMethD Cl Is m sp ta tNil) := by
  refine ⟨fun pins s σ H Q I h => ?_⟩
  refine PySem.W.methodCall_KW (pl := pl) (thn (he.run pins s σ H _ I h) fun u s1 ⟨x, H1, I1, rx, i, a, dx, fs, hi, ex, ea, l, q⟩ => ?_) ht
  subst ex
  obtain rfl : u = Value.ref a := rx
  obtain ⟨c, f, fd, hm, hb, F⟩ := M.out i hi
  refine getmeth_ok I1 ea c hm l ?_
  exact PySem.W.callWith_K0 (first := [.ref a]) I1.kIn hm.kp (run_fn (us := [.ref a]) (vs := [.ref a]) F hr hb .nil pass0 I1 (.cons rfl .nil) q)
end
/-- a class called by its name -/
structure CalM (P : Program) (w : World) (K : PySem.W.Frag) (mg : Str → Option Value) (base : Heap) (nm : Str) (C : Addr) (k : Nat) (ps : List Str) (sp : Sp) : Prop where
  out : ∃ f fd, mg nm = some (.ref C) ∧ Mk K C f ∧ Binds K fd ps [] ∧ FnOk P w K mg base CX0 k f fd ps sp
theorem pe_makeC {X : Cx} {nm : Str} {C : Addr} {k : Nat} {ps : List Str} {sp : Sp} {p pos : Pos} {e : Expr} {es : List Expr} {t : TA} (M : CalM X.prog X.w X.K X.mg X.base nm C k ps sp) (hr : Room (k + 1) X.A) (hg : Gl X nm) (ha : PA X (e :: es) t)
    (hdb : (nm == ("__debug__" : Str)) = false := by decide) (he : starEach (e :: es) X.env = (false, eval e X.env) :: starEach es X.env := by rfl) (hpl : (backTo pos (starEach es X.env)).any (·.1) = false := by rfl) :
    PE X (.Call (.Name nm p) (e :: es) [] pos) (tMake C sp [] E0 t) := by
  obtain ⟨f, fd, h1, h2, h3, h4⟩ := M.out
  exact pe_make h2 h4 hr hg h1 h3 .nil pass0 ha hdb he hpl
/-- xs[i] of a list, the index from 0 -/
def rIxL0 (K : PySem.W.Frag) : R2 := fun x y H Q => ∃ p xs, ∃ (i : Nat), ∃ v, x = .ref p ∧ y = .int (i : Int) ∧ SqL K H p xs ∧ xs[i]? = some v ∧ Q v H
theorem get_list {X : Cx} : PGet X (rIxL0 X.K) := by
  intro pins s σ H x y v u Q I rx ry h
  obtain ⟨p, xs, i, z, rfl, rfl, hq, he, q⟩ := h
  cases rx
  obtain ⟨t, rfl⟩ := ry
  obtain ⟨its, r, pl, hz⟩ := I.list hq
  obtain ⟨w, ew, rw'⟩ := r.get he
  have hn := line63
  have hl := r.length
  have hi := (List.getElem?_eq_some_iff.mp he).1
  refine wpAny_getItem_list pl.isList (by omega) (by omega) (x := w) ?_ ⟨z, H, I, rw', q⟩
  simpa using ew

/-! ### readings -/
section
variable {K : PySem.W.Frag} {σ : L2.St} {H H' : Hp} {ta tb te tx : TE} {v x : V} {D : Ends} {tz : TS} {a C dx : Addr} {fs : List (Str × V)} {f : Str}
theorem ev_fld (ha : Ev ta σ H (.ref a)) (h : H a = some (.ins C dx fs)) (c : Cls K C) (n : NoAttr K C f) (l : fs.lookup f = some v) : Ev (tFld K ta f) σ H v := fun H1 e Q q =>
  ha H1 e _ fun H2 e2 => ⟨a, C, dx, fs, v, rfl, (e.trans e2) a _ h, c, n, l, q H2 e2⟩
theorem s_fld (hv : Ev te σ H v) (ha : Ev ta σ H (.ref a)) (h : H a = some (.ins C dx fs)) (c : Cls K C) (n : NoAttr K C f) (hl : fs.length < 1000) (k : ∀ H1, Ex H H1 → D.nx σ (upd H1 a (.ins C dx (putF f v fs)))) : sFld K ta te f D σ H :=
  hv H (Ex.refl H) _ fun H1 e1 => ha H1 e1 _ fun H2 e2 => ⟨a, C, dx, fs, rfl, (e1.trans e2) a _ h, c, n, hl, k H2 (e1.trans e2)⟩
theorem q_fld (hv : Ev te σ H v) (ha : Ev ta σ H (.ref a)) (h : H a = some (.ins C dx fs)) (c : Cls K C) (n : NoAttr K C f) (hl : fs.length < 1000) (k : ∀ H1, Ex H H1 → tz D σ (upd H1 a (.ins C dx (putF f v fs)))) : tSeq (sFld K ta te f) tz D σ H :=
  s_fld (D := { D with nx := tz D }) hv ha h c n hl k
theorem s_fldL {xs : List V} (hv : EvL te σ H xs) (ha : Ev ta σ H (.ref a)) (h : H a = some (.ins C dx fs)) (c : Cls K C) (n : NoAttr K C f) (hl : fs.length < 1000) (k : ∀ p H1, H p = none → Ex H H1 → H1 p = some (.lst xs) → D.nx σ (upd H1 a (.ins C dx (putF f (.ref p) fs)))) : sFld K ta te f D σ H :=
  hv H (Ex.refl H) _ fun p H1 hp e1 h1 => ha H1 e1 _ fun H2 e2 => ⟨a, C, dx, fs, rfl, (e1.trans e2) a _ h, c, n, hl, k p H2 hp (e1.trans e2) (e2 p _ h1)⟩
theorem q_fldL {xs : List V} (hv : EvL te σ H xs) (ha : Ev ta σ H (.ref a)) (h : H a = some (.ins C dx fs)) (c : Cls K C) (n : NoAttr K C f) (hl : fs.length < 1000) (k : ∀ p H1, H p = none → Ex H H1 → H1 p = some (.lst xs) → tz D σ (upd H1 a (.ins C dx (putF f (.ref p) fs)))) : tSeq (sFld K ta te f) tz D σ H :=
  s_fldL (D := { D with nx := tz D }) hv ha h c n hl k
theorem ev_meth {Cl : Nat → Addr} {Is : Nat → Prop} {m : Str} {sp : Nat → Sp} {t : TA} {i : Nat} {vs : List V} (ha : Ev ta σ H (.ref a)) (hi : Is i) (h : H a = some (.ins (Cl i) dx fs)) (l : fs.lookup m = none) (ht : EvA t σ H vs) (hs : SpV (sp i) (.ref a :: (vs ++ [])) H v) : Ev (tMethD Cl Is m sp ta t) σ H v := fun H1 e Q q =>
  ha H1 e _ fun H2 e2 => ⟨i, a, dx, fs, hi, rfl, (e.trans e2) a _ h, l, ht H2 (e.trans e2) _ fun H3 e3 => hs H3 ((e.trans e2).trans e3) Q (fun H4 e4 => q H4 ((e2.trans e3).trans e4)) E0⟩
theorem cutV_to (xs : List V) (n : Nat) : cutV xs none (some (n : Int)) = xs.take n := by
  unfold cutV
  rw [HT.sIx_none, HT.sIx_nat, List.drop_zero, Nat.sub_zero]
  by_cases h : n ≤ xs.length
  · rw [Nat.min_eq_left h]
  · rw [Nat.min_eq_right (by omega), List.take_of_length_le (Nat.le_refl _), List.take_of_length_le (by omega)]
theorem s_augS {to ti : TE} {l : Addr} {xs : List V} {s : Nat} {p q : Int} {g : Int → Int → Int} (hl : H l = some (.lst xs)) (ho : Ev to σ H (.ref l)) (hi : Ev ti σ H (.int (s : Int))) (hx : xs[s]? = some (.int p)) (he : Ev te σ H (.int q)) (k : ∀ H1, Ex H H1 → D.nx σ (upd H1 l (.lst (xs.set s (.int (g p q)))))) :
    tAugS to ti te (rIxL0 K) (ipI g) rSetL D σ H :=
  ho H (Ex.refl H) _ fun H1 e1 => hi H1 e1 _ fun H2 e2 => ⟨l, xs, s, _, rfl, rfl, sq_of ((e1.trans e2) l _ hl), hx, he H2 (e1.trans e2) _ fun H3 e3 => ⟨p, q, rfl, rfl, l, xs, (s : Int), s, rfl, rfl, ((e1.trans e2).trans e3) l _ hl, ixN_nat ((List.getElem?_eq_some_iff.mp hx).1), k H3 ((e1.trans e2).trans e3)⟩⟩
theorem q_augS {to ti : TE} {l : Addr} {xs : List V} {s : Nat} {p q : Int} {g : Int → Int → Int} (hl : H l = some (.lst xs)) (ho : Ev to σ H (.ref l)) (hi : Ev ti σ H (.int (s : Int))) (hx : xs[s]? = some (.int p)) (he : Ev te σ H (.int q)) (k : ∀ H1, Ex H H1 → tz D σ (upd H1 l (.lst (xs.set s (.int (g p q)))))) :
    tSeq (tAugS to ti te (rIxL0 K) (ipI g) rSetL) tz D σ H := s_augS (D := { D with nx := tz D }) hl ho hi hx he k
/-- it gives something that is so -/
def EvP (te : TE) (σ : L2.St) (H : Hp) (R : V → Hp → Prop) : Prop := ∀ H1, Ex H H1 → ∀ Q : VK, (∀ v H2, Ex H1 H2 → R v H2 → Q v H2) → te σ H1 Q
theorem s_retP {R : V → Hp → Prop} (h : EvP te σ H R) (k : ∀ v H1, Ex H H1 → R v H1 → D.rt v H1) : tRet te D σ H := h H (Ex.refl H) _ k
theorem s_asgP {i : Nat} {R : V → Hp → Prop} (h : EvP te σ H R) (k : ∀ v H1, Ex H H1 → R v H1 → D.nx (σ.set i (some v)) H1) : tAsg te (gName i) D σ H := h H (Ex.refl H) _ k
theorem q_asgP {i : Nat} {R : V → Hp → Prop} (h : EvP te σ H R) (k : ∀ v H1, Ex H H1 → R v H1 → tz D (σ.set i (some v)) H1) : tSeq (tAsg te (gName i)) tz D σ H := h H (Ex.refl H) _ k
theorem q_fldP {R : V → Hp → Prop} (hv : EvP te σ H R) (ha : Ev ta σ H (.ref a)) (h : H a = some (.ins C dx fs)) (c : Cls K C) (n : NoAttr K C f) (hl : fs.length < 1000) (k : ∀ v H1 H2, Ex H H1 → R v H1 → Ex H1 H2 → tz D σ (upd H2 a (.ins C dx (putF f v fs)))) : tSeq (sFld K ta te f) tz D σ H :=
  hv H (Ex.refl H) _ fun v H1 e1 r => ha H1 e1 _ fun H2 e2 => ⟨a, C, dx, fs, rfl, (e1.trans e2) a _ h, c, n, hl, k v H1 H2 e1 r e2⟩
/-- [e for x in range(n)] whose items are new objects -/
theorem ep_lcR1 {ta : TA} {j n : Nat} {vs : List Nat} {R : V → Hp → Prop} (h : EvA ta σ H [.int (n : Int)]) (hn : n ≤ 40000) (hw : ∀ x, wipe ((wipe σ vs).set j (some x)) vs = wipe σ vs) (Pv : Hp → Addr → Nat → Hp → Prop)
    (h0 : ∀ H1 Dl, Ex H H1 → H1 Dl = none → Pv H1 Dl 0 (upd H1 Dl (.lst [])))
    (hs : ∀ H1 Dl i H', Ex H H1 → H1 Dl = none → i < n → Pv H1 Dl i H' → te ((wipe σ vs).set j (some (.int (i : Int)))) H' fun y H4 => ∃ acc, H4 Dl = some (.lst acc) ∧ acc.length < sizeLine ∧ Pv H1 Dl (i + 1) (upd H4 Dl (.lst (acc ++ [y]))))
    (hd : ∀ H1 Dl H', Ex H H1 → H1 Dl = none → Pv H1 Dl n H' → Ex H1 H' ∧ R (.ref Dl) H') : EvP (tLc (iRng1 ta) (gName j) tYes te vs) σ H R := fun H0 e0 Q q =>
  h H0 e0 _ fun H1 e1 => ⟨(n : Int), rfl, by omega, by omega, fun Dl hD => lc_range (lo := 0) (n := n) (Pv H1 Dl) (h0 H1 Dl (e0.trans e1) hD) (fun i H' hi p => by
    have e2 : (0 : Int) + (i : Int) = (i : Int) := Int.zero_add _
    show wipe ((wipe σ vs).set j (some (.int ((0 : Int) + (i : Int))))) vs = wipe σ vs ∧ tYes ((wipe σ vs).set j (some (.int ((0 : Int) + (i : Int))))) H' fun b H3 => _
    rw [e2]
    exact ⟨hw _, tt_yes (hs H1 Dl i H' (e0.trans e1) hD hi p)⟩) fun H' p => by
      obtain ⟨e3, r⟩ := hd H1 Dl H' (e0.trans e1) hD p
      exact q _ H' (e1.trans e3) r⟩
theorem ev_methP {Cl : Nat → Addr} {Is : Nat → Prop} {m : Str} {sp : Nat → Sp} {t : TA} {i : Nat} {vs : List V} {R : V → Hp → Prop} (ha : Ev ta σ H (.ref a)) (hi : Is i) (h : H a = some (.ins (Cl i) dx fs)) (l : fs.lookup m = none) (ht : EvA t σ H vs)
    (hs : ∀ H1, Ex H H1 → ∀ Q : VK, (∀ v H2, Ex H1 H2 → R v H2 → Q v H2) → sp i (.ref a :: (vs ++ [])) H1 Q E0) : EvP (tMethD Cl Is m sp ta t) σ H R := fun H1 e Q q =>
  ha H1 e _ fun H2 e2 => ⟨i, a, dx, fs, hi, rfl, (e.trans e2) a _ h, l, ht H2 (e.trans e2) _ fun H3 e3 => hs H3 ((e.trans e2).trans e3) Q (fun v H4 e4 r => q v H4 ((e2.trans e3).trans e4) r)⟩
/-- C(..) -/
theorem ev_make {sp : Sp} {t : TA} {vs : List V} {R : V → Hp → Prop} (ht : EvA t σ H vs)
    (hs : ∀ H1 x dx, Ex H H1 → H1 x = none → H1 dx = none → dx ≠ x → ∀ Q : VK, (∀ H2, Ex H1 H2 → R (.ref x) H2 → Q .non H2) → sp (.ref x :: (vs ++ [])) (upd (upd H1 dx (.own x)) x (.ins C dx [])) Q E0) : EvP (tMake C sp [] E0 t) σ H R := fun H1 e Q q =>
  ht H1 e _ fun H2 e2 x dx nx nd ne => hs H2 x dx (e.trans e2) nx nd ne _ fun H3 e3 r => ⟨rfl, q _ H3 (e2.trans e3) r⟩
theorem made_ex {x : Addr} (nx : H x = none) (nd : H dx = none) : Ex H (upd (upd H dx (.own x)) x (.ins C dx [])) := fun b o e => by
  rw [upd_ne (ne_of_none e nx), upd_ne (ne_of_none e nd)]
  exact e
/-- the heap behind a change that touches only what stands at F -/
def Kp (F : Addr → Prop) (H H' : Hp) : Prop := ∀ b o, H b = some o → ¬ F b → H' b = some o
theorem Kp.of_ex {F : Addr → Prop} (e : Ex H H') : Kp F H H' := fun b o h _ => e b o h
theorem Kp.trans {F : Addr → Prop} {H1 H2 H3 : Hp} (a : Kp F H1 H2) (b : Kp F H2 H3) : Kp F H1 H3 := fun x o h n => b x o (a x o h n) n
theorem Kp.put {F : Addr → Prop} {p : Addr} {o : HO} (a : Kp F H H') (h : F p) : Kp F H (upd H' p o) := fun b u e n => by
  have hb : b ≠ p := fun z => by
    subst z
    exact n h
  rw [upd_ne hb]
  exact a b u e n
theorem Kp.mono {F G : Addr → Prop} (a : Kp F H H') (h : ∀ b o, F b → H b = some o → G b) : Kp G H H' := fun b o e n => a b o e fun f => n (h b o f e)
theorem Kp.ex {F : Addr → Prop} (a : Kp F H H') (h : ∀ b, F b → H b = none) : Ex H H' := fun b o e => a b o e fun f => by
  rw [h b f] at e
  cases e
/-- for i, x in enumerate(xs) -/
theorem s_forEn {tu : TS} {xs : List V} {j k : Nat} (h : Ev ta σ H (.ref a)) (hx : SqL K H a xs) (Pv : Nat → L2.St → Hp → Prop) (h0 : ∀ H1, Ex H H1 → Pv 0 σ H1) (hl : ∀ i σ' H', Pv i σ' H' → SqL K H' a xs)
    (hs : ∀ i x σ' H' H2, xs[i]? = some x → Pv i σ' H' → Ex H' H2 → tu { D with nx := Pv (i + 1), ct := Pv (i + 1), bk := D.nx } ((σ'.set j (some (.int (i : Int)))).set k (some x)) H2) (hd : ∀ σ' H', Pv xs.length σ' H' → D.nx σ' H') :
    tFor (iEnum K (tCons ta tNil)) (gTup K 2 (gCons (gName j) (gCons (gName k) gNil))) tu D σ H :=
  h H (Ex.refl H) _ fun H1 e => ⟨a, xs, rfl, ex_l e hx, fun i m σ' H' => m + i = xs.length ∧ Pv i σ' H', ⟨xs.length, by omega, h0 H1 e⟩, fun i m σ' H' ⟨hm, p⟩ => by
    by_cases hi : i < xs.length
    · right
      obtain ⟨v, hv⟩ : ∃ v, xs[i]? = some v := ⟨_, List.getElem?_eq_getElem hi⟩
      refine ⟨⟨xs, v, hl i σ' H' p, hv⟩, Pv (i + 1), fun σ2 H2 q => ⟨m - 1, by omega, by omega, q⟩, ?_⟩
      rintro x H5 ⟨t, v2, rfl, ht, rfl, hv2⟩
      have ev := Option.some.inj (hv.symm.trans (hv2 _ (hl i σ' H' p)))
      subst ev
      exact ⟨t, _, rfl, .inl (.inl upd_same), rfl, _, _, rfl, _, _, rfl, rfl, hs i v σ' H' _ hv p (Ex.new ht)⟩
    · left
      have e2 : i = xs.length := by omega
      subst e2
      exact ⟨⟨xs, hl _ σ' H' p, by omega⟩, hd σ' H' p⟩⟩
theorem q_forEn {tu : TS} {xs : List V} {j k : Nat} (h : Ev ta σ H (.ref a)) (hx : SqL K H a xs) (Pv : Nat → L2.St → Hp → Prop) (h0 : ∀ H1, Ex H H1 → Pv 0 σ H1) (hl : ∀ i σ' H', Pv i σ' H' → SqL K H' a xs)
    (hs : ∀ i x σ' H' H2, xs[i]? = some x → Pv i σ' H' → Ex H' H2 → tu { D with nx := Pv (i + 1), ct := Pv (i + 1), bk := tz D } ((σ'.set j (some (.int (i : Int)))).set k (some x)) H2) (hd : ∀ σ' H', Pv xs.length σ' H' → tz D σ' H') :
    tSeq (tFor (iEnum K (tCons ta tNil)) (gTup K 2 (gCons (gName j) (gCons (gName k) gNil))) tu) tz D σ H := s_forEn (D := { D with nx := tz D }) h hx Pv h0 hl hs hd
/-- if t: xs[j] = e -/
theorem q_ifSetL {t : TT} {b : Bool} {l : Addr} {xs ys : List V} {j : Nat} (hl : H l = some (.lst xs)) (h : EvT t σ H b) (he : b = true → Ev te σ H v) (ho : b = true → Ev ta σ H (.ref l)) (hi : b = true → Ev tb σ H (.int (j : Int))) (hj : b = true → j < xs.length) (hy : ys = if b = true then xs.set j v else xs)
    (k : ∀ H1, Kp (fun b => b = l) H H1 → (∀ x, H1 x = none → H x = none) → H1 l = some (.lst ys) → tz D σ H1) : tSeq (tIfS t (tAsg te (gSub ta tb rSetL)) tNext) tz D σ H := by
  refine q_when h (fun hb H1 e1 => ?_) (fun hb H1 e1 => ?_)
  · refine s_setL (e1 _ _ hl) ((he hb).mono e1) ((ho hb).mono e1) ((hi hb).mono e1) (hj hb) fun H2 e2 => k _ (Kp.put (Kp.of_ex (e1.trans e2)) rfl) (fun x hx => ?_) (by rw [upd_same, hy, if_pos hb])
    by_cases z : x = l
    · rw [z, upd_same] at hx
      cases hx
    · rw [upd_ne z] at hx
      exact fresh_back (e1.trans e2) hx
  · exact k H1 (Kp.of_ex e1) (fun x hx => fresh_back e1 hx) (by rw [hy, if_neg (by rw [hb]; decide)]; exact e1 _ _ hl)
theorem putF_putF {f : Str} {u v : V} : ∀ fs : List (Str × V), putF f v (putF f u fs) = putF f v fs
  | [] => by
    show (if f = f then [(f, v)] else (f, u) :: putF f v []) = [(f, v)]
    rw [if_pos rfl]
  | (g, y) :: r => by
    by_cases h : g = f
    · show putF f v (if g = f then (g, u) :: r else _) = (if g = f then (g, v) :: r else _)
      rw [if_pos h, if_pos h]
      show (if g = f then (g, v) :: r else _) = _
      rw [if_pos h]
    · show putF f v (if g = f then (g, u) :: r else (g, y) :: putF f u r) = (if g = f then (g, v) :: r else (g, y) :: putF f v r)
      rw [if_neg h, if_neg h]
      show (if g = f then (g, v) :: putF f u r else (g, y) :: putF f v (putF f u r)) = _
      rw [if_neg h, putF_putF r]
end
end KC
set_option Elab.async false
set_option linter.all false
set_option maxRecDepth 100000
set_option maxHeartbeats 4000000
/-! Dicts whose keys are tuples of ints and texts, made here or written in the text. -/
namespace KC
open PySem PySem.Spec PyProof.Rows L2 GX Evl
def DXp (P : Program) (w : World) (a : Addr) (xs : List (List Key × Addr × Value)) (o : Obj) (h : Heap) : Prop := xs.length ≤ sizeLine ∧ (a == sysModules) = false ∧
  ∃ es ep, h.get? a = some o ∧ o.ExactDict ∧ o.data = .dict es ep ∧ es.toList = xs.map (entryOfKey (tupleKind (mixKind P w))) ∧ (xs.map (·.1)).Nodup
abbrev DX (P : Program) (w : World) (a : Addr) (xs : List (List Key × Addr × Value)) (o : Obj) : HO := .ext (DXp P w a xs o)
abbrev KX (K : PySem.W.Frag) (H : Hp) : List (List Key × V) → List (List Key × Addr × Value) → Prop := Paired fun p q => p.1 = q.1 ∧ SqT K H q.2.1 (p.1.map kV) ∧ RelV p.2 q.2.2
def DAt (P : Program) (w : World) (K : PySem.W.Frag) (H : Hp) (a : Addr) (kvs : List (List Key × V)) : Prop := ∃ xs o, H a = some (DX P w a xs o) ∧ KX K H kvs xs
theorem KX.val {K : PySem.W.Frag} {H : Hp} {kvs : List (List Key × V)} {xs : List (List Key × Addr × Value)} (r : KX K H kvs xs) (k : List Key) : RelO (valV kvs k) ((atKey xs k).map (·.2)) := by
  induction r with
  | nil => exact True.intro
  | @cons p q ps qs h t ih =>
    obtain ⟨h1, _, h2⟩ := h
    by_cases e : p.1 = k
    · have e' : q.1 = k := h1.symm.trans e
      have b : atKey (q :: qs) k = some q.2 := by simp [atKey, List.find?_cons, e']
      rw [valV_pos e, b]; exact h2
    · have e' : ¬ q.1 = k := fun z => e (h1.trans z)
      have b : atKey (q :: qs) k = atKey qs k := by simp [atKey, List.find?_cons, e']
      rw [valV_neg e, b]; exact ih
theorem KX.repl {K : PySem.W.Frag} {H : Hp} {kvs : List (List Key × V)} {xs : List (List Key × Addr × Value)} (r : KX K H kvs xs) (k : List Key) {y : V} {u : Value} (ry : RelV y u) :
    KX K H (kvs.map fun kv => if kv.1 = k then (kv.1, y) else kv) (xs.map (putAt k u)) := by
  induction r with
  | nil => exact .nil
  | @cons p q ps qs h t ih =>
    rw [List.map_cons, List.map_cons]
    refine .cons ?_ ih
    obtain ⟨h1, h2, h3⟩ := h
    unfold putAt
    by_cases e : p.1 = k
    · rw [if_pos e, if_pos (h1.symm.trans e)]; exact ⟨h1, h2, ry⟩
    · rw [if_neg e, if_neg (fun z => e (h1.trans z))]; exact ⟨h1, h2, h3⟩
theorem KX.put {K : PySem.W.Frag} {H : Hp} {kvs : List (List Key × V)} {xs : List (List Key × Addr × Value)} (r : KX K H kvs xs) (k : List Key) {b : Addr} {y : V} {u : Value} (hb : SqT K H b (k.map kV)) (ry : RelV y u) :
    KX K H (putK kvs k y) (storedH xs k b u) := by
  have e : (kvs.any fun kv => decide (kv.1 = k)) = (atKey xs k).isSome := by
    rw [valV_any, (r.val k).isSome_eq, Option.isSome_map]
  unfold putK storedH
  rw [e]
  by_cases q : (atKey xs k).isSome = true
  · rw [if_pos q, if_pos q]; exact r.repl k ry
  · rw [if_neg q, if_neg q]; exact Paired.snoc r ⟨rfl, hb, ry⟩
theorem KX.keeps {K : PySem.W.Frag} {H H' : Hp} {kvs : List (List Key × V)} {xs : List (List Key × Addr × Value)} (r : KX K H kvs xs) (ht : ∀ b ys, SqT K H b ys → SqT K H' b ys) : KX K H' kvs xs :=
  Paired.mapP r fun _ _ z => ⟨z.1, ht _ _ z.2.1, z.2.2⟩
theorem DAt.ext {P : Program} {w : World} {K : PySem.W.Frag} {H H' : Hp} {a : Addr} {kvs : List (List Key × V)} (e : Ex H H') (h : DAt P w K H a kvs) : DAt P w K H' a kvs := by
  obtain ⟨xs, o, h1, h2⟩ := h
  exact ⟨xs, o, e _ _ h1, h2.keeps fun b ys z => ex_t e z⟩
theorem sqt_ext {K : PySem.W.Frag} {H : Hp} {a b : Addr} {ys : List V} {φ : Heap → Prop} {o : HO} (h : SqT K H b ys) (e : H a = some (.ext φ)) : SqT K (upd H a o) b ys := by
  rcases h with (h | ⟨ob, h⟩) | h
  · exact .inl (.inl (by rw [upd_ne (fun z => by rw [z, e] at h; cases h)]; exact h))
  · exact .inl (.inr ⟨ob, by rw [upd_ne (fun z => by rw [z, e] at h; cases h)]; exact h⟩)
  · exact .inr h
section
variable {X : Cx} {pins : List (Addr × Obj)} {σ : L2.St} {H : Hp} {s : Shared} {a b : Addr} {kvs : List (List Key × V)} {xs : List (List Key × Addr × Value)} {k : List Key} {v : V} {r : Value} {A : Around} {E : Value → Shared → Prop}
theorem key_ofX (I : Inv X pins σ H s) (h : SqT X.K H b (k.map kV)) : (tupleKind (mixKind X.prog X.w)).is s.heap k b := by
  obtain ⟨its, r, ⟨o, h1, h2, n, h3⟩, _⟩ := I.tuple h
  exact ⟨o, its.toArray, n, h1, h2, h3, by simpa using items_are r⟩
theorem dx_heap {o : Obj} (I : Inv X pins σ H s) (e : H a = some (DX X.prog X.w a xs o)) (r : KX X.K H kvs xs) : xs.length ≤ sizeLine ∧ (a == sysModules) = false ∧ s.heap.DictOfH (tupleKind (mixKind X.prog X.w)) a xs := by
  obtain ⟨z, y, es, ep, h1, h2, h3, h4, h5⟩ := (show DXp X.prog X.w a xs o s.heap from (show ObjOk X.prog X.w H s.heap a (DX X.prog X.w a xs o) from I.hok a _ e).1)
  refine ⟨z, y, o, es, ep, h1, h2, h3, h4, fun x hx => ?_, h5⟩
  have all : ∀ {l : List (List Key × V)} {m : List (List Key × Addr × Value)}, KX X.K H l m → ∀ x ∈ m, (tupleKind (mixKind X.prog X.w)).is s.heap x.1 x.2.1 := by
    intro l m q
    induction q with
    | nil => intro x hx; exact nomatch hx
    | @cons p q ps qs hq t ih =>
      intro x hx
      rcases List.mem_cons.mp hx with e | hx
      · subst e
        exact key_ofX I (by rw [← hq.1]; exact hq.2.1)
      · exact ih x hx
  exact all r x hx
theorem dx_ok {P : Program} {w : World} {o : Obj} {H' : Hp} {h' : Heap} (h : DXp P w a xs o h') : ObjOk P w H' h' a (DX P w a xs o) := by
  obtain ⟨z, y, es, ep, h1, h2⟩ := id h
  refine ⟨h, ⟨o, h1⟩, fun g1 g2 ⟨z, y, es, ep, k1, k2⟩ st => ⟨z, y, es, ep, st o k1, k2⟩⟩
theorem dx_getItem {Q : Value → Shared → Prop} (hu : A.units + 1 < cLine) (I : Inv X pins σ H s) (g : DAt X.prog X.w X.K H a kvs) (hb : SqT X.K H b (k.map kV)) (l : valV kvs k = some v) (h : ∀ w' s', Inv X pins σ H s' → RelV v w' → Q w' s') :
    wpAny (model X.prog X.w) A (getItem (.ref a) (.ref b)) Q E s := by
  obtain ⟨xs, o, e, rel⟩ := g
  obtain ⟨z, hd, dd⟩ := dx_heap I e rel
  obtain ⟨w', hw, rw'⟩ := RelO.some_of (v := v) (o := (atKey xs k).map (·.2)) (by rw [← l]; exact rel.val k)
  obtain ⟨p, hp, hp2⟩ := Option.map_eq_some_iff.mp hw
  refine wpAny_getItem_heap (tupleKind_room_in1 hu) (key_ofX I hb) dd hp ?_
  rw [hp2]
  exact h w' _ (I.tok _) rw'
theorem dx_notIn {Q : Value → Shared → Prop} (hu : A.units + 1 < cLine) (I : Inv X pins σ H s) (g : DAt X.prog X.w X.K H a kvs) (hb : SqT X.K H b (k.map kV)) (h : ∀ s', Inv X pins σ H s' → Q (.bool (!(valV kvs k).isSome)) s') :
    wpAny (model X.prog X.w) A (compareOp .NotIn (.ref b) (.ref a)) Q E s := by
  obtain ⟨xs, o, e, rel⟩ := g
  obtain ⟨z, hd, dd⟩ := dx_heap I e rel
  refine wpAny_notIn_heap (tupleKind_room_in1 hu) (key_ofX I hb) hd dd ?_
  have q := (rel.val k).isSome_eq
  rw [Option.isSome_map] at q
  rw [← q]
  exact h _ (I.tok _)
theorem dx_in {Q : Value → Shared → Prop} (hu : A.units + 1 < cLine) (I : Inv X pins σ H s) (g : DAt X.prog X.w X.K H a kvs) (hb : SqT X.K H b (k.map kV)) (h : ∀ s', Inv X pins σ H s' → Q (.bool (valV kvs k).isSome) s') :
    wpAny (model X.prog X.w) A (compareOp .In (.ref b) (.ref a)) Q E s := by
  obtain ⟨xs, o, e, rel⟩ := g
  obtain ⟨z, hd, dd⟩ := dx_heap I e rel
  refine wpAny_in_heap (tupleKind_room_in1 hu) (key_ofX I hb) hd dd ?_
  have q := (rel.val k).isSome_eq
  rw [Option.isSome_map] at q
  rw [← q]
  exact h _ (I.tok _)
theorem dx_setItem {Q : Unit → Shared → Prop} (hu : A.units + 1 < cLine) (I : Inv X pins σ H s) (g : DAt X.prog X.w X.K H a kvs) (hb : SqT X.K H b (k.map kV)) (hl : kvs.length < sizeLine) (rv : RelV v r)
    (h : ∀ H' s', DAt X.prog X.w X.K H' a (putK kvs k v) → (∀ c, c ≠ a → H' c = H c) → Inv X pins σ H' s' → Q () s') : wpAny (model X.prog X.w) A (setItem (.ref a) (.ref b) r) Q E s := by
  obtain ⟨xs, o, e, rel⟩ := g
  obtain ⟨z, hd, dd⟩ := dx_heap I e rel
  have hz : xs.length ≤ sizeLine := z
  have hl2 := Paired.length rel
  refine wpAny_setItem_heap (hsz := hz) (tupleKind_room_in1 hu) (key_ofX I hb) dd fun h' dd' hs => ?_
  obtain ⟨q, es, ep, hq, h2, h3, h4, _, h5⟩ := dd'
  have rel2 := rel.put k hb rv
  have hl3 : (storedH xs k b r).length ≤ sizeLine := by
    have := Paired.length rel2
    have := length_putK kvs k v
    omega
  refine h (upd H a (DX X.prog X.w a (storedH xs k b r) q)) _ ⟨_, _, upd_same, rel2.keeps fun c ys ec => sqt_ext ec e⟩ (fun c hc => upd_ne hc) ?_
  exact d_write I (by rw [e]; exact True.intro) hs ⟨q, hq⟩ (dx_ok ⟨hl3, hd, es, ep, hq, h2, h3, h4, h5⟩)
end
/-! ### readings and rules -/
def newD : Obj := { cls := .type "dict", data := .dict #[] }
def tDNewX (P : Program) (w : World) : TE := fun _ H Q => ∀ p, H p = none → Q (.ref p) (upd H p (DX P w p [] newD))
def tDGetX (P : Program) (w : World) (K : PySem.W.Frag) (td ty : TE) : TE := fun σ H Q => td σ H fun x H1 => ty σ H1 fun y H2 => ∃ a kvs b k v, x = .ref a ∧ y = .ref b ∧ DAt P w K H2 a kvs ∧ SqT K H2 b (k.map kV) ∧ valV kvs k = some v ∧ Q v H2
def tDNotInX (P : Program) (w : World) (K : PySem.W.Frag) (ty td : TE) : TE := fun σ H Q => ty σ H fun y H1 => td σ H1 fun x H2 => ∃ a kvs b k, x = .ref a ∧ y = .ref b ∧ DAt P w K H2 a kvs ∧ SqT K H2 b (k.map kV) ∧ Q (.bl (!(valV kvs k).isSome)) H2
def tDInX (P : Program) (w : World) (K : PySem.W.Frag) (ty td : TE) : TE := fun σ H Q => ty σ H fun y H1 => td σ H1 fun x H2 => ∃ a kvs b k, x = .ref a ∧ y = .ref b ∧ DAt P w K H2 a kvs ∧ SqT K H2 b (k.map kV) ∧ Q (.bl (valV kvs k).isSome) H2
def sDPutX (P : Program) (w : World) (K : PySem.W.Frag) (td ty tv : TE) : TS := fun D σ H => tv σ H fun v H1 => td σ H1 fun x H2 => ty σ H2 fun y H3 => ∃ a kvs b k, x = .ref a ∧ y = .ref b ∧ DAt P w K H3 a kvs ∧ SqT K H3 b (k.map kV) ∧ kvs.length < sizeLine ∧
  ∀ H4, DAt P w K H4 a (putK kvs k v) → (∀ c, c ≠ a → H4 c = H3 c) → D.nx σ H4
section
variable {X : Cx} {P : Program} {w : World} {K : PySem.W.Frag} {o i value : Expr} {pos pos' : Pos} {td ty tv : TE}
theorem pe_dnewX (hX : X.prog = P ∧ X.w = w ∧ X.K = K) : PE X (.Dict [] [] pos) (tDNewX P w) := by
  obtain ⟨rfl, rfl, rfl⟩ := hX
  refine ⟨fun pins s σ H Q I h => wpAny_Dict_empty ⟨.ref s.heap.objs.size, _, I.laid (a := s.heap.objs.size) (o := DX X.prog X.w s.heap.objs.size [] newD) (t' := s.toks) (fun _ _ q => Heap.get?_push_of_some _ q) (Nat.le_refl _) (dx_ok ?_), rfl, h _ (I.hok.fresh (Nat.le_refl _))⟩⟩
  exact ⟨Nat.zero_le _, beq_eq_false_iff_ne.mpr (Ne.symm (Nat.ne_of_lt I.big)), #[], 0, Heap.get?_push_size _ rfl, ⟨rfl, rfl, rfl⟩, rfl, rfl, List.nodup_nil⟩
theorem dx_typeIs {pins : List (Addr × Obj)} {σ : L2.St} {H : Hp} {s : Shared} {a : Addr} {kvs : List (List Key × V)} (I : Inv X pins σ H s) (g : DAt X.prog X.w X.K H a kvs) : s.TypeIs (.ref a) "dict" := by
  obtain ⟨xs, o, e, rel⟩ := g
  obtain ⟨_, _, dd⟩ := dx_heap I e rel
  exact dd.typeIs
theorem pe_dgx (hX : X.prog = P ∧ X.w = w ∧ X.K = K) (hu : X.A.units + 1 < cLine) (ho : PE X o td) (hi : PE X i ty) (hs : NoSl i) : PE X (.Subscript o i pos) (tDGetX P w K td ty) := by
  obtain ⟨rfl, rfl, rfl⟩ := hX
  refine ⟨fun pins s σ H Q I h => ?_⟩
  refine subD_of PySem.F.slot_dict_getitem.lookup hs (thn (ho.run pins s σ H _ I h) fun u s1 ⟨x, H1, I1, rx, q1⟩ => thn (hi.run pins s1 σ H1 _ I1 q1) fun iv s2 ⟨y, H2, I2, ry, a, kvs, b, k, v, ex, ey, g, hb, l, q2⟩ => ?_)
  subst ex ey
  obtain rfl : u = Value.ref a := rx
  obtain rfl : iv = Value.ref b := ry
  exact ⟨dx_typeIs I2 g, dx_getItem hu I2 g hb l fun w' s3 I3 rw' => ⟨v, H2, I3, rw', q2⟩⟩
theorem pc_dnotinX (hX : X.prog = P ∧ X.w = w ∧ X.K = K) (hu : X.A.units + 1 < cLine) (hi : PE X i ty) (ho : PE X o td) : PC X .NotIn i o (tDNotInX P w K ty td) := by
  obtain ⟨rfl, rfl, rfl⟩ := hX
  refine ⟨fun pins s σ H Q I h => ?_⟩
  refine thn (hi.run pins s σ H _ I h) fun iv s1 ⟨y, H1, I1, ry, q1⟩ => thn (ho.run pins s1 σ H1 _ I1 q1) fun u s2 ⟨x, H2, I2, rx, a, kvs, b, k, ex, ey, g, hb, q2⟩ => ?_
  subst ex ey
  obtain rfl : u = Value.ref a := rx
  obtain rfl : iv = Value.ref b := ry
  exact dx_notIn hu I2 g hb fun s3 I3 => ⟨.bl _, H2, I3, rfl, q2⟩
theorem pc_dinX (hX : X.prog = P ∧ X.w = w ∧ X.K = K) (hu : X.A.units + 1 < cLine) (hi : PE X i ty) (ho : PE X o td) : PC X .In i o (tDInX P w K ty td) := by
  obtain ⟨rfl, rfl, rfl⟩ := hX
  refine ⟨fun pins s σ H Q I h => ?_⟩
  refine thn (hi.run pins s σ H _ I h) fun iv s1 ⟨y, H1, I1, ry, q1⟩ => thn (ho.run pins s1 σ H1 _ I1 q1) fun u s2 ⟨x, H2, I2, rx, a, kvs, b, k, ex, ey, g, hb, q2⟩ => ?_
  subst ex ey
  obtain rfl : u = Value.ref a := rx
  obtain rfl : iv = Value.ref b := ry
  exact dx_in hu I2 g hb fun s3 I3 => ⟨.bl _, H2, I3, rfl, q2⟩
theorem ps_dputX (hX : X.prog = P ∧ X.w = w ∧ X.K = K) (hu : X.A.units + 1 < cLine) (ho : PE X o td) (hi : PE X i ty) (hv : PE X value tv) (hs : swapsWith value (some (.Subscript o i pos')) pos.line X.env = pure false) :
    PS X (.Assign [.Subscript o i pos'] value pos) (sDPutX P w K td ty tv) := by
  obtain ⟨rfl, rfl, rfl⟩ := hX
  refine ⟨fun pins s σ H D I h => ?_⟩
  refine wpAny_Assign_Subscript (thn (hv.run pins s σ H _ I h) fun r s1 ⟨v, H1, I1, rv, q1⟩ => thn (ho.run pins s1 σ H1 _ I1 q1) fun u s2 ⟨x, H2, I2, rx, q2⟩ => thn (hi.run pins s2 σ H2 _ I2 q2) fun iv s3 ⟨y, H3, I3, ry, a, kvs, b, k, ex, ey, g, hb, hl, q3⟩ => ?_) hs
  subst ex ey
  obtain rfl : u = Value.ref a := rx
  obtain rfl : iv = Value.ref b := ry
  exact dx_setItem hu I3 g hb hl rv fun H4 s4 d4 k4 I4 => ⟨σ, H4, I4, q3 H4 d4 k4⟩
end
/-- the key tuples of a dict, in order -/
def IsKeysX (K : PySem.W.Frag) (H : Hp) (kvs : List (List Key × V)) (bs : List Addr) : Prop := Paired (fun p b => SqT K H b (p.1.map kV)) kvs bs
theorem isKeysX_of {K : PySem.W.Frag} {H : Hp} {kvs : List (List Key × V)} {xs : List (List Key × Addr × Value)} (r : KX K H kvs xs) : IsKeysX K H kvs (xs.map fun x => x.2.1) := by
  unfold IsKeysX
  induction r with
  | nil => exact Paired.nil
  | cons h t ih => exact Paired.cons h.2.1 ih
section
variable {X : Cx}
theorem call_list_dX (hc : X.calm = true) : CallR X (.type "list") (fun xs H Q => ∃ d kvs, xs = [V.ref d] ∧ DAt X.prog X.w X.K H d kvs ∧ ∀ p bs, H p = none → IsKeysX X.K H kvs bs → Q (.ref p) (upd H p (.lst (bs.map V.ref)))) := by
  intro pins s σ H xs us Q I r h
  obtain ⟨d, kvs, rfl, ⟨ks, o, hd, pr⟩, q⟩ := h
  obtain ⟨u, rfl, rx⟩ := r.one
  cases rx
  obtain ⟨z, hs, es, ep, ho, hx, hdt, he, hn⟩ := (show DXp X.prog X.w d ks o s.heap from (show ObjOk X.prog X.w H s.heap d (DX X.prog X.w d ks o) from I.hok d _ hd).1)
  have l1 : es.size = ks.length := size_of_entries he
  refine PySem.W.kdl_call (kdl_raw hs hx hdt) (I.ok.hd hc) ho (by omega) fun h' tk acc' c' kp e it => ?_
  have ea : acc'.toList = ks.map fun x => Value.ref x.2.1 := by
    have hl : acc'.toList.length = ks.length := by rw [Array.length_toList, it.1]; exact l1
    apply List.ext_getElem?
    intro j
    rw [List.getElem?_map]
    cases hj : acc'.toList[j]? with
    | none =>
      have h1 := List.getElem?_eq_none_iff.mp hj
      rw [List.getElem?_eq_none (by omega)]
      all_goals rfl
    | some v =>
      obtain ⟨en, hen, hv⟩ := it.2 j v (by rw [← Array.getElem?_toList]; exact hj)
      have qe := entry_at he j
      rw [hen] at qe
      cases hb : ks[j]? with
      | none =>
        rw [hb] at qe
        exact nomatch (show some en = none from qe)
      | some b =>
        rw [hb] at qe
        have e2 : en = entryOfKey (tupleKind (mixKind X.prog X.w)) b := Option.some.inj qe
        rw [hv, e2]
        all_goals rfl
  have eb : acc'.toList = (ks.map fun x => x.2.1).map Value.ref := by rw [ea, List.map_map]; all_goals rfl
  have rv : Vals ((ks.map fun x => x.2.1).map V.ref) acc'.toList := by rw [eb]; exact vals_refs _
  have hz : ((ks.map fun x => x.2.1).map V.ref).length ≤ sizeLine := by rw [List.length_map, List.length_map]; omega
  refine ⟨.ref s.heap.objs.size, _, I.laid (t' := tk) (o := .lst ((ks.map fun x => x.2.1).map V.ref)) kp (Nat.le_refl _) ?_, rfl, q _ _ (I.hok.fresh (Nat.le_refl _)) (isKeysX_of pr)⟩
  exact ⟨hz, acc'.toList, c', rv, by rw [Array.toArray_toList]; exact e⟩
end
/-! ### what they give -/
section
variable {P : Program} {w : World} {K : PySem.W.Frag} {σ : L2.St} {H : Hp} {td ty tv : TE} {D : Ends} {tz : TS} {a b : Addr} {kvs : List (List Key × V)} {k : List Key} {v : V}
theorem ev_dgx (h1 : Ev td σ H (.ref a)) (h2 : Ev ty σ H (.ref b)) (g : DAt P w K H a kvs) (hb : SqT K H b (k.map kV)) (l : valV kvs k = some v) : Ev (tDGetX P w K td ty) σ H v := fun H1 e Q q =>
  h1 H1 e _ fun H2 e2 => h2 H2 (e.trans e2) _ fun H3 e3 => ⟨a, kvs, b, k, v, rfl, rfl, g.ext ((e.trans e2).trans e3), ex_t ((e.trans e2).trans e3) hb, l, q H3 (e2.trans e3)⟩
theorem ev_dnotinX (h2 : Ev ty σ H (.ref b)) (h1 : Ev td σ H (.ref a)) (g : DAt P w K H a kvs) (hb : SqT K H b (k.map kV)) : Ev (tDNotInX P w K ty td) σ H (.bl (!(valV kvs k).isSome)) := fun H1 e Q q =>
  h2 H1 e _ fun H2 e2 => h1 H2 (e.trans e2) _ fun H3 e3 => ⟨a, kvs, b, k, rfl, rfl, g.ext ((e.trans e2).trans e3), ex_t ((e.trans e2).trans e3) hb, q H3 (e2.trans e3)⟩
theorem ep_dnewX : EvP (tDNewX P w) σ H (fun v H' => ∃ p, v = .ref p ∧ H p = none ∧ DAt P w K H' p []) := fun H1 e Q q p hp => q _ _ (Ex.new hp) ⟨p, rfl, fresh_back e hp, [], _, upd_same, .nil⟩
end
end KC
set_option Elab.async false
set_option linter.all false
set_option maxRecDepth 100000
set_option maxHeartbeats 4000000
/-! min(.., default=None); sorted of a dict with keys of ints; == of such dicts. -/
namespace KC
open PySem PySem.Spec PyProof.Rows L2 GX Evl
def minO : List Int → V
  | [] => .non
  | n :: ns => .int (ns.foldl min n)
def rMinN (K : PySem.W.Frag) : List V → List V → Hp → VK → Prop := fun xs zs H Q => ∃ (l : Addr) (ns : List Int), xs = [.ref l] ∧ zs = [.non] ∧ SqL K H l (ns.map V.int) ∧ Q (minO ns) H
theorem depthAll_ints : ∀ ns : List Int, PyData.depthAll (ns.map PyData.int) = 0
  | [] => rfl
  | n :: ns => by
    rw [List.map_cons]
    show max 0 (PyData.depthAll (ns.map PyData.int)) = 0
    rw [depthAll_ints ns]
    rfl
theorem alike_ints (ns : List Int) : PySem.W.AlikeAll (ns.map PyData.int) := by
  refine ⟨fun x hx y hy => ?_, fun x hx => ?_⟩
  · obtain ⟨i, _, rfl⟩ := List.mem_map.mp hx
    obtain ⟨j, _, rfl⟩ := List.mem_map.mp hy
    rfl
  · obtain ⟨i, _, rfl⟩ := List.mem_map.mp hx
    exact fun z => nomatch z
section
variable {X : Cx}
theorem cr_minN (hc : X.calm = true) (hu : X.A.units + 64 < cLine) : CallRK X (.builtin "min") [Str.ofString "default"] (rMinN X.K) := by
  intro pins s σ H xs zs us ws Q I r rz h
  obtain ⟨l, ns, rfl, rfl, hs, q⟩ := h
  obtain ⟨its, rv, hl, hz⟩ := I.list hs
  obtain ⟨u, rfl, ru⟩ := vals1 r
  obtain ⟨d, rfl, rd⟩ := vals1 rz
  cases ru
  cases rd
  obtain ⟨as, hr⟩ := Dp.readsAll I (ns.map PyData.int) _ its (dpAll_ints ns) rv
  refine PySem.W.min_list_default (I.ok.hd hc) hl.isList (by simpa using hr) (alike_ints ns) (by rw [depthAll_ints]; omega) (fun e h' tk k => ?_) (fun y ys i v h' tk bs e hi rd k => ?_)
  · have e2 : ns = [] := by simpa using e
    subst e2
    exact ⟨.non, H, I.kept k, rfl, q⟩
  · cases ns with
    | nil => simp at e
    | cons n ns =>
      rw [List.map_cons] at e
      injection e with e1 e2
      subst e1 e2
      rw [PySem.W.minD_ints] at rd
      cases rd with
      | int => exact ⟨.int _, H, I.kept k, ⟨_, rfl⟩, q⟩
end
/-! ### sorted(d) -/
section
variable {prog : Program} {w : World} {A : Around} {E : Value → Shared → Prop} {s : Shared}
theorem ints_of_items : ∀ {ns : List Int} {vs : List Value}, ItemsAre (mixKind prog w) (ns.map Sum.inl) vs → IntsAre vs ns
  | [], _, h => by cases h; exact .nil
  | n :: ns, _, h => by
    cases h with
    | cons h1 h2 =>
      rcases keyIs_shape (show keyIs (Sum.inl n) _ = true from h1) with ⟨i, t, ek, ev⟩ | ⟨z, t, ek, ev⟩
      · injection ek with ek
        subst ek ev
        exact .cons _ _ (ints_of_items h2)
      · exact nomatch ek
def IsTl (h : Heap) (v : Value) (ns : List Int) : Prop := ∃ a o items n, v = .ref a ∧ h.get? a = some o ∧ o.cls = .type "tuple" ∧ o.data = .seq items n ∧ IntsAre items.toList ns
theorem IsTl.keeps {h h' : Heap} {v : Value} {ns : List Int} (p : IsTl h v ns) (k : ∀ b o, h.get? b = some o → o.cls = .type "tuple" → h'.get? b = some o) : IsTl h' v ns := by
  obtain ⟨a, o, t, n, e, ho, hc, hd, hi⟩ := p
  exact ⟨a, o, t, n, e, k _ _ ho hc, hc, hd, hi⟩
theorem lex_tl {Q : Bool → Shared → Prop} : ∀ (vs ws : List Value) (ns ms : List Int) (i : Nat), IntsAre vs ns → IntsAre ws ms → ns.length = ms.length → Q (HT.lexLt ns ms) s → PySem.W.KatLex prog w A true false Q (vs.zip ws) i s
  | _, _, [], [], i, .nil, .nil, _, h => PySem.W.kat_nil h
  | _, _, [], _ :: _, _, _, _, hl, _ => by simp at hl
  | _, _, _ :: _, [], _, _, _, hl, _ => by simp at hl
  | _, _, n :: ns, m :: ms, i, .cons _ t h1, .cons _ u h2, hl, h => by
    rw [List.zip_cons_cons]
    rw [HT.lexLt_cons] at h
    refine PySem.W.kat_cons (SeqAt.EqAt.int_int n t m u prog w _ _ ?_)
    refine PySem.W.kat_go (fun e => ?_) (fun e => ?_)
    · have e : n = m := by simpa using e
      rw [if_pos e] at h
      exact PySem.W.kat_yes (lex_tl _ _ ns ms (i + 1) h1 h2 (by simpa using hl) h)
    · have e : ¬ n = m := by simpa using e
      rw [if_neg e] at h
      exact PySem.W.kat_no (TS.oneLt_ints _ h)
theorem tl_cmp {vs : List Value} {k : Value → List Int} {d : Nat} (hp : ∀ v ∈ vs, IsTl s.heap v (k v) ∧ (k v).length = d) : SrtO.Cmp prog w A s (tuples' true) (fun p => p.1 ∈ vs) (SrtO.lt2 fun v u => HT.lexLt (k v) (k u)) := by
  intro p q hm hm'
  obtain ⟨h1, l1⟩ := hp _ hm
  obtain ⟨h2, l2⟩ := hp _ hm'
  show wpAny (model prog w) A (keyLt' (tuples' true) p.1 q.1) (fun r s' => s' = s ∧ r = HT.lexLt (k p.1) (k q.1)) (fun _ _ => False) s
  generalize k p.1 = ns at h1 l1 ⊢
  generalize k q.1 = ms at h2 l2 ⊢
  obtain ⟨a, o, xs, n, e, ho, hc, hd, hi⟩ := h1
  obtain ⟨a', o', ys, n', e', ho', hc', hd', hi'⟩ := h2
  rw [e, e']
  refine PySem.W.kat_lt ho hd ho' hd' ?_
  have z1 : xs.size = ns.length := by rw [← hi.length]; simp
  have z2 : ys.size = ms.length := by rw [← hi'.length]; simp
  have ef : decide (xs.size < ys.size) = false := decide_eq_false (by omega)
  rw [ef]
  exact lex_tl _ _ ns ms 0 hi hi' (by omega) ⟨rfl, rfl⟩
theorem firsts_tl {h : Heap} {k : Value → List Int} : ∀ {vs : List Value}, (∀ v ∈ vs, IsTl h v (k v) ∧ 1 ≤ (k v).length) → ∃ fs : List Value, PySem.W.KatTups h vs fs ∧ fs.length = vs.length ∧ ∀ f ∈ fs, ∃ x t, f = Value.int x t
  | [], _ => ⟨[], PySem.W.KatTups.nil, rfl, fun _ hm => by simp at hm⟩
  | v :: vs, hp => by
    obtain ⟨fs, h1, h2, h3⟩ := firsts_tl (vs := vs) fun v' hm => hp v' (List.mem_cons_of_mem _ hm)
    obtain ⟨⟨a, o, xs, n, e, ho, hc, hd, hi⟩, hl⟩ := hp v (List.mem_cons_self ..)
    generalize k v = ns at hi hl
    subst e
    obtain ⟨ys⟩ := xs
    cases hi with
    | nil => simp at hl
    | cons x t hi =>
      refine ⟨.int x t :: fs, PySem.W.KatTups.cons ho hc hd rfl h1, by rw [List.length_cons, List.length_cons, h2], fun f hm => ?_⟩
      rcases List.mem_cons.mp hm with rfl | hm
      · exact ⟨x, t, rfl⟩
      · exact h3 f hm
theorem tl_sortable {a : Addr} {vs : List Value} {k : Value → List Int} {d : Nat} (h0 : 0 < vs.length) (h1 : 1 ≤ d) (hp : ∀ v ∈ vs, IsTl s.heap v (k v) ∧ (k v).length = d) (ha : ∀ o, s.heap.get? a = some o → o.cls ≠ .type "tuple") : SrtO.SortableO prog w A s a vs fun v u => HT.lexLt (k v) (k u) := by
  intro h' keep
  have hp' : ∀ v ∈ vs, IsTl h' v (k v) ∧ (k v).length = d := fun v hm => ⟨(hp v hm).1.keeps fun b o e c => keep b o (fun z => by subst z; exact ha o e c) e, (hp v hm).2⟩
  obtain ⟨fs, h1, h2, h3⟩ := firsts_tl (k := k) fun v hm => ⟨(hp' v hm).1, by rw [(hp' v hm).2]; exact h1⟩
  refine ⟨tuples' true, fun Q E hq => ?_, tl_cmp hp'⟩
  refine PySem.W.kat_kind (T := .type "int") h1 (by omega) (fun f hm => ?_) (by rfl) ?_
  · obtain ⟨x, t, rfl⟩ := h3 f hm
    exact PySem.W.Looks.now
  · have e : (Value.type "int" != Value.type "tuple") = true := by first | decide +kernel | rfl | decide
    rw [e]
    exact hq
end
def keyInts : List Key → List Int
  | [] => []
  | .inl i :: r => i :: keyInts r
  | .inr _ :: r => keyInts r
def stK (x y z : Int) : List Key := [.inl x, .inl y, .inl z]
def vKey (ks : List (List Key × Addr × Value)) : Value → List Int
  | .ref a => match ks.find? fun x => x.2.1 == a with
    | some x => keyInts x.1
    | none => []
  | _ => []
theorem acc_keys {P : Program} {w : World} {ks : List (List Key × Addr × Value)} {es : Array DictEntry} {acc : Array Value} (he : es.toList = ks.map (entryOfKey (tupleKind (mixKind P w)))) (h1 : acc.size = es.size) (h2 : ∀ (i : Nat) (v : Value), acc[i]? = some v → ∃ en : DictEntry, es[i]? = some en ∧ v = en.key) :
    acc.toList = (ks.map fun x => x.2.1).map Value.ref := by
  have l1 : es.size = ks.length := size_of_entries he
  rw [List.map_map]
  have hl : acc.toList.length = ks.length := by rw [Array.length_toList, h1]; exact l1
  apply List.ext_getElem?
  intro j
  rw [List.getElem?_map]
  cases hj : acc.toList[j]? with
  | none =>
    have h1 := List.getElem?_eq_none_iff.mp hj
    rw [List.getElem?_eq_none (by omega)]
    all_goals rfl
  | some v =>
    obtain ⟨en, hen, hv⟩ := h2 j v (by rw [← Array.getElem?_toList]; exact hj)
    have qe := entry_at he j
    rw [hen] at qe
    cases hb : ks[j]? with
    | none =>
      rw [hb] at qe
      exact nomatch (show some en = none from qe)
    | some b =>
      rw [hb] at qe
      have e2 : en = entryOfKey (tupleKind (mixKind P w)) b := Option.some.inj qe
      rw [hv, e2]
      all_goals rfl
def rSortX (P : Program) (w : World) (K : PySem.W.Frag) : List V → Hp → VK → Prop := fun xs H Q => ∃ d kvs, xs = [V.ref d] ∧ DAt P w K H d kvs ∧ (∀ kv ∈ kvs, ∃ x y z : Int, kv.1 = stK x y z) ∧
  ∀ (p : Addr) (bs cs : List Addr), H p = none → IsKeysX K H kvs bs → cs.Perm bs → (∃ g : Addr → List Int, (∀ (i : Nat) (kv : List Key × V) (b : Addr), kvs[i]? = some kv → bs[i]? = some b → g b = keyInts kv.1) ∧ cs.Pairwise fun a b => HT.lexLt (g b) (g a) = false) → Q (.ref p) (upd H p (.lst (cs.map V.ref)))
theorem ints_fun : ∀ {vs : List Value} {ns ms : List Int}, IntsAre vs ns → IntsAre vs ms → ns = ms
  | _, _, _, .nil, h => by cases h; rfl
  | _, _, _, .cons _ _ a, h => by
    cases h with
    | cons _ _ b => rw [ints_fun a b]
theorem refs_perm : ∀ {out : List Value}, (∀ v ∈ out, ∃ t, v = Value.ref t) → ∃ cs : List Addr, out = cs.map Value.ref
  | [], _ => ⟨[], rfl⟩
  | v :: out, h => by
    obtain ⟨t, e⟩ := h v List.mem_cons_self
    obtain ⟨cs, ec⟩ := refs_perm fun u hu => h u (List.mem_cons_of_mem _ hu)
    exact ⟨t :: cs, by rw [e, ec]; rfl⟩
def adX : Value → Addr
  | .ref a => a
  | _ => 0
theorem refs_inj {a b : List Addr} (h : (a.map Value.ref).Perm (b.map Value.ref)) : a.Perm b := by
  have q := h.map adX
  rw [List.map_map, List.map_map] at q
  have e : (adX ∘ Value.ref) = id := rfl
  rwa [e, List.map_id, List.map_id] at q
theorem vals_refs' : ∀ as : List Addr, Vals (as.map V.ref) (as.map Value.ref)
  | [] => .nil
  | _ :: as => .cons rfl (vals_refs' as)
section
variable {X : Cx}
theorem cr_sortedX (hc : X.calm = true) : CallR X (.builtin "sorted") (rSortX X.prog X.w X.K) := by
  intro pins s σ H xs us Q I r h
  obtain ⟨d, kvs, rfl, ⟨ks, o0, hd, pr⟩, hks, q⟩ := h
  obtain ⟨u, rfl, rx⟩ := r.one
  cases rx
  obtain ⟨z, hs, dd⟩ := dx_heap I hd pr
  obtain ⟨o, es, ep, ho, hx, hdt, he, hkk, hn⟩ := dd
  have l1 : es.size = ks.length := size_of_entries he
  have key3 : ∀ x ∈ ks, ∃ a b c : Int, x.1 = stK a b c := by
    have all : ∀ {l : List (List Key × V)} {m : List (List Key × Addr × Value)}, KX X.K H l m → (∀ kv ∈ l, ∃ x y z : Int, kv.1 = stK x y z) → ∀ x ∈ m, ∃ a b c : Int, x.1 = stK a b c := by
      intro l m q
      induction q with
      | nil => intro _ x hx; exact nomatch hx
      | @cons p q ps qs hq t ih =>
        intro hl x hx
        rcases List.mem_cons.mp hx with e | hx
        · subst e
          rw [← hq.1]
          exact hl p List.mem_cons_self
        · exact ih (fun kv hk => hl kv (List.mem_cons_of_mem _ hk)) x hx
    exact all pr hks
  have tl : ∀ v ∈ (ks.map fun x => x.2.1).map Value.ref, IsTl s.heap v (vKey ks v) ∧ (vKey ks v).length = 3 := fun v hv => by
    obtain ⟨a, ha, rfl⟩ := List.mem_map.mp hv
    obtain ⟨x, hxm, rfl⟩ := List.mem_map.mp ha
    have hf : ∃ x', ks.find? (fun y => y.2.1 == x.2.1) = some x' := by
      cases e : ks.find? (fun y => y.2.1 == x.2.1) with
      | some x' => exact ⟨x', rfl⟩
      | none => exact absurd (List.find?_eq_none.mp e x hxm) (by simp)
    obtain ⟨x', e⟩ := hf
    have em : x' ∈ ks := List.mem_of_find?_eq_some e
    have ea : x'.2.1 = x.2.1 := by simpa using List.find?_some e
    obtain ⟨i, j, k, e3⟩ := key3 x' em
    obtain ⟨o', its, n, h1, h2, h3, h4⟩ := hkk x' em
    have ev : vKey ks (.ref x.2.1) = [i, j, k] := by
      show (match ks.find? (fun y => y.2.1 == x.2.1) with | some x => keyInts x.1 | none => []) = _
      rw [e]
      show keyInts x'.1 = _
      rw [e3]
      rfl
    rw [ev]
    rw [e3] at h4
    rw [ea] at h1
    exact ⟨⟨x.2.1, o', its, n, rfl, h1, h2, h3, ints_of_items (ns := [i, j, k]) h4⟩, rfl⟩
  have vk : ∀ x ∈ ks, vKey ks (.ref x.2.1) = keyInts x.1 := fun x hxm => by
    have hf : ∃ x', ks.find? (fun y => y.2.1 == x.2.1) = some x' := by
      cases e : ks.find? (fun y => y.2.1 == x.2.1) with
      | some x' => exact ⟨x', rfl⟩
      | none => exact absurd (List.find?_eq_none.mp e x hxm) (by simp)
    obtain ⟨x', e⟩ := hf
    have em : x' ∈ ks := List.mem_of_find?_eq_some e
    have ea : x'.2.1 = x.2.1 := by simpa using List.find?_some e
    obtain ⟨i, j, k, e3⟩ := key3 x' em
    obtain ⟨i2, j2, k2, e32⟩ := key3 x hxm
    obtain ⟨o', its, n, h1, h2, h3, h4⟩ := hkk x' em
    obtain ⟨o2, its2, n2, g1, g2, g3, g4⟩ := hkk x hxm
    rw [ea, g1] at h1
    have h1 := Option.some.inj h1
    subst h1
    rw [g3] at h3
    injection h3 with h3 _
    subst h3
    rw [e3] at h4
    rw [e32] at g4
    have q1 := ints_of_items (ns := [i, j, k]) h4
    have q2 := ints_of_items (ns := [i2, j2, k2]) g4
    have q3 := ints_fun q1 q2
    show (match ks.find? (fun y => y.2.1 == x.2.1) with | some x => keyInts x.1 | none => []) = _
    rw [e]
    show keyInts x'.1 = keyInts x.1
    rw [e3, e32]
    exact q3
  refine Calls.call_function_entry PyProof.Rows.kind_sorted PyProof.Rows.plain_sorted PyProof.Rows.entry_sorted (PyProof.Rows.args_sorted1 _) ?_
  unfold Builtin.«sorted»
  refine wpAny_bind (m := checkCount "sorted" 1 1 _) (wpAny_pure ?_)
  refine wpAny_bind (PySem.W.kdu_collect (A := X.A.in1) (kdl_raw hs hx hdt) (I.ok.hd hc) ho (by omega) fun h' tk acc hk hacc => ?_)
  have ea : acc.toList = (ks.map fun x => x.2.1).map Value.ref := acc_keys he hacc.1 hacc.2
  have hal : acc.toList.length = ks.length := by rw [ea, List.length_map, List.length_map]
  have I1 : Inv X pins σ H { s with heap := h', toks := tk } := I.kept hk
  refine wpAny_bind (wpAny_newList ?_ (by rw [hal]; exact z))
  have hoL : (h'.push (seqObj "list" acc.toList.toArray 0)).get? h'.objs.size = some (seqObj "list" acc.toList.toArray 0) := Heap.get?_push_size _ rfl
  show wpAny _ _ _ _ _ { s with heap := h'.push (seqObj "list" acc.toList.toArray 0), toks := tk }
  refine wpAny_bind (wpAny_holding (wpAny_call_entry PyProof.Rows.slot_list_sort ⟨_, hoL, rfl⟩ PyProof.Rows.entry_list_sort
    (SrtO.list_sort_ord (s := { s with heap := h'.push (seqObj "list" acc.toList.toArray 0), toks := tk }) (NtL.swo_lexL (vKey ks)) hoL (by rw [hal]; exact z) (fun h2 => tl_sortable (d := 3) (by omega) (by decide) (fun v hv => ?_) fun o e => ?_) fun out hso hst => ⟨_, rfl, ?_⟩)
    (PyProof.Rows.args_list_sort _)))
  · rw [ea] at hv
    exact ⟨(tl v hv).1.keeps fun b o e _ => Heap.get?_push_of_some _ (hk b o e), (tl v hv).2⟩
  · have e' : some o = some (seqObj "list" acc.toList.toArray 0) := e.symm.trans hoL
    cases e'
    intro c
    exact absurd (Value.type.inj c) (by decide)
  · have hpm := hst.perm
    rw [ea] at hpm
    obtain ⟨cs, rfl⟩ := refs_perm (out := out) fun v hv => by
      obtain ⟨a, _, rfl⟩ := List.mem_map.mp (hpm.mem_iff.mp hv)
      exact ⟨a, rfl⟩
    have hcp := refs_inj hpm
    obtain ⟨e', he'⟩ := PyProof.Rows.sortedHeap_at (vs := acc.toList) (out := (cs.map Value.ref).toArray) hoL
    have hlen : (cs.map V.ref).length ≤ sizeLine := by
      rw [List.length_map, hcp.length_eq, List.length_map]
      exact z
    refine wpAny_pure ⟨_, rfl, .ref h'.objs.size, upd H h'.objs.size (.lst (cs.map V.ref)), I1.laid (t' := tk) (fun b u e => ?_) (Nat.le_refl _)
      (show ObjOk X.prog X.w _ _ _ (.lst (cs.map V.ref)) from ⟨hlen, cs.map Value.ref, e', vals_refs' cs, he'⟩), rfl, q _ _ cs (I1.hok.fresh (Nat.le_refl _)) (isKeysX_of pr) hcp ⟨fun a => vKey ks (.ref a), fun i kv b h1 h2 => ?_, ?_⟩⟩
    have hb : b < h'.objs.size := Heap.lt_size e
    rw [PyProof.Rows.sortedHeap_old (Nat.ne_of_lt hb) (by rw [size_push']; exact Nat.lt_succ_of_lt hb)]
    exact Heap.get?_push_of_some _ e
    · rw [List.getElem?_map] at h2
      cases e : ks[i]? with
      | none => rw [e] at h2; cases h2
      | some x =>
        rw [e] at h2
        have h2 := Option.some.inj h2
        subst h2
        show vKey ks (.ref x.2.1) = keyInts kv.1
        rw [vk x (List.mem_of_getElem? e)]
        have all : ∀ {l : List (List Key × V)} {m : List (List Key × Addr × Value)}, KX X.K H l m → ∀ (i : Nat) kv x, l[i]? = some kv → m[i]? = some x → kv.1 = x.1 := by
          intro l m q
          induction q with
          | nil => intro i kv x h _; simp at h
          | @cons p q ps qs hq t ih =>
            intro i kv x h1 h2
            cases i with
            | zero =>
              obtain rfl := Option.some.inj (show some _ = some _ from h1)
              obtain rfl := Option.some.inj (show some _ = some _ from h2)
              exact hq.1
            | succ i => exact ih i kv x (by simpa using h1) (by simpa using h2)
        rw [all pr i kv x h1 e]
    · have := hso
      unfold SrtO.Srtd at this
      rw [List.pairwise_map] at this
      exact this
end
end KC
set_option Elab.async false
set_option linter.all false
set_option maxRecDepth 100000
set_option maxHeartbeats 4000000
/-! == and != of two dicts with tuple keys that say the same. -/
namespace KC
open PySem PySem.Spec PyProof.Rows L2 GX Evl
section
variable {prog : Program} {w : World} {KT : Type} [DecidableEq KT] {knd : HeapKind prog w KT} {A : Around} {E : Value → Shared → Prop} {s : Shared}
theorem samePairsX {nm : String} {a b : Addr} {ka kb : List (KT × Addr × Value)} {Q : Bool → Shared → Prop} (ha : (a == sysModules) = false) (hb : (b == sysModules) = false) (hu : knd.room A)
    (da : s.heap.DictOfH knd a ka) (db : s.heap.DictOfH knd b kb) (hlen : ka.length = kb.length) (hits : ∀ x ∈ ka, ∃ y, atKey kb x.1 = some y ∧ SeqAt.EqP prog w A s x.2.2 y.2 true) (h : Q true s) :
    wpAny (model prog w) A (Builtin.Dict.samePairs nm a b) Q E s := by
  obtain ⟨oa, es, ep, hoa, _, hda, hea, hia, hna⟩ := da
  obtain ⟨ob, es', ep', hob, _, hdb, heb, hib, hnb⟩ := db
  have hla : es.size = ka.length := size_of_entries hea
  have hlb : es'.size = kb.length := size_of_entries heb
  have hsz : es.size = es'.size := by omega
  unfold Builtin.Dict.samePairs Builtin.Dict.showsAll
  rw [if_neg (show ¬ (a == sysModules) = true by rw [ha]; exact Bool.false_ne_true), if_neg (show ¬ (b == sysModules) = true by rw [hb]; exact Bool.false_ne_true)]
  refine wpAny_bind (wpAny_pure (wpAny_bind (wpAny_pure ?_)))
  refine wpAny_bind (wpAny_dictEntries hoa hda ?_)
  dsimp only
  refine wpAny_bind (wpAny_dictEntries hob hdb ?_)
  rw [if_neg (by rw [hsz]; simp)]
  refine wpAny_bind (wpAny_dictEpoch hoa hda ?_)
  refine wpAny_bind ?_
  rw [Std.Legacy.Range.forIn_eq_forIn_range']
  simp only [Std.Legacy.Range.size, Nat.sub_zero, Nat.add_sub_cancel, Nat.div_one]
  refine wpAny_forIn_list _
    (fun rest q s' => s' = s ∧ q = (none, ()) ∧ ∃ i, rest = List.range' i (es.size - i) ∧ i ≤ es.size)
    _ ?_ ?_ _ _ ⟨rfl, rfl, 0, by simp, Nat.zero_le _⟩
  · rintro x rest q s' ⟨rfl, rfl, i, hr, hi⟩
    have hlt : i < es.size := by
      rcases Nat.lt_or_ge i es.size with h | h
      · exact h
      · rw [Nat.sub_eq_zero_of_le h] at hr; simp at hr
    obtain ⟨rfl, hrest⟩ : x = i ∧ rest = List.range' (i + 1) (es.size - (i + 1)) := by
      have e : es.size - i = (es.size - (i + 1)) + 1 := by omega
      rw [e, List.range'_succ] at hr
      injection hr with h1 h2
      exact ⟨h1, h2⟩
    refine wpAny_bind (wpAny_dictEntries hoa hda ?_)
    have hlt' : x < ka.length := by omega
    have hen : es[x]? = some (entryOfKey knd ka[x]) := by rw [entry_at hea x, List.getElem?_eq_getElem hlt']; rfl
    have hm : ka[x] ∈ ka := List.getElem_mem hlt'
    generalize ka[x] = z at hen hm
    obtain ⟨y, hy, hq⟩ := hits z hm
    rw [hen]
    show wpAny _ _ (holding [Value.ref z.2.1, z.2.2] _ >>= _) _ _ _
    refine wpAny_bind (wpAny_holding (wpAny_bind (wpAny_dictFind_heap hu (hia z hm) hob hdb heb hib hnb (fun hno => ?_) fun j p hj => ?_)))
    · rw [atKey_none_of_get hno] at hy
      exact nomatch hy
    · rw [atKey_of_get hnb hj] at hy
      have hy := Option.some.inj hy
      subst hy
      refine wpAny_bind (wpAny_dictEntries hob hdb ?_)
      rw [entry_at heb j, hj]
      refine wpAny_holding (hq _ _ ?_)
      show wpAny _ _ (if (!true) = true then _ else _) _ _ _
      rw [if_neg (by decide)]
      refine wpAny_bind (wpAny_dictEpoch hoa hda ?_)
      rw [if_neg (by simp)]
      exact wpAny_pure ⟨rfl, rfl, x + 1, hrest, hlt⟩
  · rintro q s' ⟨rfl, rfl, i, hr, hi⟩
    exact wpAny_pure h
theorem eqX {a b : Addr} {ka kb : List (KT × Addr × Value)} {Q : Value → Shared → Prop} (ha : (a == sysModules) = false) (hb : (b == sysModules) = false) (hr : knd.room A.in1)
    (da : s.heap.DictOfH knd a ka) (db : s.heap.DictOfH knd b kb) (hu : A.units < cLine) (hlen : ka.length = kb.length) (hits : ∀ x ∈ ka, ∃ y, atKey kb x.1 = some y ∧ SeqAt.EqP prog w A.in1 s x.2.2 y.2 true) (h : Q (.bool true) s) :
    wpAny (model prog w) A (compareOp .Eq (.ref a) (.ref b)) Q E s := by
  refine wpAny_richCompare_same_room (op := .Eq) da.typeIs db.typeIs PySem.F.slot_dict_eq (wpAny_call_entry PySem.F.slot_dict_eq da.typeIs PySem.F.entry_dict_eq ?_ (PySem.F.args_dict_eq_2 _ _)) hu
  show wpAny _ _ (Builtin.Dict.dictSlotArgs "__eq__" ⟨[.ref a, .ref b], []⟩ >>= _) _ _ s
  refine wpAny_bind ?_
  unfold Builtin.Dict.dictSlotArgs
  refine wpAny_bind (wpAny_notOrdered_dict da.typeIs ?_)
  show wpAny _ _ (pure (Value.ref a, Value.ref b)) _ _ s
  refine wpAny_pure ?_
  refine wpAny_bind (wpAny_isInstance (T := "dict") db.typeIs PySem.F.sub_dict_dict ?_)
  simp only [Bool.not_true, Bool.false_eq_true, if_false]
  refine wpAny_bind (wpAny_pure (wpAny_bind (wpAny_pure ?_)))
  refine wpAny_bind (samePairsX ha hb hr da db hlen hits ?_)
  refine wpAny_pure ⟨_, rfl, ?_, ?_⟩
  · exact fun x => nomatch x
  · simpa using h
theorem neX {a b : Addr} {ka kb : List (KT × Addr × Value)} {Q : Value → Shared → Prop} (ha : (a == sysModules) = false) (hb : (b == sysModules) = false) (hr : knd.room A.in1)
    (da : s.heap.DictOfH knd a ka) (db : s.heap.DictOfH knd b kb) (hu : A.units < cLine) (hlen : ka.length = kb.length) (hits : ∀ x ∈ ka, ∃ y, atKey kb x.1 = some y ∧ SeqAt.EqP prog w A.in1 s x.2.2 y.2 true) (h : Q (.bool false) s) :
    wpAny (model prog w) A (compareOp .NotEq (.ref a) (.ref b)) Q E s := by
  refine wpAny_richCompare_same_room (op := .NotEq) da.typeIs db.typeIs PySem.F.slot_dict_ne (wpAny_call_entry PySem.F.slot_dict_ne da.typeIs PySem.F.entry_dict_ne ?_ (PySem.F.args_dict_ne_2 _ _)) hu
  show wpAny _ _ (Builtin.Dict.dictSlotArgs "__ne__" ⟨[.ref a, .ref b], []⟩ >>= _) _ _ s
  refine wpAny_bind ?_
  unfold Builtin.Dict.dictSlotArgs
  refine wpAny_bind (wpAny_notOrdered_dict da.typeIs ?_)
  show wpAny _ _ (pure (Value.ref a, Value.ref b)) _ _ s
  refine wpAny_pure ?_
  refine wpAny_bind (wpAny_isInstance (T := "dict") db.typeIs PySem.F.sub_dict_dict ?_)
  simp only [Bool.not_true, Bool.false_eq_true, if_false]
  refine wpAny_bind (wpAny_pure (wpAny_bind (wpAny_pure ?_)))
  refine wpAny_bind (samePairsX ha hb hr da db hlen hits ?_)
  refine wpAny_pure ⟨_, rfl, ?_, ?_⟩
  · exact fun x => nomatch x
  · simpa using h
end
/-- an int or None -/
def inB : V → Bool
  | .int _ => true
  | .non => true
  | _ => false
def rNeX (P : Program) (w : World) (K : PySem.W.Frag) : R2 := fun x y H Q => ∃ a b ks ls, x = .ref a ∧ y = .ref b ∧ DAt P w K H a ks ∧ DAt P w K H b ls ∧ ks.length = ls.length ∧ (∀ p ∈ ks, valV ls p.1 = some p.2 ∧ inB p.2 = true) ∧ Q (.bl false) H
section
variable {X : Cx}
theorem op_neX (hu : X.A.units + 64 < cLine) : OpR X (compareOp .NotEq) (rNeX X.prog X.w X.K) := by
  intro pins s σ H x y v u Q I rx ry h
  obtain ⟨a, b, ks, ls, rfl, rfl, ⟨xa, oa, ea, ra⟩, ⟨xb, ob, eb, rb⟩, hlen, hp, q⟩ := h
  obtain rfl : v = Value.ref a := rx
  obtain rfl : u = Value.ref b := ry
  obtain ⟨_, sa, da⟩ := dx_heap I ea ra
  obtain ⟨_, sb, db⟩ := dx_heap I eb rb
  refine neX sa sb (tupleKind_room_in1 (by omega)) da db (by omega) (by have h1 := Paired.length ra; have h2 := Paired.length rb; omega) ?_ ⟨.bl false, H, I, rfl, q⟩
  have all : ∀ {l : List (List Key × V)} {m : List (List Key × Addr × Value)}, KX X.K H l m → (∀ p ∈ l, valV ls p.1 = some p.2 ∧ inB p.2 = true) → ∀ x ∈ m, ∃ y, atKey xb x.1 = some y ∧ SeqAt.EqP X.prog X.w X.A.in1 s x.2.2 y.2 true := by
    intro l m qq
    induction qq with
    | nil => intro _ x hx; exact nomatch hx
    | @cons p q ps qs hq t ih =>
      intro hl x hx
      rcases List.mem_cons.mp hx with e | hx
      · subst e
        obtain ⟨h1, h2⟩ := hl p List.mem_cons_self
        obtain ⟨k1, _, k3⟩ := hq
        rw [k1] at h1
        obtain ⟨w', hw, rw'⟩ := RelO.some_of (v := p.2) (o := (atKey xb x.1).map (·.2)) (by rw [← h1]; exact rb.val x.1)
        obtain ⟨y, hy, hy2⟩ := Option.map_eq_some_iff.mp hw
        refine ⟨y, hy, SeqAt.EqAt.eqP ?_⟩
        rw [hy2]
        generalize p.2 = pv at h2 k3 rw'
        generalize x.2.2 = xv at k3
        cases pv with
        | int i =>
          obtain ⟨t1, rfl⟩ := k3
          obtain ⟨t2, rfl⟩ := rw'
          have := SeqAt.EqAt.int_int (A := X.A.in1) (s := s) i t1 i t2
          simpa using this
        | non =>
          cases k3
          cases rw'
          exact SeqAt.EqAt.same _
        | _ => exact nomatch h2
      · exact ih (fun p hk => hl p (List.mem_cons_of_mem _ hk)) x hx
  exact all ra hp
end
/-! ### readings -/
section
variable {P : Program} {w : World} {K : PySem.W.Frag} {σ : L2.St} {H : Hp} {td ty tv ta tb : TE} {D : Ends} {tz : TS} {a b : Addr} {kvs ls : List (List Key × V)} {k : List Key} {v : V}
theorem ev_neX (h1 : Ev ta σ H (.ref a)) (h2 : Ev tb σ H (.ref b)) (ha : DAt P w K H a kvs) (hb : DAt P w K H b ls) (hl : kvs.length = ls.length) (hp : ∀ p ∈ kvs, valV ls p.1 = some p.2 ∧ inB p.2 = true) : Ev (tOp (rNeX P w K) ta tb) σ H (.bl false) := fun H1 e Q q =>
  h1 H1 e _ fun H2 e2 => h2 H2 (e.trans e2) _ fun H3 e3 => ⟨a, b, kvs, ls, rfl, rfl, ha.ext ((e.trans e2).trans e3), hb.ext ((e.trans e2).trans e3), hl, hp, q H3 (e2.trans e3)⟩
theorem ev_minN {l : Addr} {ns : List Int} (h : EvL ta σ H (ns.map V.int)) (h2 : ∀ H1, Ex H H1 → Ev tb σ H1 .non) : Ev (tCKw (rMinN K) (tCons ta tNil) (tCons tb tNil)) σ H (minO ns) := fun H1 e Q q =>
  h H1 e _ fun p H2 hp e2 hl => h2 H2 (e.trans e2) H2 (Ex.refl _) _ fun H3 e3 => ⟨p, ns, rfl, rfl, sq_of (e3 p _ hl), q H3 (e2.trans e3)⟩
end
end KC
set_option Elab.async false
set_option linter.all false
set_option maxRecDepth 100000
set_option maxHeartbeats 4000000
/-! New lists of data, dicts written to, extend, reversed. -/
namespace KC
open PySem PySem.Spec PyProof.Rows L2 GX Evl
def EvLD (K : PySem.W.Frag) (te : TE) (σ : L2.St) (H : Hp) (ds : List PyData) : Prop := ∀ H1, Ex H H1 → ∀ Q : VK, (∀ p vs H2, H1 p = none → Ex H1 H2 → H2 p = some (.lst vs) → DpAll K H2 vs ds → Q (.ref p) H2) → te σ H1 Q
def RetLD (K : PySem.W.Frag) (ds : List PyData) (H : Hp) (Q : VK) : Prop := ∀ p vs H2, H p = none → Ex H H2 → H2 p = some (.lst vs) → DpAll K H2 vs ds → Q (.ref p) H2
def SpLD (K : PySem.W.Frag) (sp : Sp) (vs : List V) (H : Hp) (ds : List PyData) : Prop := ∀ H1, Ex H H1 → ∀ Q : VK, (∀ p xs H2, H1 p = none → Ex H1 H2 → H2 p = some (.lst xs) → DpAll K H2 xs ds → Q (.ref p) H2) → ∀ E : XK, sp vs H1 Q E
mutual
theorem Dp.keepT {K : PySem.W.Frag} {H H' : Hp} (hk : ∀ b ys, SqT K H b ys → SqT K H' b ys) : ∀ (d : PyData) (v : V), noList d = true → Dp K H v d → Dp K H' v d
  | .none, _, _, h => by cases h; exact .non
  | .bool b, _, _, h => by cases h; exact .bl b
  | .int i, _, _, h => by cases h; exact .int i
  | .str x, _, _, h => by cases h; exact .str x
  | .list _, _, z, _ => by simp [noList] at z
  | .tuple ds, _, z, h => by
    cases h with
    | tup h1 h2 => exact .tup (hk _ _ h1) (DpAll.keepT hk ds _ (by simpa [noList] using z) h2)
  | .dict _, _, _, h => by cases h
theorem DpAll.keepT {K : PySem.W.Frag} {H H' : Hp} (hk : ∀ b ys, SqT K H b ys → SqT K H' b ys) : ∀ (ds : List PyData) (vs : List V), noListAll ds = true → DpAll K H vs ds → DpAll K H' vs ds
  | [], _, _, h => by cases h; exact .nil
  | d :: ds, _, z, h => by
    cases h with
    | cons h1 h2 =>
      simp only [noListAll, Bool.and_eq_true] at z
      exact .cons (Dp.keepT hk d _ z.1 h1) (DpAll.keepT hk ds _ z.2 h2)
end
theorem sqt_but {K : PySem.W.Frag} {H H' : Hp} {a b : Addr} {ys : List V} {φ : Heap → Prop} (e : H a = some (.ext φ)) (k : ∀ c, c ≠ a → H' c = H c) (h : SqT K H b ys) : SqT K H' b ys := by
  rcases h with (h | ⟨ob, h⟩) | h
  · exact .inl (.inl (by rw [k b (fun z => by rw [z, e] at h; cases h)]; exact h))
  · exact .inl (.inr ⟨ob, by rw [k b (fun z => by rw [z, e] at h; cases h)]; exact h⟩)
  · exact .inr h
theorem DAt.isX {P : Program} {w : World} {K : PySem.W.Frag} {H : Hp} {a : Addr} {kvs : List (List Key × V)} (h : DAt P w K H a kvs) : ∃ φ, H a = some (.ext φ) := by
  obtain ⟨xs, o, h1, _⟩ := h
  exact ⟨_, h1⟩
theorem DAt.put {P : Program} {w : World} {K : PySem.W.Frag} {H : Hp} {a l : Addr} {kvs : List (List Key × V)} {zs ys : List V} (h : DAt P w K H a kvs) (hl : H l = some (.lst zs)) : DAt P w K (upd H l (.lst ys)) a kvs := by
  obtain ⟨xs, o, h1, h2⟩ := h
  exact ⟨xs, o, by rw [upd_ne (fun e => by rw [e, hl] at h1; cases h1)]; exact h1, h2.keeps fun b zs z => sqt_put z hl⟩
theorem DAt.but {P : Program} {w : World} {K : PySem.W.Frag} {H H' : Hp} {a d : Addr} {kvs ls : List (List Key × V)} (h : DAt P w K H a kvs) (hd : DAt P w K H d ls) (k : ∀ c, c ≠ d → H' c = H c) (ne : a ≠ d) : DAt P w K H' a kvs := by
  obtain ⟨xs, o, h1, h2⟩ := h
  obtain ⟨φ, e⟩ := hd.isX
  exact ⟨xs, o, by rw [k a ne]; exact h1, h2.keeps fun b zs z => sqt_but e k z⟩
theorem ex_but {H H1 H2 : Hp} {d : Addr} (e : Ex H H1) (h : H d = none) (k : ∀ c, c ≠ d → H2 c = H1 c) : Ex H H2 := fun b o hb => by
  have ne : b ≠ d := fun z => by rw [z, h] at hb; cases hb
  rw [k b ne]
  exact e b o hb
section
variable {P : Program} {w : World} {K : PySem.W.Frag} {σ : L2.St} {H H' : Hp} {td ty tv ta tb te tl : TE} {D : Ends} {tz tu : TS} {a b : Addr} {kvs ls : List (List Key × V)} {k : List Key} {v : V} {ds : List PyData}
theorem EvLD.mono (e : Ex H H') (h : EvLD K te σ H ds) : EvLD K te σ H' ds := fun H1 a Q q => h H1 (e.trans a) Q q
theorem eld_call {sp : Sp} {dvs vs : List V} {E : XK} {ta : TA} (h : EvA ta σ H vs) (hs : SpLD K sp (vs ++ dvs) H ds) : EvLD K (tCall sp dvs E ta) σ H ds := fun H1 e Q q =>
  h H1 e _ fun H2 e2 => hs H2 (e.trans e2) Q (fun p xs H3 hp e3 h3 hd => q p xs H3 (fresh_back e2 hp) (e2.trans e3) h3 hd) E
theorem s_dput (h : Ev tv σ H v) (h1 : Ev td σ H (.ref a)) (h2 : Ev ty σ H (.ref b)) (g : DAt P w K H a kvs) (hb : SqT K H b (k.map kV)) (hl : kvs.length < 100000)
    (q : ∀ H1 H2, Ex H H1 → DAt P w K H2 a (putK kvs k v) → (∀ c, c ≠ a → H2 c = H1 c) → D.nx σ H2) : sDPutX P w K td ty tv D σ H :=
  h H (Ex.refl H) _ fun H1 e1 => h1 H1 e1 _ fun H2 e2 => h2 H2 (e1.trans e2) _ fun H3 e3 => ⟨a, kvs, b, k, rfl, rfl, g.ext ((e1.trans e2).trans e3), ex_t ((e1.trans e2).trans e3) hb, sz_lt hl, fun H4 hd hk => q H3 H4 ((e1.trans e2).trans e3) hd hk⟩
theorem s_dputLD (h : EvLD K tv σ H ds) (h1 : Ev td σ H (.ref a)) (h2 : Ev ty σ H (.ref b)) (g : DAt P w K H a kvs) (hb : SqT K H b (k.map kV)) (hl : kvs.length < 100000)
    (q : ∀ p vs H1 H2, H p = none → Ex H H1 → H1 p = some (.lst vs) → DpAll K H1 vs ds → DAt P w K H2 a (putK kvs k (.ref p)) → (∀ c, c ≠ a → H2 c = H1 c) → D.nx σ H2) : sDPutX P w K td ty tv D σ H :=
  h H (Ex.refl H) _ fun p vs H1 hp e1 hv hd => h1 H1 e1 _ fun H2 e2 => h2 H2 (e1.trans e2) _ fun H3 e3 => ⟨a, kvs, b, k, rfl, rfl, g.ext ((e1.trans e2).trans e3), ex_t ((e1.trans e2).trans e3) hb, sz_lt hl, fun H4 hd4 hk => q p vs H3 H4 hp ((e1.trans e2).trans e3) ((e2.trans e3) p _ hv) (DpAll.ext (e2.trans e3) _ _ hd) hd4 hk⟩
theorem q_dput (h : Ev tv σ H v) (h1 : Ev td σ H (.ref a)) (h2 : Ev ty σ H (.ref b)) (g : DAt P w K H a kvs) (hb : SqT K H b (k.map kV)) (hl : kvs.length < 100000)
    (q : ∀ H1 H2, Ex H H1 → DAt P w K H2 a (putK kvs k v) → (∀ c, c ≠ a → H2 c = H1 c) → tz D σ H2) : tSeq (sDPutX P w K td ty tv) tz D σ H := s_dput (D := { D with nx := tz D }) h h1 h2 g hb hl q
theorem q_dputLD (h : EvLD K tv σ H ds) (h1 : Ev td σ H (.ref a)) (h2 : Ev ty σ H (.ref b)) (g : DAt P w K H a kvs) (hb : SqT K H b (k.map kV)) (hl : kvs.length < 100000)
    (q : ∀ p vs H1 H2, H p = none → Ex H H1 → H1 p = some (.lst vs) → DpAll K H1 vs ds → DAt P w K H2 a (putK kvs k (.ref p)) → (∀ c, c ≠ a → H2 c = H1 c) → tz D σ H2) : tSeq (sDPutX P w K td ty tv) tz D σ H := s_dputLD (D := { D with nx := tz D }) h h1 h2 g hb hl q
theorem s_dnew {i : Nat} (q : ∀ p H1, H p = none → Ex H H1 → DAt P w K H1 p [] → D.nx (σ.set i (some (.ref p))) H1) : tAsg (tDNewX P w) (gName i) D σ H := fun p hp => q p _ hp (Ex.new hp) ⟨[], _, upd_same, .nil⟩
theorem q_dnew {i : Nat} (q : ∀ p H1, H p = none → Ex H H1 → DAt P w K H1 p [] → tz D (σ.set i (some (.ref p))) H1) : tSeq (tAsg (tDNewX P w) (gName i)) tz D σ H := s_dnew (D := { D with nx := tz D }) q
/-- l.extend(xs), xs new -/
theorem s_extL {l : Addr} {xs ys : List V} (hl : H l = some (.lst xs)) (ha : Ev ta σ H (.ref l)) (h : EvL te σ H ys) (hz : xs.length + ys.length ≤ 1000000) (q : ∀ p H1, H p = none → Ex H H1 → H1 p = some (.lst ys) → D.nx σ (upd H1 l (.lst (xs ++ ys)))) :
    tDrop (tBM K "list" rExtend ta (tCons te tNil)) D σ H := ha H (Ex.refl H) _ fun H1 e1 =>
  ⟨.inl ⟨rfl, xs, sq_of (e1 l _ hl)⟩, h H1 e1 _ fun p H2 hp e2 h2 => ⟨l, p, xs, ys, rfl, rfl, (e1.trans e2) l _ hl, h2, by rw [sizeLine_eq]; omega, q p H2 (fresh_back e1 hp) (e1.trans e2) h2⟩⟩
/-- a list's truth -/
theorem et_truL {xs : List V} (h : Ev ta σ H (.ref a)) (hx : SqL K H a xs) : EvT (fun σ H Q => ta σ H fun x H' => ∃ k, TruV K x H' k ∧ Q k H') σ H (!xs.isEmpty) := fun H1 e Q q =>
  h H1 e _ fun H2 e2 => ⟨_, .inl ⟨xs, ex_l (e.trans e2) hx, rfl⟩, q H2 e2⟩
/-- x is None, x is not None -/
theorem ev_isN (h : Ev ta σ H v) (hn : Ev tb σ H .non) : Ev (tOp (fun x y H Q => y = .non ∧ Q (.bl (decide (x = .non))) H) ta tb) σ H (.bl (decide (v = .non))) := ev_op h hn fun H1 _ Q q => (show V.non = .non ∧ Q (.bl (decide (v = .non))) H1 from ⟨rfl, q H1 (Ex.refl H1)⟩)
theorem ev_notN (h : Ev ta σ H v) (hn : Ev tb σ H .non) : Ev (tOp (fun x y H Q => y = .non ∧ Q (.bl (!decide (x = .non))) H) ta tb) σ H (.bl (!decide (v = .non))) := ev_op h hn fun H1 _ Q q => (show V.non = .non ∧ Q (.bl (!decide (v = .non))) H1 from ⟨rfl, q H1 (Ex.refl H1)⟩)
/-- for x in reversed(l), l new, whatever it holds -/
theorem s_forRevX {C : List V → Prop} {ta : TA} {j : Nat} (h : ∀ Q : List V → Hp → Prop, (∀ p xs H1, H p = none → Ex H H1 → H1 p = some (.lst xs) → C xs → Q [.ref p] H1) → ta σ H Q) (Pv : List V → Addr → Nat → L2.St → Hp → Prop) (h0 : ∀ xs p H1, H p = none → Ex H H1 → H1 p = some (.lst xs) → C xs → Pv xs p 0 σ H1) (hl : ∀ xs p i σ' H', i ≤ xs.length → Pv xs p i σ' H' → SqL K H' p xs)
    (hs : ∀ xs p i x σ' H', C xs → xs[xs.length - 1 - i]? = some x → i < xs.length → Pv xs p i σ' H' → tu { D with nx := Pv xs p (i + 1), ct := Pv xs p (i + 1), bk := D.nx } (σ'.set j (some x)) H') (hd : ∀ xs p σ' H', C xs → Pv xs p xs.length σ' H' → D.nx σ' H') : tFor (iRev K ta) (gName j) tu D σ H := by
  refine h _ fun p xs H1 hp e1 h1 hc => ⟨p, xs, rfl, sq_of h1, ?_⟩
  refine ⟨fun i m σ H => m = xs.length - i ∧ i ≤ xs.length ∧ Pv xs p i σ H, ⟨xs.length, by simp, Nat.zero_le _, h0 xs p H1 hp e1 h1 hc⟩, ?_⟩
  rintro i m σ H ⟨rfl, hi, pv⟩
  have q := hl xs p i σ H hi pv
  by_cases hlt : i < xs.length
  · have hx : xs[xs.length - 1 - i]? = some (xs[xs.length - 1 - i]'(by omega)) := List.getElem?_eq_getElem (by omega)
    refine .inr ⟨⟨hlt, xs, _, q, hx⟩, Pv xs p (i + 1), fun σ' H' p' => ⟨xs.length - (i + 1), by omega, rfl, hlt, p'⟩, fun x H' y => ?_⟩
    obtain ⟨rfl, hy⟩ := y
    exact hs xs p i x σ _ hc (hy xs q) hlt pv
  · have : i = xs.length := by omega
    subst this
    exact .inl ⟨Nat.le_refl _, hd xs p σ H hc pv⟩
theorem q_forRevX {C : List V → Prop} {ta : TA} {j : Nat} (h : ∀ Q : List V → Hp → Prop, (∀ p xs H1, H p = none → Ex H H1 → H1 p = some (.lst xs) → C xs → Q [.ref p] H1) → ta σ H Q) (Pv : List V → Addr → Nat → L2.St → Hp → Prop) (h0 : ∀ xs p H1, H p = none → Ex H H1 → H1 p = some (.lst xs) → C xs → Pv xs p 0 σ H1) (hl : ∀ xs p i σ' H', i ≤ xs.length → Pv xs p i σ' H' → SqL K H' p xs)
    (hs : ∀ xs p i x σ' H', C xs → xs[xs.length - 1 - i]? = some x → i < xs.length → Pv xs p i σ' H' → tu { D with nx := Pv xs p (i + 1), ct := Pv xs p (i + 1), bk := tz D } (σ'.set j (some x)) H') (hd : ∀ xs p σ' H', C xs → Pv xs p xs.length σ' H' → tz D σ' H') : tSeq (tFor (iRev K ta) (gName j) tu) tz D σ H :=
  s_forRevX (D := { D with nx := tz D }) h Pv h0 hl hs hd
end
end KC
set_option Elab.async false
set_option linter.all false
set_option maxRecDepth 100000
set_option maxHeartbeats 4000000
namespace K05
open PySem PySem.Spec PyProof.Rows L2 GX KC Evl
def topS (i : Nat) : Stmt := PySem.Challenge.pw_kraftroom_k05_whole_packages.main.body.getD i (.Pass ⟨0, 0, 0, 0⟩)
abbrev s_ranks : Stmt := topS 2
theorem sc_ranks : FnScope ["weights", "order", "_", "symbol"] ["weights"] (defScope s_ranks) := ⟨rfl, rfl, rfl, by decide +kernel, rfl, by decide +kernel, by decide +kernel⟩
abbrev s_cost : Stmt := topS 3
theorem sc_cost : FnScope ["weights", "lengths"] ["weights", "lengths"] (defScope s_cost) := ⟨rfl, rfl, rfl, by decide +kernel, rfl, by decide +kernel, by decide +kernel⟩
abbrev s_rests : Stmt := topS 4
theorem sc_rests : FnScope ["weights", "sums", "weight"] ["weights"] (defScope s_rests) := ⟨rfl, rfl, rfl, by decide +kernel, rfl, by decide +kernel, by decide +kernel⟩
abbrev s_word_counts : Stmt := topS 5
theorem sc_word_counts : FnScope ["limit", "depth", "free", "left"] ["limit", "depth", "free", "left"] (defScope s_word_counts) := ⟨rfl, rfl, rfl, by decide +kernel, rfl, by decide +kernel, by decide +kernel⟩
abbrev s_stage_choices : Stmt := topS 6
theorem sc_stage_choices : FnScope ["sums", "limit", "stage", "depth", "m", "free", "left", "found", "a"] ["sums", "limit", "stage"] (defScope s_stage_choices) := ⟨rfl, rfl, rfl, by decide +kernel, rfl, by decide +kernel, by decide +kernel⟩
abbrev s_reached_stages : Stmt := topS 7
theorem sc_reached_stages : FnScope ["weights", "limit", "sums", "found", "waiting", "following", "stage", "choice"] ["weights", "limit"] (defScope s_reached_stages) := ⟨rfl, rfl, rfl, by decide +kernel, rfl, by decide +kernel, by decide +kernel⟩
abbrev s_least_sum : Stmt := topS 8
theorem sc_least_sum : FnScope ["choice", "known", "_", "price", "following"] ["choice", "known"] (defScope s_least_sum) := ⟨rfl, rfl, rfl, by decide +kernel, rfl, by decide +kernel, by decide +kernel⟩
abbrev s_stage_values : Stmt := topS 9
theorem sc_stage_values : FnScope ["stages", "known", "stage", "sums", "choice", "total"] ["stages"] (defScope s_stage_values) := ⟨rfl, rfl, rfl, by decide +kernel, rfl, by decide +kernel, by decide +kernel⟩
abbrev s_least_lengths : Stmt := topS 10
theorem sc_least_lengths : FnScope ["weights", "limit", "stages", "known", "order", "lengths", "stage", "depth", "m", "_", "best", "choice", "a", "symbol"] ["weights", "limit"] (defScope s_least_lengths) := ⟨rfl, rfl, rfl, by decide +kernel, rfl, by decide +kernel, by decide +kernel⟩
abbrev s_packages : Stmt := topS 11
theorem sc_packages : FnScope ["row", "light", "heavy"] ["row"] (defScope s_packages) := ⟨rfl, rfl, rfl, by decide +kernel, rfl, by decide +kernel, by decide +kernel⟩
abbrev s_packaged_lengths : Stmt := topS 12
theorem sc_packaged_lengths : FnScope ["weights", "limit", "coins", "row", "_", "needed", "lengths", "symbols", "symbol"] ["weights", "limit"] (defScope s_packaged_lengths) := ⟨rfl, rfl, rfl, by decide +kernel, rfl, by decide +kernel, by decide +kernel⟩
abbrev s_room : Stmt := topS 15
theorem sc_room : FnScope ["lengths", "depth", "taken"] ["lengths"] (defScope s_room) := ⟨rfl, rfl, rfl, by decide +kernel, rfl, by decide +kernel, by decide +kernel⟩
abbrev s_law_cell : Stmt := topS 17
theorem sc_law_cell : FnScope ["script", "k"] ["script", "k"] (defScope s_law_cell) := ⟨rfl, rfl, rfl, by decide +kernel, rfl, by decide +kernel, by decide +kernel⟩
abbrev s_law_weights : Stmt := topS 18
theorem sc_law_weights : FnScope ["script", "first", "many", "weights", "k", "cell", "weight"] ["script", "first", "many"] (defScope s_law_weights) := ⟨rfl, rfl, rfl, by decide +kernel, rfl, by decide +kernel, by decide +kernel⟩
abbrev s_law_ranks : Stmt := topS 19
theorem sc_law_ranks : FnScope ["weights", "order", "turn", "best", "k"] ["weights"] (defScope s_law_ranks) := ⟨rfl, rfl, rfl, by decide +kernel, rfl, by decide +kernel, by decide +kernel⟩
abbrev s_law_least_limit : Stmt := topS 20
theorem sc_law_least_limit : FnScope ["many", "limit", "turn"] ["many"] (defScope s_law_least_limit) := ⟨rfl, rfl, rfl, by decide +kernel, rfl, by decide +kernel, by decide +kernel⟩
abbrev s_law_choices : Stmt := topS 21
theorem sc_law_choices : FnScope ["weights", "limit", "stage", "depth", "m", "k", "n", "order", "found", "a", "allowed", "rest", "symbol"] ["weights", "limit", "stage"] (defScope s_law_choices) := ⟨rfl, rfl, rfl, by decide +kernel, rfl, by decide +kernel, by decide +kernel⟩
abbrev s_law_joined : Stmt := topS 22
theorem sc_law_joined : FnScope ["weights", "left", "price", "turn", "both"] ["weights"] (defScope s_law_joined) := ⟨rfl, rfl, rfl, by decide +kernel, rfl, by decide +kernel, by decide +kernel⟩
abbrev s_law : Stmt := topS 23
theorem sc_law : FnScope ["script", "many", "weights", "limit", "given", "found", "k"] ["script"] (defScope s_law) := ⟨rfl, rfl, rfl, by decide +kernel, rfl, by decide +kernel, by decide +kernel⟩
section
variable {P : Program} {w : World} {K : PySem.W.Frag} {mg : Str → Option Value} {base : Heap}
theorem ok_cell {f : Addr} {fd : FuncData} {k : Nat} (F : Fun K "_law_cell" "_law_cell" s_law_cell f fd) (B : Bs mg) : FnOk P w K mg base CX0 (k + 1) f fd ["script", "k"] (spCell K) := by
  refine F.ok sc_law_cell (fun vs H Q E h => ?_) (fun cdv A outer s H vs Q E hr h => ?_)
  · obtain ⟨l, ns, j, rfl, _⟩ := h
    rfl
  · obtain ⟨l, ns, j, rfl, hs, q⟩ := h
    refine ⟨_, (pss_cons (ps_if (pt_cmpR op_lt (pv 1) (pe_callB call_len_seq (by rfl) B.len PySem.boot_len (pa_cons (pv 0) pa_nil)) (nomark _)) (pss_one (ps_ret (pe_callTy call_int1 (by rfl) B.int (by decide +kernel) (pa_cons (pe_ix ix_list (pv 0) (pv 1) (fun _ _ => rfl)) pa_nil)))) pss_nil)
      (pss_one (ps_ret pe_int))), ?_⟩
    refine ⟨_, rfl, _, rfl, l, _, rfl, .inl hs, _, _, rfl, rfl, _, rfl, ?_⟩
    by_cases hj : j < ns.length
    · have hd : decide ((j : Int) < ((ns.map V.int).length : Int)) = true := decide_eq_true (by rw [List.length_map]; omega)
      rw [hd]
      exact ⟨_, rfl, _, rfl, l, _, _, _, rfl, rfl, hs, atI_cell hj, .inl ⟨_, rfl, q⟩⟩
    · have hd : decide ((j : Int) < ((ns.map V.int).length : Int)) = false := decide_eq_false (by rw [List.length_map]; omega)
      rw [hd]
      rw [cell_out hj] at q
      exact q
/-! ### the weights -/
def weightOf (c : Int) : Int := if c % 23 = 7 then c / 23 % 1000001 else if c % 5 = 1 then c / 5 % 100 else c % 9
def weightsL (ns : List Int) (first n : Nat) : List Int := (List.range n).map fun k => weightOf (cellOf ns (first + k))
theorem weightsL_succ (ns : List Int) (first n : Nat) : weightsL ns first (n + 1) = weightsL ns first n ++ [weightOf (cellOf ns (first + n))] := by
  unfold weightsL
  rw [List.range_succ, List.map_append] <;> rfl
theorem weightsL_len (ns : List Int) (first n : Nat) : (weightsL ns first n).length = n := by simp [weightsL]
def spWeights (K : PySem.W.Frag) : Sp := fun vs H Q _ => ∃ (l : Addr) (ns : List Int) (first n : Nat), vs = [.ref l, .int (first : Int), .int (n : Int)] ∧ SqL K H l (ns.map V.int) ∧ n ≤ 1000 ∧ RetL ((weightsL ns first n).map V.int) H Q
theorem spv_cell {H : Hp} {l : Addr} {ns : List Int} {z : Int} {j : Nat} (hs : SqL K H l (ns.map V.int)) (e : z = (j : Int)) : SpV (spCell K) ([.ref l, .int z] ++ []) H (.int (cellOf ns j)) := fun H1 e1 Q q E => ⟨l, ns, j, by rw [e]; rfl, ex_l e1 hs, q H1 (Ex.refl H1)⟩
theorem ok_weights {f : Addr} {fd : FuncData} {k : Nat} (F : Fun K "_law_weights" "_law_weights" s_law_weights f fd) (B : Bs mg) (C_law_cell : Cal P w K mg base "_law_cell" 1 ["script", "k"] (spCell K)) : FnOk P w K mg base CX0 (k + 2) f fd ["script", "first", "many"] (spWeights K) := by
  refine F.ok sc_law_weights (fun vs H Q E h => ?_) (fun cdv A outer s H vs Q E hr h => ?_)
  · obtain ⟨l, ns, first, n, rfl, _⟩ := h
    rfl
  · obtain ⟨l, ns, first, n, rfl, hs, hn, q⟩ := h
    refine ⟨_, (pss_cons (ps_set (i := 3) sc_law_weights.nd rfl (Or.inl rfl) (pe_lst pa_nil))
      (pss_cons (ps_for PassesOwn.never rfl (pi_range1 (by rfl) B.range (pa_cons (pv 2) pa_nil)) (pg_name (i := 4) sc_law_weights.nd rfl (Or.inl rfl)) (pss_cons (ps_set (i := 5) sc_law_weights.nd rfl (Or.inl rfl) (pe_callC C_law_cell (hr.mono (by omega)) (by rfl) (pa_cons (pv 0) (pa_cons (pe_op op_add (pv 1) (pv 4)) pa_nil))))
      (pss_cons (ps_set (i := 6) sc_law_weights.nd rfl (Or.inl rfl) (pe_op op_mod (pv 5) pe_int))
      (pss_cons (ps_if (pt_cmpR op_eq (pe_op op_mod (pv 5) pe_int) pe_int (nomark _)) (pss_one (ps_set (i := 6) sc_law_weights.nd rfl (Or.inl rfl) (pe_op op_mod (pe_op op_fdiv (pv 5) pe_int) pe_int))) pss_nil)
      (pss_cons (ps_if (pt_cmpR op_eq (pe_op op_mod (pv 5) pe_int) pe_int (nomark _)) (pss_one (ps_set (i := 6) sc_law_weights.nd rfl (Or.inl rfl) (pe_op op_mod (pe_op op_fdiv (pv 5) pe_int) pe_int))) pss_nil)
      (pss_one (ps_expr (pe_bm PySem.F.plainAttrs_list PySem.F.slot_list_append PySem.F.type_list_append mt_append (pv 3) (pa_cons (pv 6) pa_nil)))))))))
      (pss_one (ps_ret (pv 3))))), ?_⟩
    refine q_asgL (el_lst ea_nil (by decide)) fun p H1 hp e1 h1 => ?_
    refine q_forR1 (n := (n : Int)) (ea1 (ev_var rfl)) ⟨by omega, by omega⟩
      (fun i σ H' => ∃ a b c, σ = [some (.ref l), some (.int (first : Int)), some (.int (n : Int)), some (.ref p), a, b, c] ∧ Ex H H' ∧ H' p = some (.lst ((weightsL ns first i).map V.int)))
      (fun H2 e2 => ⟨none, none, none, rfl, e1.trans e2, e2 p _ h1⟩) ?_ ?_
    · rintro i σ H' hi ⟨a, b, c, rfl, eh, hl⟩
      have hs' := ex_l eh hs
      -- cell = _law_cell(script, first + k)
      refine q_asg (ev_call (ea2 (ev_var rfl) (ev_op (ev_var rfl) (ev_var rfl) rv_I0)) (spv_cell (j := first + i) hs' (by omega))) fun H2 e2 => ?_
      generalize hc : cellOf ns (first + i) = z
      -- weight = cell % 9
      refine q_asg (ev_op (ev_var rfl) ev_c (rv_mod (by decide))) fun H3 e3 => ?_
      refine q_ifAsg (v := .int (if z % 5 = 1 then z / 5 % 100 else z % 9)) (et_test (ev_op (ev_op (ev_var rfl) ev_c (rv_mod (by decide))) ev_c (rv_eq rfl))) (fun hb => ?_) (fun hb => ?_) fun H4 e4 => ?_
      · have hb' : z % 5 = 1 := V.int.inj (of_decide_eq_true hb)
        rw [if_pos hb']
        exact ev_op (ev_op (ev_var rfl) ev_c (rv_div (by decide) (by decide))) ev_c (rv_mod (by decide))
      · have hb' : ¬ z % 5 = 1 := fun e => of_decide_eq_false hb (congrArg V.int e)
        rw [if_neg hb']
        rfl
      refine q_ifAsg (v := .int (weightOf z)) (et_test (ev_op (ev_op (ev_var rfl) ev_c (rv_mod (by decide))) ev_c (rv_eq rfl))) (fun hb => ?_) (fun hb => ?_) fun H5 e5 => ?_
      · have hb' : z % 23 = 7 := V.int.inj (of_decide_eq_true hb)
        unfold weightOf
        rw [if_pos hb']
        exact ev_op (ev_op (ev_var rfl) ev_c (rv_div (by decide) (by decide))) ev_c (rv_mod (by decide))
      · have hb' : ¬ z % 23 = 7 := fun e => of_decide_eq_false hb (congrArg V.int e)
        unfold weightOf
        rw [if_neg hb']
        rfl
      have e25 : Ex H' H5 := ((e2.trans e3).trans e4).trans e5
      refine s_app (e25 p _ hl) (ev_var rfl) (ev_var rfl) (by rw [List.length_map, weightsL_len]; omega) fun H6 e6 => ?_
      refine ⟨_, _, _, rfl, Ex.mut ((eh.trans e25).trans e6) hp, ?_⟩
      rw [upd_same, weightsL_succ, hc, List.map_append]
      rfl
    · rintro σ H' ⟨a, b, c, rfl, eh, hl⟩
      have hn' : ((n : Int)).toNat = n := by omega
      rw [hn'] at hl
      exact s_ret (ev_var rfl) fun H2 e2 => q p H2 hp (eh.trans e2) (e2 p _ hl)
end
end K05
set_option linter.all false
/-! The mathematics of ranks, rests and choices: plain lists. -/
namespace M03
def wAt (ws : List Int) (k : Nat) : Int := ws.getD k 0
/-- k comes before j -/
def Rk (ws : List Int) (k j : Nat) : Prop := wAt ws j < wAt ws k ∨ (wAt ws k = wAt ws j ∧ k < j)
structure IsRank (ws : List Int) (ord : List Nat) : Prop where
  pw : ord.Pairwise (Rk ws)
  mem : ∀ k, k ∈ ord ↔ k < ws.length
theorem Rk.irrefl {ws : List Int} {k : Nat} (h : Rk ws k k) : False := by
  unfold Rk at h; omega
theorem Rk.asymm {ws : List Int} {k j : Nat} (h : Rk ws k j) (h2 : Rk ws j k) : False := by
  unfold Rk at h h2; omega
theorem Rk.trans {ws : List Int} {k j i : Nat} (h : Rk ws k j) (h2 : Rk ws j i) : Rk ws k i := by
  unfold Rk at *; omega
theorem Rk.total {ws : List Int} {k j : Nat} (h : k ≠ j) : Rk ws k j ∨ Rk ws j k := by
  unfold Rk; omega
theorem uniq (ws : List Int) : ∀ (a b : List Nat), a.Pairwise (Rk ws) → b.Pairwise (Rk ws) → (∀ k, k ∈ a ↔ k ∈ b) → a = b
  | [], [], _, _, _ => rfl
  | [], y :: b, _, _, h => absurd ((h y).mpr List.mem_cons_self) (by simp)
  | x :: a, [], _, _, h => absurd ((h x).mp List.mem_cons_self) (by simp)
  | x :: a, y :: b, ha, hb, h => by
    have ha' := List.pairwise_cons.mp ha
    have hb' := List.pairwise_cons.mp hb
    have e : x = y := by
      rcases List.mem_cons.mp ((h x).mp List.mem_cons_self) with e | e
      · exact e
      · rcases List.mem_cons.mp ((h y).mpr List.mem_cons_self) with e2 | e2
        · exact e2.symm
        · exact (Rk.asymm (hb'.1 x e) (ha'.1 y e2)).elim
    subst e
    rw [uniq ws a b ha'.2 hb'.2 fun k => ?_]
    constructor
    · intro hk
      rcases List.mem_cons.mp ((h k).mp (List.mem_cons_of_mem _ hk)) with e | e
      · subst e; exact (Rk.irrefl (ha'.1 _ hk)).elim
      · exact e
    · intro hk
      rcases List.mem_cons.mp ((h k).mpr (List.mem_cons_of_mem _ hk)) with e | e
      · subst e; exact (Rk.irrefl (hb'.1 _ hk)).elim
      · exact e
theorem IsRank.uniq {ws : List Int} {a b : List Nat} (ha : IsRank ws a) (hb : IsRank ws b) : a = b := M03.uniq ws a b ha.pw hb.pw fun k => (ha.mem k).trans (hb.mem k).symm
def leK (ws : List Int) (k j : Nat) : Bool := decide (wAt ws j < wAt ws k ∨ (wAt ws k = wAt ws j ∧ k ≤ j))
def rankL (ws : List Int) : List Nat := (List.range ws.length).mergeSort (leK ws)
theorem rank_perm (ws : List Int) : (rankL ws).Perm (List.range ws.length) := List.mergeSort_perm _ _
theorem rank_is (ws : List Int) : IsRank ws (rankL ws) := by
  refine ⟨?_, fun k => ?_⟩
  · have h1 : (rankL ws).Pairwise fun a b => leK ws a b = true := List.pairwise_mergeSort (fun a b c => by unfold leK; simp only [decide_eq_true_eq]; omega) (fun a b => by unfold leK; simp only [Bool.or_eq_true, decide_eq_true_eq]; omega) _
    have h2 : (rankL ws).Nodup := (rank_perm ws).nodup_iff.mpr List.nodup_range
    have h3 := h1.and h2
    refine h3.imp fun {a b} h => ?_
    obtain ⟨h4, h5⟩ := h
    unfold leK at h4
    unfold Rk
    have h6 := of_decide_eq_true h4
    have h7 : a ≠ b := h5
    omega
  · rw [(rank_perm ws).mem_iff, List.mem_range]
theorem rank_len (ws : List Int) : (rankL ws).length = ws.length := by rw [(rank_perm ws).length_eq, List.length_range]
theorem rank_lt {ws : List Int} {k : Nat} (h : k ∈ rankL ws) : k < ws.length := ((rank_is ws).mem k).mp h
/-- choosing the best of the rest again and again -/
structure Part (ws : List Int) (ord : List Nat) : Prop where
  pw : ord.Pairwise (Rk ws)
  lt : ∀ k ∈ ord, k < ws.length
  before : ∀ k ∈ ord, ∀ j, j < ws.length → j ∉ ord → Rk ws k j
theorem Part.nil (ws : List Int) : Part ws [] := ⟨.nil, by simp, by simp⟩
/-- b: the best among the first i that ord has not -/
def Best (ws : List Int) (ord : List Nat) (i : Nat) : Option Nat → Prop
  | none => ∀ j, j < i → j ∈ ord
  | some b => b < i ∧ b ∉ ord ∧ ∀ j, j < i → j ∉ ord → j ≠ b → Rk ws b j
theorem Part.add {ws : List Int} {ord : List Nat} {b : Nat} (p : Part ws ord) (h : Best ws ord ws.length (some b)) : Part ws (ord ++ [b]) := by
  obtain ⟨h1, h2, h3⟩ := h
  refine ⟨List.pairwise_append.mpr ⟨p.pw, List.pairwise_singleton _ _, fun a ha c hc => ?_⟩, fun k hk => ?_, fun k hk j hj hn => ?_⟩
  · rw [List.mem_singleton.mp hc]
    exact p.before a ha b h1 h2
  · rcases List.mem_append.mp hk with h | h
    · exact p.lt k h
    · rw [List.mem_singleton.mp h]; exact h1
  · have hn1 : j ∉ ord := fun z => hn (List.mem_append_left _ z)
    have hn2 : j ≠ b := fun z => hn (by rw [z]; exact List.mem_append_right _ (List.mem_singleton.mpr rfl))
    rcases List.mem_append.mp hk with h | h
    · exact p.before k h j hj hn1
    · rw [List.mem_singleton.mp h]
      exact h3 j hj hn1 hn2
theorem nodup_sub : ∀ (l m : List Nat), l.Nodup → (∀ x ∈ l, x ∈ m) → l.length ≤ m.length
  | [], _, _, _ => Nat.zero_le _
  | x :: l, m, h, hs => by
    have h' := List.nodup_cons.mp h
    have hx := hs x List.mem_cons_self
    have h1 := nodup_sub l (m.erase x) h'.2 fun y hy => (List.mem_erase_of_ne (fun e => h'.1 (by rw [← e]; exact hy))).mpr (hs y (List.mem_cons_of_mem _ hy))
    rw [List.length_erase_of_mem hx] at h1
    have h2 := List.length_pos_of_mem hx
    simp only [List.length_cons]
    omega
theorem nodup_le {ord : List Nat} {n : Nat} (h : ord.Nodup) (hl : ∀ k ∈ ord, k < n) : ord.length ≤ n := by
  have h2 := nodup_sub ord (List.range n) h fun k hk => List.mem_range.mpr (hl k hk)
  rwa [List.length_range] at h2
theorem Part.nodup {ws : List Int} {ord : List Nat} (p : Part ws ord) : ord.Nodup := p.pw.imp fun {a b} h e => by subst e; exact h.irrefl
/-- a best one is there while ord is not whole -/
theorem Part.some {ws : List Int} {ord : List Nat} (p : Part ws ord) (h : ord.length < ws.length) {o : Option Nat} (hb : Best ws ord ws.length o) : ∃ b, o = .some b := by
  cases o with
  | some b => exact ⟨b, rfl⟩
  | none =>
    have h2 := nodup_sub (List.range ws.length) ord List.nodup_range fun k hk => hb k (List.mem_range.mp hk)
    rw [List.length_range] at h2
    omega
theorem Part.whole {ws : List Int} {ord : List Nat} (p : Part ws ord) (h : ord.length = ws.length) : ord = rankL ws := by
  refine IsRank.uniq ⟨p.pw, fun k => ⟨p.lt k, fun hk => ?_⟩⟩ (rank_is ws)
  by_cases hm : k ∈ ord
  · exact hm
  · exfalso
    have h2 : (k :: ord).Nodup := List.nodup_cons.mpr ⟨hm, p.nodup⟩
    have h3 := nodup_le h2 (n := ws.length) fun j hj => by
      rcases List.mem_cons.mp hj with e | e
      · rw [e]; exact hk
      · exact p.lt j e
    simp only [List.length_cons] at h3
    omega
theorem Best.zero (ws : List Int) (ord : List Nat) : Best ws ord 0 none := fun j h => absurd h (Nat.not_lt_zero j)
theorem Best.skip {ws : List Int} {ord : List Nat} {i : Nat} {o : Option Nat} (h : Best ws ord i o) (hi : i ∈ ord) : Best ws ord (i + 1) o := by
  cases o with
  | none =>
    intro j hj
    by_cases e : j = i
    · rw [e]; exact hi
    · exact h j (by omega)
  | some b =>
    obtain ⟨h1, h2, h3⟩ := h
    refine ⟨by omega, h2, fun j hj hn hb => ?_⟩
    by_cases e : j = i
    · rw [e] at hn; exact absurd hi hn
    · exact h3 j (by omega) hn hb
theorem Best.first {ws : List Int} {ord : List Nat} {i : Nat} (h : Best ws ord i none) (hi : i ∉ ord) : Best ws ord (i + 1) (some i) := by
  refine ⟨by omega, hi, fun j hj hn hb => ?_⟩
  exact absurd (h j (by omega)) hn
theorem Best.take {ws : List Int} {ord : List Nat} {i b : Nat} (h : Best ws ord i (some b)) (hi : i ∉ ord) (hw : wAt ws b < wAt ws i) : Best ws ord (i + 1) (some i) := by
  obtain ⟨h1, h2, h3⟩ := h
  refine ⟨by omega, hi, fun j hj hn hb => ?_⟩
  by_cases e : j = b
  · rw [e]; exact .inl hw
  · have := h3 j (by omega) hn e
    exact Rk.trans (.inl hw) this
theorem Best.keep {ws : List Int} {ord : List Nat} {i b : Nat} (h : Best ws ord i (some b)) (hw : ¬ wAt ws b < wAt ws i) : Best ws ord (i + 1) (some b) := by
  obtain ⟨h1, h2, h3⟩ := h
  refine ⟨by omega, h2, fun j hj hn hb => ?_⟩
  by_cases e : j = i
  · rw [e]; unfold Rk; omega
  · exact h3 j (by omega) hn hb

/-! ### rests -/
def restL : List Int → List Int
  | [] => [0]
  | v :: r => (v + (restL r).headD 0) :: restL r
theorem restL_len : ∀ vs : List Int, (restL vs).length = vs.length + 1
  | [] => rfl
  | v :: r => by simp [restL, restL_len r]
def ranked (ws : List Int) : List Int := (rankL ws).map (wAt ws)
theorem ranked_len (ws : List Int) : (ranked ws).length = ws.length := by simp [ranked, rank_len]
theorem ranked_perm (ws : List Int) : (ranked ws).Perm ws := by
  have h := (rank_perm ws).map (wAt ws)
  have e : (List.range ws.length).map (wAt ws) = ws := by
    refine List.ext_getElem (by simp) fun i h1 h2 => ?_
    simp [wAt, List.getD_eq_getElem?_getD, h2]
  rw [e] at h
  exact h
theorem ranked_desc (ws : List Int) : (ranked ws).Pairwise (fun a b => b ≤ a) := by
  unfold ranked
  refine List.pairwise_map.mpr ((rank_is ws).pw.imp fun {a b} h => ?_)
  unfold Rk at h
  omega
theorem sorted_uniq : ∀ (a b : List Int), a.Pairwise (· ≤ ·) → b.Pairwise (· ≤ ·) → a.Perm b → a = b
  | [], b, _, _, h => (List.Perm.nil_eq h)
  | x :: a, [], _, _, h => absurd h.length_eq (by simp)
  | x :: a, y :: b, ha, hb, h => by
    have ha' := List.pairwise_cons.mp ha
    have hb' := List.pairwise_cons.mp hb
    have e : x = y := by
      have h1 : x ≤ y := by
        rcases List.mem_cons.mp (h.mem_iff.mpr (List.mem_cons_self (a := y) (l := b))) with e | e
        · omega
        · exact ha'.1 y e
      have h2 : y ≤ x := by
        rcases List.mem_cons.mp (h.mem_iff.mp (List.mem_cons_self (a := x) (l := a))) with e | e
        · omega
        · exact hb'.1 x e
      omega
    subst e
    rw [sorted_uniq a b ha'.2 hb'.2 h.cons_inv]
theorem asc_is {ws asc : List Int} (h : asc.Perm ws) (hs : asc.Pairwise (· ≤ ·)) : asc = (ranked ws).reverse := by
  refine sorted_uniq _ _ hs (List.pairwise_reverse.mpr (ranked_desc ws)) ?_
  exact h.trans ((ranked_perm ws).symm.trans (List.reverse_perm _).symm)
/-- sums of the beginnings -/
def pre : List Int → List Int
  | [] => [0]
  | v :: r => 0 :: (pre r).map (v + ·)
def sumsA : List Int → List Int → List Int := fun acc vs => vs.foldl (fun acc v => acc ++ [acc.getLastD 0 + v]) acc
theorem restL_snoc : ∀ (vs : List Int), ∀ l, l = vs.reverse → ∀ v, restL (v :: vs) = (v + (restL vs).headD 0) :: restL vs := fun _ _ _ _ => rfl
/-! ### the choices -/
abbrev Nxt := Option (Int × Int × Int)
def chOne (sums : List Int) (limit depth m k : Int) (a : Nat) : Option (Int × Int × Nxt) :=
  let n : Int := (sums.length : Int) - 1
  let ok : Bool := if depth = limit then decide ((a : Int) = n - m) else (decide (0 < depth) || decide ((a : Int) = 0))
  if ok && decide (m + a = n) then some (a, 0, none)
  else if ok && decide ((a : Int) < k) then some (a, sums.getD (m + a).toNat 0, some (depth + 1, m + a, if n - m - a < 2 * (k - a) then n - m - a else 2 * (k - a)))
  else none
def chN (sums : List Int) (m k : Int) : Nat := ((if (sums.length : Int) - 1 - m < k then (sums.length : Int) - 1 - m else k) + 1).toNat
def chL (sums : List Int) (limit depth m k : Int) : List (Int × Int × Nxt) := (List.range (chN sums m k)).filterMap (chOne sums limit depth m k)
end M03
set_option Elab.async false
set_option linter.all false
set_option maxRecDepth 100000
set_option maxHeartbeats 4000000
namespace K05
open PySem PySem.Spec PyProof.Rows L2 GX KC Evl M03
section
variable {P : Program} {w : World} {K : PySem.W.Frag} {mg : Str → Option Value} {base : Heap}
def nats (ks : List Nat) : List V := ks.map fun (k : Nat) => V.int (k : Int)
theorem nats_app (a b : List Nat) : nats (a ++ b) = nats a ++ nats b := List.map_append
theorem nats_len (a : List Nat) : (nats a).length = a.length := List.length_map _
theorem nats_flat (a : List Nat) : (nats a).all flatV = true := by
  rw [List.all_eq_true]
  intro x hx
  obtain ⟨k, _, e⟩ := List.mem_map.mp hx
  rw [← e]
  rfl
theorem nats_in (i : Nat) (a : List Nat) : inV (.int (i : Int)) (nats a) = decide (i ∈ a) := by
  induction a with
  | nil => rfl
  | cons k r ih =>
    have e : inV (.int (i : Int)) (nats (k :: r)) = (eqV (.int (k : Int)) (.int (i : Int)) || inV (.int (i : Int)) (nats r)) := rfl
    rw [e, ih]
    have e2 : eqV (.int (k : Int)) (.int (i : Int)) = decide (k = i) := by
      by_cases h : k = i
      · subst h
        rw [decide_eq_true rfl]
        simp [eqV]
      · rw [decide_eq_false h]
        simp [eqV]
        omega
    rw [e2]
    by_cases h : k = i
    · simp [h]
    · have h' : ¬ i = k := fun z => h z.symm
      simp [h, h']
def oV : Option Nat → V
  | none => .non
  | some b => .int (b : Int)
def spRanks (K : PySem.W.Frag) : Sp := fun vs H Q _ => ∃ (l : Addr) (ws : List Int), vs = [.ref l] ∧ SqL K H l (ws.map V.int) ∧ ws.length ≤ 64 ∧ RetL (nats (rankL ws)) H Q
theorem rv_notIn {p : Addr} {i : Nat} {ord : List Nat} {H : Hp} (h : SqL K H p (nats ord)) : RV (rIn K true) (.int (i : Int)) (.ref p) H (.bl (!decide (i ∈ ord))) := by
  have q := rv_niL (x := .int (i : Int)) h rfl (nats_flat ord)
  rw [nats_in] at q
  exact q
theorem ok_law_ranks {f : Addr} {fd : FuncData} {k : Nat} (F : Fun K "_law_ranks" "_law_ranks" s_law_ranks f fd) (B : Bs mg) : FnOk P w K mg base CX0 (k + 1) f fd ["weights"] (spRanks K) := by
  refine F.ok sc_law_ranks (fun vs H Q E h => ?_) (fun cdv A outer s H vs Q E hr h => ?_)
  · obtain ⟨l, ws, rfl, _⟩ := h
    rfl
  · obtain ⟨l, ws, rfl, hs, hn, q⟩ := h
    refine ⟨_, (pss_cons (ps_set (i := 1) sc_law_ranks.nd rfl (Or.inl rfl) (pe_lst pa_nil))
      (pss_cons (ps_for PassesOwn.never rfl (pi_range1 (by rfl) B.range (pa_cons (pe_callB call_len_seq (by rfl) B.len PySem.boot_len (pa_cons (pv 0) pa_nil)) pa_nil)) (pg_name (i := 2) sc_law_ranks.nd rfl (Or.inl rfl)) (pss_cons (ps_set (i := 3) sc_law_ranks.nd rfl (Or.inl rfl) pe_non)
      (pss_cons (ps_for PassesOwn.never rfl (pi_range1 (by rfl) B.range (pa_cons (pe_callB call_len_seq (by rfl) B.len PySem.boot_len (pa_cons (pv 0) pa_nil)) pa_nil)) (pg_name (i := 4) sc_law_ranks.nd rfl (Or.inl rfl)) (pss_one (ps_if (PW.pt (pw_and (pt_cmpR op_notIn_seq (pv 4) (pv 1) (by rfl)) (pw_and1 (PW.pt (pw_or (pt_cmpR op_isN (pv 3) pe_non (nomark _)) (pw_or1 (pt_cmpR op_gt (pe_ix ix_list (pv 0) (pv 4) (fun _ _ => rfl)) (pe_ix ix_list (pv 0) (pv 3) (fun _ _ => rfl)) (nomark _)))))))) (pss_one (ps_set (i := 3) sc_law_ranks.nd rfl (Or.inl rfl) (pv 4))) pss_nil)))
      (pss_one (ps_expr (pe_bm PySem.F.plainAttrs_list PySem.F.slot_list_append PySem.F.type_list_append mt_append (pv 1) (pa_cons (pv 3) pa_nil)))))))
      (pss_one (ps_ret (pv 1))))), ?_⟩
    refine q_asgL (el_lst ea_nil (by decide)) fun p H1 hp e1 h1 => ?_
    have hlen : ((ws.map V.int).length : Int) = (ws.length : Int) := by rw [List.length_map]
    refine q_forR1 (n := ((ws.map V.int).length : Int)) (ea1 (ev_len (ev_var rfl) (ex_l e1 hs))) ⟨by omega, by omega⟩
      (fun i σ H' => ∃ (ord : List Nat) (a b c : Option V), σ = [some (.ref l), some (.ref p), a, b, c] ∧ Ex H H' ∧ H' p = some (.lst (nats ord)) ∧ Part ws ord ∧ ord.length = i)
      (fun H2 e2 => ⟨[], none, none, none, rfl, e1.trans e2, e2 p _ h1, Part.nil ws, rfl⟩) ?_ ?_
    · rintro i σ H' hi ⟨ord, a, b, c, rfl, eh, hl, pt, rfl⟩
      refine q_asg ev_c fun H2 e2 => ?_
      refine q_forR1 (n := ((ws.map V.int).length : Int)) (ea1 (ev_len (ev_var rfl) (ex_l (eh.trans e2) hs))) ⟨by omega, by omega⟩
        (fun j σ H3 => ∃ (o : Option Nat) (c : Option V), σ = [some (.ref l), some (.ref p), some (.int (ord.length : Int)), some (oV o), c] ∧ Ex H H3 ∧ H3 p = some (.lst (nats ord)) ∧ Best ws ord j o)
        (fun H3 e3 => ⟨none, c, rfl, (eh.trans e2).trans e3, e3 p _ (e2 p _ hl), Best.zero ws ord⟩) ?_ ?_
      · rintro j σ H3 hj ⟨o, c, rfl, eh3, hl3, hb⟩
        have hs3 := ex_l eh3 hs
        have hj' : j < ws.length := by omega
        have ho : ∀ b, o = some b → b < ws.length := fun b e => by
          subst e
          have := hb.1
          omega
        refine s_ifAsg (v := oV (if j ∉ ord ∧ (o = none ∨ ∃ b, o = some b ∧ wAt ws b < wAt ws j) then some j else o)) (b := (!decide (j ∈ ord)) && (decide (o = none) || decide (wAt ws (o.getD 0) < wAt ws j)))
          (et_and (et_test (ev_op (ev_var rfl) (ev_var rfl) (rv_notIn (.inl (.inl hl3))))) fun _ => et_or (et_is (et_test (ev_op (ev_var rfl) ev_c (rv_val (z := .bl (decide (o = none))) fun H1 _ Q q => ⟨rfl, ?_⟩))) rfl) fun hz => et_test (ev_op (ev_op (ev_var rfl) (ev_var rfl) (rv_ixL hs3 (atI_at rfl hj'))) (ev_op (ev_var rfl) (ev_var rfl) (rv_val fun H1 e _ q => ?_)) rv_I0)) (fun hb' => ?_) (fun hb' => ?_) fun H4 e4 => ?_
        · cases o <;> exact q
        · cases o with
          | none => cases hz
          | some b =>
            exact ⟨l, _, _, _, rfl, rfl, ex_l e hs3, atI_at rfl (ho b rfl), q⟩
        · rw [if_pos ?_]
          · exact ev_var rfl
          · simp only [Bool.and_eq_true, Bool.or_eq_true, Bool.not_eq_true', decide_eq_false_iff_not, decide_eq_true_eq] at hb'
            refine ⟨hb'.1, ?_⟩
            cases o with
            | none => exact .inl rfl
            | some b =>
              rcases hb'.2 with z | z
              · cases z
              · exact .inr ⟨b, rfl, z⟩
        · rw [if_neg ?_]
          · rfl
          · rintro ⟨h1, h2⟩
            rw [decide_eq_false h1] at hb'
            rcases h2 with rfl | ⟨b, rfl, h2⟩
            · cases hb'
            · rw [show (some b).getD 0 = b from rfl, decide_eq_true h2] at hb'
              cases hb'
        · refine ⟨_, _, rfl, eh3.trans e4, e4 p _ hl3, ?_⟩
          by_cases hm : j ∈ ord
          · rw [if_neg (fun z => z.1 hm)]
            exact hb.skip hm
          · cases o with
            | none =>
              rw [if_pos ⟨hm, .inl rfl⟩]
              exact hb.first hm
            | some b =>
              by_cases hw : wAt ws b < wAt ws j
              · rw [if_pos ⟨hm, .inr ⟨b, rfl, hw⟩⟩]
                exact hb.take hm hw
              · rw [if_neg (fun z => by
                  rcases z.2 with z | ⟨b', e, z⟩
                  · cases z
                  · cases e; exact hw z)]
                exact hb.keep hw
      · rintro σ H3 ⟨o, c, rfl, eh3, hl3, hb⟩
        have hz : ((ws.map V.int).length : Int).toNat = ws.length := by omega
        rw [hz] at hb
        obtain ⟨b, rfl⟩ := pt.some (by omega) hb
        refine s_app hl3 (ev_var rfl) (ev_var rfl) (by rw [nats_len]; omega) fun H4 e4 => ?_
        refine ⟨ord ++ [b], _, _, _, rfl, Ex.mut (eh3.trans e4) hp, ?_, pt.add hb, by simp⟩
        rw [upd_same, nats_app]
        rfl
    · rintro σ H' ⟨ord, a, b, c, rfl, eh, hl, pt, hlen2⟩
      have hz : ((ws.map V.int).length : Int).toNat = ws.length := by omega
      rw [hz] at hlen2
      rw [pt.whole hlen2] at hl
      exact s_ret (ev_var rfl) fun H2 e2 => q p H2 hp (eh.trans e2) (e2 p _ hl)
end
end K05
set_option linter.all false
namespace M03
def llimAt (many : Nat) : Nat → Nat
  | 0 => 1
  | i + 1 => if 2 ^ llimAt many i < many then llimAt many i + 1 else llimAt many i
theorem llimAt_le (many : Nat) : ∀ i, 1 ≤ llimAt many i ∧ llimAt many i ≤ i + 1
  | 0 => ⟨Nat.le_refl _, Nat.le_refl _⟩
  | i + 1 => by
    have h := llimAt_le many i
    unfold llimAt
    split <;> omega
def llim (many : Nat) : Nat := llimAt many 6
def sumsL (ws : List Int) : List Int := restL (ranked ws)
theorem restL_get0 (vs : List Int) : (restL vs).getD 0 0 = (restL vs).headD 0 := by
  cases vs <;> rfl
theorem sumsL_len (ws : List Int) : (sumsL ws).length = ws.length + 1 := by rw [sumsL, restL_len, ranked_len]
theorem drop_step {vs : List Int} {i : Nat} (h : i < vs.length) : restL (vs.drop i) = (vs.getD i 0 + (restL (vs.drop (i + 1))).headD 0) :: restL (vs.drop (i + 1)) := by
  rw [List.drop_eq_getElem_cons h]
  show (vs[i] + _) :: _ = _
  rw [List.getD_eq_getElem?_getD, List.getElem?_eq_getElem h]
  rfl
theorem ranked_at {ws : List Int} {i : Nat} (h : i < ws.length) : (ranked ws).getD i 0 = wAt ws ((rankL ws).getD i 0) := by
  have h1 : i < (rankL ws).length := by rw [rank_len]; exact h
  unfold ranked
  rw [List.getD_eq_getElem?_getD, List.getElem?_map, List.getD_eq_getElem?_getD, List.getElem?_eq_getElem h1]
  rfl
/-- the sums grow from the least weight on -/
theorem asc_step (vs : List Int) (i : Nat) (h : i < vs.length) : (restL (vs.reverse.drop (vs.length - (i + 1)))).reverse = (restL (vs.reverse.drop (vs.length - i))).reverse ++ [((restL (vs.reverse.drop (vs.length - i))).reverse).getLastD 0 + vs.getD i 0] := by
  have h1 : vs.length - (i + 1) < vs.reverse.length := by rw [List.length_reverse]; omega
  have e1 := drop_step h1
  have e2 : vs.length - (i + 1) + 1 = vs.length - i := by omega
  rw [e2] at e1
  rw [e1, List.reverse_cons]
  congr 1
  have e3 : vs.reverse.getD (vs.length - (i + 1)) 0 = vs.getD i 0 := by
    rw [List.getD_eq_getElem?_getD, List.getD_eq_getElem?_getD, List.getElem?_reverse (by omega)]
    congr 2
    omega
  rw [e3]
  generalize restL (vs.reverse.drop (vs.length - i)) = L
  have e4 : L.reverse.getLastD 0 = L.headD 0 := by
    cases L <;> simp
  rw [e4, Int.add_comm]
/-- what the program counts at a stage -/
def wc (limit depth free left : Int) : List Int :=
  if depth = 0 then [0] else if limit ≤ depth then (if left ≤ free then [left] else []) else (List.range ((if left < free then left else free) + 1).toNat).map fun (i : Nat) => (i : Int)
def chOf (sums : List Int) (depth m free : Int) (a : Int) : Option (Int × Int × Nxt) :=
  let left : Int := (sums.length : Int) - 1 - m
  if a = left then some (a, 0, none)
  else if a ≠ free then some (a, sums.getD (m + a).toNat 0, some (depth + 1, m + a, if left - a < 2 * (free - a) then left - a else 2 * (free - a)))
  else none
def chP (sums : List Int) (limit depth m free : Int) : List (Int × Int × Nxt) := (wc limit depth free ((sums.length : Int) - 1 - m)).filterMap (chOf sums depth m free)
/-- a stage -/
structure StOk (sums : List Int) (limit depth m k : Int) : Prop where
  l : 1 ≤ limit
  d : 0 ≤ depth ∧ depth ≤ limit
  m : 0 ≤ m ∧ m < (sums.length : Int) - 1
  k : 1 ≤ k
theorem filterMap_single {α β : Type} (f : α → Option β) (l : List α) (a : α) (hm : a ∈ l) (hn : l.Nodup) (h : ∀ b ∈ l, b ≠ a → f b = none) : l.filterMap f = (f a).toList := by
  induction l with
  | nil => simp at hm
  | cons x r ih =>
    have hn' := List.nodup_cons.mp hn
    by_cases e : x = a
    · subst e
      have h2 : r.filterMap f = [] := by
        rw [List.filterMap_eq_nil_iff]
        intro b hb
        exact h b (List.mem_cons_of_mem _ hb) fun z => hn'.1 (by rw [← z]; exact hb)
      rw [List.filterMap_cons, h2]
      cases f x <;> rfl
    · have hm' : a ∈ r := by
        rcases List.mem_cons.mp hm with z | z
        · exact absurd z.symm e
        · exact z
      rw [List.filterMap_cons, h x List.mem_cons_self e, ih hm' hn'.2 fun b hb => h b (List.mem_cons_of_mem _ hb)]
theorem fm_congr {α β : Type} {f g : α → Option β} : ∀ {l : List α}, (∀ a ∈ l, f a = g a) → l.filterMap f = l.filterMap g
  | [], _ => rfl
  | x :: r, h => by
    rw [List.filterMap_cons, List.filterMap_cons, h x List.mem_cons_self, fm_congr fun a ha => h a (List.mem_cons_of_mem _ ha)]
theorem ch_same {sums : List Int} {limit depth m k : Int} (h : StOk sums limit depth m k) : chP sums limit depth m k = chL sums limit depth m k := by
  obtain ⟨hl, hd, hm, hk⟩ := h
  unfold chP chL
  generalize hn : (sums.length : Int) - 1 = n at *
  have hN : chN sums m k = ((if n - m < k then n - m else k) + 1).toNat := by unfold chN; rw [hn]
  have one : ∀ a : Nat, chOne sums limit depth m k a = if (if depth = limit then decide ((a : Int) = n - m) else (decide (0 < depth) || decide ((a : Int) = 0))) && decide (m + a = n) then some ((a : Int), 0, none)
      else if (if depth = limit then decide ((a : Int) = n - m) else (decide (0 < depth) || decide ((a : Int) = 0))) && decide ((a : Int) < k) then some ((a : Int), sums.getD (m + a).toNat 0, some (depth + 1, m + a, if n - m - a < 2 * (k - a) then n - m - a else 2 * (k - a))) else none := fun a => by
    unfold chOne; rw [hn]
  have two : ∀ a : Int, chOf sums depth m k a = if a = n - m then some (a, 0, none) else if a ≠ k then some (a, sums.getD (m + a).toNat 0, some (depth + 1, m + a, if n - m - a < 2 * (k - a) then n - m - a else 2 * (k - a))) else none := fun a => by
    unfold chOf; rw [hn]
  unfold wc
  by_cases h0 : depth = 0
  · rw [if_pos h0]
    have hdl : depth ≠ limit := by omega
    rw [filterMap_single (chOne sums limit depth m k) (List.range (chN sums m k)) 0 (List.mem_range.mpr (by rw [hN]; split <;> omega)) List.nodup_range fun b hb hb0 => ?_]
    · have e3 : chOf sums depth m k 0 = chOne sums limit depth m k 0 := by
        rw [one, two]
        rw [if_neg (by omega : ¬ ((0 : Int) = n - m)), if_pos (by omega : (0 : Int) ≠ k), if_neg hdl]
        have a1 : (((decide (0 < depth) || decide (((0 : Nat) : Int) = 0)) && decide (m + ((0 : Nat) : Int) = n)) = true) = False := by
          simp only [Bool.and_eq_true, decide_eq_true_eq, eq_iff_iff, iff_false]
          omega
        have a2 : (((decide (0 < depth) || decide (((0 : Nat) : Int) = 0)) && decide (((0 : Nat) : Int) < k)) = true) = True := by
          simp only [Bool.and_eq_true, Bool.or_eq_true, decide_eq_true_eq, eq_iff_iff, iff_true]
          omega
        simp only [a1, a2, if_false, if_true]
        rfl
      rw [List.filterMap_cons, e3]
      cases chOne sums limit depth m k 0 <;> rfl
    · rw [one]
      have e2 : ((b : Int) = 0) = False := by
        rw [eq_iff_iff, iff_false]; omega
      have e3 : (0 < depth) = False := by
        rw [eq_iff_iff, iff_false]; omega
      simp only [hdl, if_false, e2, e3, decide_false, Bool.or_false, Bool.false_and, Bool.false_eq_true]
  · rw [if_neg h0]
    by_cases h1 : limit ≤ depth
    · have hdl : depth = limit := by omega
      subst hdl
      rw [if_pos h1]
      by_cases h2 : n - m ≤ k
      · rw [if_pos h2, filterMap_single (chOne sums depth depth m k) (List.range (chN sums m k)) (n - m).toNat (List.mem_range.mpr (by rw [hN]; split <;> omega)) List.nodup_range fun b hb hb0 => ?_]
        · have e1 : (((n - m).toNat : Nat) : Int) = n - m := by omega
          rw [one, e1]
          have e2 : m + (n - m) = n := by omega
          simp [e2, two]
        · rw [one]
          have e1 : ¬ ((b : Int) = n - m) := by omega
          simp [e1]
      · rw [if_neg h2, List.filterMap_nil]
        symm
        rw [List.filterMap_eq_nil_iff]
        intro b hb
        have hb' := List.mem_range.mp hb
        rw [hN] at hb'
        rw [if_neg (by omega)] at hb'
        rw [one]
        have e1 : ¬ ((b : Int) = n - m) := by omega
        simp [e1]
    · rw [if_neg h1, hN, List.filterMap_map]
      have hdl : depth ≠ limit := by omega
      have hd0 : 0 < depth := by omega
      refine fm_congr fun b hb => ?_
      have hb' := List.mem_range.mp hb
      have hb2 : (b : Int) ≤ k := by
        by_cases q : n - m < k
        · rw [if_pos q] at hb'; omega
        · rw [if_neg q] at hb'; omega
      have hb3 : (b : Int) ≤ n - m := by
        by_cases q : n - m < k
        · rw [if_pos q] at hb'; omega
        · rw [if_neg q] at hb'; omega
      show chOf sums depth m k (b : Int) = _
      rw [one, two]
      simp only [hdl, if_false, hd0, decide_true, Bool.true_or, Bool.true_and, decide_eq_true_eq]
      by_cases q1 : (b : Int) = n - m
      · rw [if_pos q1, if_pos (by omega)]
      · rw [if_neg q1]
        have e5 : ¬ (m + (b : Int) = n) := by omega
        rw [if_neg e5]
        by_cases q2 : (b : Int) = k
        · have e6 : ¬ ((b : Int) < k) := by omega
          simp [q2]
        · have e6 : (b : Int) < k := by omega
          simp [q2, e6]
end M03
set_option Elab.async false
set_option linter.all false
set_option maxRecDepth 100000
set_option maxHeartbeats 4000000
namespace K05
open PySem PySem.Spec PyProof.Rows L2 GX KC Evl M03
section
variable {P : Program} {w : World} {K : PySem.W.Frag} {mg : Str → Option Value} {base : Heap}
/-! the least limit -/
def spLim : Sp := fun vs H Q _ => ∃ n : Nat, vs = [.int (n : Int)] ∧ ∀ H2, Ex H H2 → Q (.int (llim n : Nat)) H2
theorem llimAt_lt (n : Nat) : ∀ i, i ≤ 6 → (llimAt n i : Nat) ≤ 7 := fun i hi => by
  have := (llimAt_le n i).2
  omega
theorem ok_law_least_limit {f : Addr} {fd : FuncData} {k : Nat} (F : Fun K "_law_least_limit" "_law_least_limit" s_law_least_limit f fd) (B : Bs mg) : FnOk P w K mg base CX0 (k + 1) f fd ["many"] spLim := by
  refine F.ok sc_law_least_limit (fun vs H Q E h => ?_) (fun cdv A outer s H vs Q E hr h => ?_)
  · obtain ⟨n, rfl, _⟩ := h
    rfl
  · obtain ⟨n, rfl, q⟩ := h
    refine ⟨_, (pss_cons (ps_set (i := 1) sc_law_least_limit.nd rfl (Or.inl rfl) pe_int)
      (pss_cons (ps_for PassesOwn.never rfl (pi_range1 (by rfl) B.range (pa_cons pe_int pa_nil)) (pg_name (i := 2) sc_law_least_limit.nd rfl (Or.inl rfl)) (pss_one (ps_if (pt_cmpR op_lt (pe_op op_shl pe_int (pv 1)) (pv 0) (nomark _)) (pss_one (ps_set (i := 1) sc_law_least_limit.nd rfl (Or.inl rfl) (pe_op op_add (pv 1) pe_int))) pss_nil)))
      (pss_one (ps_ret (pv 1))))), ?_⟩
    refine q_asg ev_c fun H1 e1 => ?_
    refine q_forR1 (n := 6) (ea1 ev_c) ⟨by decide, by decide⟩
      (fun i σ H' => ∃ a, σ = [some (.int (n : Int)), some (.int (llimAt n i : Nat)), a] ∧ Ex H H')
      (fun H2 e2 => ⟨none, rfl, e1.trans e2⟩) ?_ ?_
    · rintro i σ H' hi ⟨a, rfl, eh⟩
      have hb := llimAt_le n i
      refine s_ifAsg (v := .int (llimAt n (i + 1) : Nat)) (b := decide ((2 : Int) ^ (llimAt n i) < (n : Int))) (et_is (et_test (ev_op (ev_op ev_c (ev_var rfl) (rv_shl ⟨by omega, by omega, by decide⟩)) (ev_var rfl) rv_I0)) ?_) (fun hb' => ?_) (fun hb' => ?_) fun H4 e4 => ?_
      · rw [Int.one_mul, Int.toNat_natCast]
      · have h2 := of_decide_eq_true hb'
        have h3 : 2 ^ llimAt n i < n := by exact_mod_cast h2
        have e : llimAt n (i + 1) = llimAt n i + 1 := by
          rw [llimAt, if_pos h3]
        rw [e, Int.natCast_add]
        exact ev_add (ev_var rfl) ev_c
      · have h2 := of_decide_eq_false hb'
        have h3 : ¬ 2 ^ llimAt n i < n := by intro h; apply h2; exact_mod_cast h
        have e : llimAt n (i + 1) = llimAt n i := by
          rw [llimAt, if_neg h3]
        rw [e]
        rfl
      · exact ⟨_, rfl, eh.trans e4⟩
    · rintro σ H' ⟨a, rfl, eh⟩
      exact s_ret (ev_var rfl) fun H2 e2 => q H2 (eh.trans e2)
/-! the sums -/
def spSums (K : PySem.W.Frag) : Sp := fun vs H Q _ => ∃ (l : Addr) (ws : List Int), vs = [.ref l] ∧ SqL K H l (ws.map V.int) ∧ ws.length ≤ 64 ∧ RetL ((sumsL ws).map V.int) H Q
theorem sp_ranks {H : Hp} {l : Addr} {ws : List Int} (hs : SqL K H l (ws.map V.int)) (hn : ws.length ≤ 64) : SpL (spRanks K) ([.ref l] ++ []) H (nats (rankL ws)) := fun H1 e1 Q q E =>
  ⟨l, ws, rfl, ex_l e1 hs, hn, fun p H2 hp e2 h2 => q p H2 hp e2 h2⟩
theorem nats_at {a : List Nat} {i : Nat} {z : Int} (e : z = (i : Int)) (h : i < a.length) : atI (nats a) z = some (.int (a.getD i 0 : Nat)) := by
  refine at_of e ?_
  unfold nats
  rw [List.getElem?_map, List.getElem?_eq_getElem h, List.getD_eq_getElem?_getD, List.getElem?_eq_getElem h]
  rfl
/-! a stage's choices -/
def nxD : Nxt → PyData
  | none => .none
  | some (d, m, k) => .tuple [.int d, .int m, .int k]
def chD : Int × Int × Nxt → PyData
  | (a, c, n) => .tuple [.int a, .int c, nxD n]
theorem chD_noList (x : Int × Int × Nxt) : noList (chD x) = true := by
  obtain ⟨a, c, n⟩ := x
  cases n <;> rfl
def chsD (xs : List (Int × Int × Nxt)) : List PyData := xs.map chD
structure StIn (K : PySem.W.Frag) (sums : List Int) (l t : Addr) (limit depth m k : Int) (H : Hp) : Prop where
  sq : SqL K H l (sums.map V.int)
  st : SqT K H t [.int depth, .int m, .int k]
  ok : StOk sums limit depth m k
  len : sums.length ≤ 1000
  kk : k ≤ 1000
def spCh (K : PySem.W.Frag) (g : List Int → Int → Int → Int → Int → List (Int × Int × Nxt)) : Sp := fun vs H Q _ => ∃ (l t : Addr) (sums : List Int) (limit depth m k : Int), vs = [.ref l, .int limit, .ref t] ∧ StIn K sums l t limit depth m k H ∧ RetLD K (chsD (g sums limit depth m k)) H Q
theorem q_unp {σ : L2.St} {H : Hp} {te : TE} {D : Ends} {tz : TS} {n : Nat} {t : TGs} {a : Addr} {xs : List V} (h : Ev te σ H (.ref a)) (hx : SqT K H a xs) (hl : xs.length = n) (k : ∀ H1, Ex H H1 → t xs σ H1 (tz D)) : tSeq (tAsg te (gTup K n t)) tz D σ H :=
  h H (Ex.refl H) _ fun H1 e1 => ⟨a, xs, rfl, ex_t e1 hx, hl, k H1 e1⟩
theorem dp_app {H : Hp} {p : Addr} {vs : List V} {ds : List PyData} {v : V} {d : PyData} (hl : H p = some (.lst vs)) (hd : DpAll K H vs ds) (hv : Dp K H v d) (hn : noListAll ds = true) (hn2 : noList d = true) : DpAll K (upd H p (.lst (vs ++ [v]))) (vs ++ [v]) (ds ++ [d]) :=
  DpAll.app (DpAll.put hl ds vs hn hd) (Dp.put hl d v hn2 hv)
theorem fm_succ {α : Type} (f : Nat → Option α) (i : Nat) : (List.range (i + 1)).filterMap f = (List.range i).filterMap f ++ (f i).toList := by
  rw [List.range_succ, List.filterMap_append, List.filterMap_cons, List.filterMap_nil]
  cases f i <;> rfl
theorem chsD_noList (xs : List (Int × Int × Nxt)) : noListAll (chsD xs) = true := noListAll_map chD_noList xs
theorem fm_len {α β : Type} (f : α → Option β) (l : List α) : (l.filterMap f).length ≤ l.length := List.length_filterMap_le f l
end
end K05
set_option Elab.async false
set_option linter.all false
set_option maxRecDepth 100000
set_option maxHeartbeats 4000000
namespace K05
open PySem PySem.Spec PyProof.Rows L2 GX KC Evl M03
section
variable {P : Program} {w : World} {K : PySem.W.Frag} {mg : Str → Option Value} {base : Heap}
def spWc : Sp := fun vs H Q _ => ∃ (limit depth free left : Int), vs = [.int limit, .int depth, .int free, .int left] ∧ 0 ≤ left ∧ left ≤ 1000 ∧ 0 ≤ free ∧ RetL ((wc limit depth free left).map V.int) H Q
theorem el_rg1 {σ : L2.St} {H : Hp} {ta : TE} {n : Int} (h : Ev ta σ H (.int n)) (hn : 0 ≤ n ∧ n ≤ 100000) : EvL (tLstRg (tRg1 ta)) σ H (((List.range n.toNat).map fun (i : Nat) => (i : Int)).map V.int) := fun H1 e Q q =>
  h H1 e _ fun H2 e2 => ⟨n, rfl, RgOk.of_le (by omega) (by omega) (by omega) (by omega), fun p hp => by
    refine q p _ (fresh_back e2 hp) (e2.trans (Ex.new hp)) ?_
    rw [upd_same]
    congr 2
    unfold rgV
    rw [List.map_map, Int.sub_zero]
    refine List.map_congr_left fun i _ => ?_
    show V.int (0 + (i : Int)) = V.int (i : Int)
    rw [Int.zero_add]⟩
theorem ok_word_counts {f : Addr} {fd : FuncData} {k : Nat} (F : Fun K "word_counts" "word_counts" s_word_counts f fd) (B : Bs mg) : FnOk P w K mg base CX0 (k + 1) f fd ["limit", "depth", "free", "left"] spWc := by
  refine F.ok sc_word_counts (fun vs H Q E h => ?_) (fun cdv A outer s H vs Q E hr h => ?_)
  · obtain ⟨a, b, c, d, rfl, _⟩ := h
    rfl
  · obtain ⟨limit, depth, free, left, rfl, h1, h2, h3, q⟩ := h
    refine ⟨_, (pss_cons (ps_if (pt_cmpR op_eq (pv 1) pe_int (nomark _)) (pss_one (ps_ret (pe_lst (pa_cons pe_int pa_nil)))) pss_nil)
      (pss_cons (ps_if (pt_cmpR op_ge (pv 1) (pv 0) (nomark _)) (pss_one (ps_ret (pe_ifExp (pt_cmpR op_le (pv 3) (pv 2) (nomark _)) (pe_lst (pa_cons (pv 3) pa_nil)) (pe_lst pa_nil)))) pss_nil)
      (pss_one (ps_ret (pe_listRg rfl (by rfl) B.list (prg_1 (by rfl) B.range (pe_op op_add (pe_callB (call_min2 rfl) (by rfl) B.min (by decide +kernel) (pa_cons (pv 2) (pa_cons (pv 3) pa_nil))) pe_int))))))), ?_⟩
    unfold wc at q
    refine q_when (et_test (ev_eq (ev_var rfl) ev_c)) (fun hb H1 e1 => ?_) (fun hb H1 e1 => ?_)
    · rw [if_pos (of_decide_eq_true hb)] at q
      exact s_retL (el_lst (ea1 ev_c) (by decide)) fun p H2 hp e2 h2 => q p H2 (fresh_back e1 hp) (e1.trans e2) h2
    · rw [if_neg (of_decide_eq_false hb)] at q
      refine q_when (et_test (ev_op (ev_var rfl) (ev_var rfl) rv_I0)) (fun hb H2 e2 => ?_) (fun hb H2 e2 => ?_)
      · rw [if_pos (of_decide_eq_true hb)] at q
        by_cases hl : left ≤ free
        · rw [if_pos hl] at q
          exact s_retL (el_if (b := true) (et_is (et_test (ev_op (ev_var rfl) (ev_var rfl) rv_I0)) (decide_eq_true hl)) (fun _ => el_lst (ea1 (ev_var rfl)) (by show 1 ≤ 100000; decide)) (fun z => by cases z)) fun p H3 hp e3 h3 => q p H3 (fresh_back (e1.trans e2) hp) ((e1.trans e2).trans e3) h3
        · rw [if_neg hl] at q
          exact s_retL (el_if (b := false) (et_is (et_test (ev_op (ev_var rfl) (ev_var rfl) rv_I0)) (decide_eq_false hl)) (fun z => by cases z) (fun _ => el_lst ea_nil (by decide))) fun p H3 hp e3 h3 => q p H3 (fresh_back (e1.trans e2) hp) ((e1.trans e2).trans e3) h3
      · rw [if_neg (of_decide_eq_false hb)] at q
        exact s_retL (el_rg1 (ev_add (ev_min (ev_var rfl) (ev_var rfl)) ev_c) ⟨by split <;> omega, by split <;> omega⟩) fun p H3 hp e3 h3 => q p H3 (fresh_back (e1.trans e2) hp) ((e1.trans e2).trans e3) h3
theorem wc_mem {limit depth free left a : Int} (h0 : 0 ≤ left) (h : a ∈ wc limit depth free left) : 0 ≤ a ∧ a ≤ left := by
  unfold wc at h
  split at h
  · rw [List.mem_singleton] at h; omega
  · split at h
    · split at h
      · rw [List.mem_singleton] at h; omega
      · simp at h
    · obtain ⟨i, hi, rfl⟩ := List.mem_map.mp h
      have := List.mem_range.mp hi
      split at this <;> omega
theorem wc_len {limit depth free left : Int} (h2 : left ≤ 1000) : (wc limit depth free left).length ≤ 1001 := by
  unfold wc
  split
  · decide
  · split
    · split <;> simp
    · rw [List.length_map, List.length_range]
      split <;> omega
theorem fm_take {α β : Type} (f : α → Option β) (l : List α) {i : Nat} {x : α} (h : l[i]? = some x) : (l.take (i + 1)).filterMap f = (l.take i).filterMap f ++ (f x).toList := by
  rw [List.take_succ, h, List.filterMap_append]
  show _ ++ [x].filterMap f = _
  rw [List.filterMap_cons, List.filterMap_nil]
  cases f x <;> rfl
theorem ok_stage_choices {f : Addr} {fd : FuncData} {k : Nat} (F : Fun K "stage_choices" "stage_choices" s_stage_choices f fd) (B : Bs mg) (C_word_counts : Cal P w K mg base "word_counts" 1 ["limit", "depth", "free", "left"] spWc) : FnOk P w K mg base CX0 (k + 2) f fd ["sums", "limit", "stage"] (spCh K chP) := by
  refine F.ok sc_stage_choices (fun vs H Q E h => ?_) (fun cdv A outer s H vs Q E hr h => ?_)
  · obtain ⟨l, t, sums, limit, depth, m, kk, rfl, _⟩ := h
    rfl
  · obtain ⟨l, t, sums, limit, depth, m, kk, rfl, hs, q⟩ := h
    refine ⟨_, (pss_cons (ps_asg (pv 2) (pg_tup rfl (pgs_cons (pg_name (i := 3) sc_stage_choices.nd rfl (Or.inl rfl)) (pgs_cons (pg_name (i := 4) sc_stage_choices.nd rfl (Or.inl rfl)) (pgs_cons (pg_name (i := 5) sc_stage_choices.nd rfl (Or.inl rfl)) pgs_nil)))))
      (pss_cons (ps_set (i := 6) sc_stage_choices.nd rfl (Or.inl rfl) (pe_op op_sub (pe_op op_sub (pe_callB call_len_seq (by rfl) B.len PySem.boot_len (pa_cons (pv 0) pa_nil)) pe_int) (pv 4)))
      (pss_cons (ps_set (i := 7) sc_stage_choices.nd rfl (Or.inl rfl) (pe_lst pa_nil))
      (pss_cons (ps_for PassesOwn.never rfl (pi_list (pe_callC C_word_counts (hr.mono (by omega)) (by rfl) (pa_cons (pv 1) (pa_cons (pv 3) (pa_cons (pv 5) (pa_cons (pv 6) pa_nil)))))) (pg_name (i := 8) sc_stage_choices.nd rfl (Or.inl rfl)) (pss_one (ps_if (pt_cmpR op_eq (pv 8) (pv 6) (nomark _)) (pss_one (ps_expr (pe_bm PySem.F.plainAttrs_list PySem.F.slot_list_append PySem.F.type_list_append mt_append (pv 7) (pa_cons (pe_tup (pa_cons (pv 8) (pa_cons pe_int (pa_cons pe_non pa_nil)))) pa_nil)))) (pss_one (ps_if (pt_cmpR op_ne (pv 8) (pv 5) (nomark _)) (pss_one (ps_expr (pe_bm PySem.F.plainAttrs_list PySem.F.slot_list_append PySem.F.type_list_append mt_append (pv 7) (pa_cons (pe_tup (pa_cons (pv 8) (pa_cons (pe_ix ix_list (pv 0) (pe_op op_add (pv 4) (pv 8)) (fun _ _ => rfl)) (pa_cons (pe_tup (pa_cons (pe_op op_add (pv 3) pe_int) (pa_cons (pe_op op_add (pv 4) (pv 8)) (pa_cons (pe_callB (call_min2 rfl) (by rfl) B.min (by decide +kernel) (pa_cons (pe_op op_mul pe_int (pe_op op_sub (pv 5) (pv 8))) (pa_cons (pe_op op_sub (pv 6) (pv 8)) pa_nil))) pa_nil)))) pa_nil)))) pa_nil)))) pss_nil)))))
      (pss_one (ps_ret (pv 7))))))), ?_⟩
    obtain ⟨hsq, hst, ⟨o1, o2, o3, o4⟩, hln, hkk⟩ := hs
    refine q_unp (ev_var rfl) hst rfl fun H1 e1 => ⟨_, _, rfl, _, _, rfl, _, _, rfl, rfl, ?_⟩
    have hlen : ((sums.map V.int).length : Int) = (sums.length : Int) := by rw [List.length_map]
    generalize hn : (sums.length : Int) - 1 - m = left at *
    refine q_asg (v := .int left) (ev_is (ev_sub (ev_sub (ev_len (ev_var rfl) (ex_l e1 hsq)) ev_c) (ev_var rfl)) (by rw [hlen, hn])) fun H2 e2 => ?_
    refine q_asgL (el_lst ea_nil (by decide)) fun p H3 hp e3 h3 => ?_
    have e13 := (e1.trans e2).trans e3
    have hp0 : H p = none := fresh_back (e1.trans e2) hp
    have hxl : ((wc limit depth kk left).map V.int).length ≤ 1001 := by rw [List.length_map]; exact wc_len (by omega)
    refine q_forNL (xs := (wc limit depth kk left).map V.int) (el_call (ea_cons (ev_var rfl) (ea_cons (ev_var rfl) (ea2 (ev_var rfl) (ev_var rfl)))) fun H1 e1 Q q E => ⟨limit, depth, kk, left, rfl, by omega, by omega, by omega, fun p H2 hp e2 h2 => q p H2 hp e2 h2⟩)
      (fun w i σ H' => ∃ (vs : List V) (c : Option V), σ = [some (.ref l), some (.int limit), some (.ref t), some (.int depth), some (.int m), some (.int kk), some (.int left), some (.ref p), c] ∧ Ex H H' ∧ w ≠ p ∧ H' w = some (.lst ((wc limit depth kk left).map V.int)) ∧ H' p = some (.lst vs) ∧ DpAll K H' vs (chsD (((wc limit depth kk left).take i).filterMap (chOf sums depth m kk))))
      (fun w H4 hw e4 h4 => ⟨[], none, rfl, e13.trans e4, (fun z => by rw [z, h3] at hw; cases hw), h4, e4 p _ h3, .nil⟩)
      (fun w i σ H' _ hP => by
        obtain ⟨vs, c, _, _, _, hw, _⟩ := hP
        exact sq_of hw) ?_ ?_
    · rintro w i x σ H' hi ⟨vs, c, rfl, eh, hwp, hw, hl, hd⟩
      obtain ⟨a, hia, rfl⟩ : ∃ a, (wc limit depth kk left)[i]? = some a ∧ V.int a = x := by
        rw [List.getElem?_map] at hi
        cases hz : (wc limit depth kk left)[i]? with
        | none => rw [hz] at hi; cases hi
        | some a => rw [hz] at hi; exact ⟨a, rfl, Option.some.inj hi⟩
      have ham := wc_mem (by omega) (List.mem_of_getElem? hia)
      have hil : i < 1001 := by
        have := (List.getElem?_eq_some_iff.mp hia).1
        have := wc_len (limit := limit) (depth := depth) (free := kk) (left := left) (by omega)
        omega
      have hvl : vs.length < 100000 := by
        rw [DpAll.len hd]
        have := fm_len (chOf sums depth m kk) ((wc limit depth kk left).take i)
        rw [List.length_take] at this
        unfold chsD
        rw [List.length_map]
        omega
      have hsq' := ex_l eh hsq
      have hone : chOf sums depth m kk a = if a = left then some (a, 0, none) else if a ≠ kk then some (a, sums.getD (m + a).toNat 0, some (depth + 1, m + a, if left - a < 2 * (kk - a) then left - a else 2 * (kk - a))) else none := by
        unfold chOf
        rw [hn]
      rw [fm_take _ _ hia]
      refine s_if (et_test (ev_eq (ev_var rfl) (ev_var rfl))) (fun hb H6 e6 => ?_) (fun hb H6 e6 => ?_)
      · rw [hone, if_pos (of_decide_eq_true hb)]
        refine s_appD (e6 p _ hl) (ev_var rfl) (ed_tup (eda_cons (ed_int (ev_var rfl)) (eda_cons (ed_int ev_c) (eda_cons (ed_non ev_c) eda_nil))) (by show 3 ≤ 100000; decide)) hvl fun v H7 e7 hv => ?_
        have e47 := e6.trans e7
        refine ⟨vs ++ [v], _, rfl, Ex.mut (eh.trans e47) hp0, hwp, by rw [upd_ne hwp]; exact e47 w _ hw, upd_same, ?_⟩
        unfold chsD
        rw [List.map_append]
        exact dp_app (e47 p _ hl) (DpAll.ext e47 _ _ hd) hv (chsD_noList _) rfl
      · rw [hone, if_neg (of_decide_eq_false hb)]
        refine s_if (et_test (ev_ne (ev_var rfl) (ev_var rfl))) (fun hb2 H7 e7 => ?_) (fun hb2 H7 e7 => ?_)
        · have hne : a ≠ kk := by
            intro z
            rw [decide_eq_true z] at hb2
            cases hb2
          rw [if_pos hne]
          have e47 := e6.trans e7
          have hix : (m + a).toNat < sums.length := by omega
          refine s_appD (e47 p _ hl) (ev_var rfl) (ed_tup (eda_cons (ed_int (ev_var rfl)) (eda_cons (ed_int (ev_op (ev_var rfl) (ev_add (ev_var rfl) (ev_var rfl)) (rv_ixL (ex_l e47 hsq') (atI_at (i := (m + a).toNat) (by omega) hix)))) (eda_cons
            (ed_tup (eda_cons (ed_int (ev_add (ev_var rfl) ev_c)) (eda_cons (ed_int (ev_add (ev_var rfl) (ev_var rfl))) (eda_cons (ed_int (ev_min (ev_op ev_c (ev_sub (ev_var rfl) (ev_var rfl)) (rv_mul (by decide))) (ev_sub (ev_var rfl) (ev_var rfl)))) eda_nil))) (by show 3 ≤ 100000; decide)) eda_nil))) (by show 3 ≤ 100000; decide)) hvl fun v H8 e8 hv => ?_
          have e48 := e47.trans e8
          refine ⟨vs ++ [v], _, rfl, Ex.mut (eh.trans e48) hp0, hwp, by rw [upd_ne hwp]; exact e48 w _ hw, upd_same, ?_⟩
          unfold chsD
          rw [List.map_append]
          exact dp_app (e48 p _ hl) (DpAll.ext e48 _ _ hd) hv (chsD_noList _) rfl
        · have hne : ¬ (a ≠ kk) := by
            intro z
            rw [decide_eq_false z] at hb2
            cases hb2
          rw [if_neg hne]
          have e47 := e6.trans e7
          refine ⟨vs, _, rfl, eh.trans e47, hwp, e47 w _ hw, e47 p _ hl, ?_⟩
          rw [Option.toList_none, List.append_nil]
          exact DpAll.ext e47 _ _ hd
    · rintro w σ H' ⟨vs, c, rfl, eh, hwp, hw, hl, hd⟩
      rw [List.length_map, List.take_length] at hd
      have e9 : chP sums limit depth m kk = (wc limit depth kk left).filterMap (chOf sums depth m kk) := by
        unfold chP
        rw [hn]
      rw [e9] at q
      exact s_ret (ev_var rfl) fun H2 e2 => q p vs H2 hp0 (eh.trans e2) (e2 p _ hl) (DpAll.ext e2 _ _ hd)
end
end K05
set_option Elab.async false
set_option linter.all false
set_option maxRecDepth 100000
set_option maxHeartbeats 4000000
namespace K05
open PySem PySem.Spec PyProof.Rows L2 GX KC Evl M03
section
variable {P : Program} {w : World} {K : PySem.W.Frag} {mg : Str → Option Value} {base : Heap}
/-! rests -/
theorem el_sortedI {σ : L2.St} {H : Hp} {ta : TE} {l : Addr} {ws : List Int} (h : Ev ta σ H (.ref l)) (hs : SqL K H l (ws.map V.int)) : EvL (tCB (rSortedI K) (tCons ta tNil)) σ H ((ranked ws).reverse.map V.int) := fun H1 e Q q =>
  h H1 e _ fun H2 e2 => ⟨l, ws, rfl, ex_l (e.trans e2) hs, fun ns' p hp hw hn => by
    rw [asc_is hp hw]
    exact q p _ (fresh_back e2 hn) (e2.trans (Ex.new hn)) upd_same⟩
theorem atI_lastD {L : List Int} (h : L ≠ []) : atI (L.map V.int) (-1) = some (.int (L.getLastD 0)) := by
  obtain ⟨M, z, e⟩ : ∃ M z, L = M ++ [z] := ⟨L.dropLast, L.getLast h, (List.dropLast_concat_getLast h).symm⟩
  subst e
  rw [List.map_append]
  show atI (M.map V.int ++ [V.int z]) (-1) = _
  rw [atI_last, List.getLastD_concat]
theorem ok_rests {f : Addr} {fd : FuncData} {k : Nat} (F : Fun K "rests" "rests" s_rests f fd) (B : Bs mg) : FnOk P w K mg base CX0 (k + 1) f fd ["weights"] (spSums K) := by
  refine F.ok sc_rests (fun vs H Q E h => ?_) (fun cdv A outer s H vs Q E hr h => ?_)
  · obtain ⟨l, ws, rfl, _⟩ := h
    rfl
  · obtain ⟨l, ws, rfl, hs, hn, q⟩ := h
    refine ⟨_, (pss_cons (ps_set (i := 1) sc_rests.nd rfl (Or.inl rfl) (pe_lst (pa_cons pe_int pa_nil)))
      (pss_cons (ps_for PassesOwn.never rfl (pi_list (pe_callB cr_sortedI (by rfl) B.sorted (by decide +kernel) (pa_cons (pv 0) pa_nil))) (pg_name (i := 2) sc_rests.nd rfl (Or.inl rfl)) (pss_one (ps_expr (pe_bm PySem.F.plainAttrs_list PySem.F.slot_list_append PySem.F.type_list_append mt_append (pv 1) (pa_cons (pe_op op_add (pe_ix ix_list (pv 1) (pe_un un_neg pe_int) (fun _ _ => rfl)) (pv 2)) pa_nil)))))
      (pss_one (ps_ret (pe_revL (pv 1)))))), ?_⟩
    refine q_asgL (el_lst (ea1 ev_c) (by decide)) fun p H1 hp e1 h1 => ?_
    have hrl : ((ranked ws).reverse.map V.int).length = ws.length := by rw [List.length_map, List.length_reverse, ranked_len]
    refine q_forNL (el_sortedI (ev_var rfl) (ex_l e1 hs))
      (fun a i σ H' => ∃ c, σ = [some (.ref l), some (.ref p), c] ∧ Ex H H' ∧ a ≠ p ∧ H' a = some (.lst ((ranked ws).reverse.map V.int)) ∧ H' p = some (.lst (((restL ((ranked ws).drop (ws.length - i))).reverse).map V.int)))
      (fun a H2 ha e2 h2 => ⟨none, rfl, e1.trans e2, (fun z => by rw [z, h1] at ha; cases ha), h2, ?_⟩)
      (fun a i σ H' _ hP => by
        obtain ⟨c, _, _, _, hw, _⟩ := hP
        exact sq_of hw) ?_ ?_
    · rw [e2 p _ h1, Nat.sub_zero, List.drop_of_length_le (by rw [ranked_len]; exact Nat.le_refl _)]
      rfl
    · rintro a i x σ H' hi ⟨c, rfl, eh, hap, ha, hl⟩
      have hiw : i < ws.length := by
        have := (List.getElem?_eq_some_iff.mp hi).1
        omega
      have hir : i < (ranked ws).reverse.length := by rw [List.length_reverse, ranked_len]; exact hiw
      have hx : x = .int ((ranked ws).reverse.getD i 0) := by
        have := int_at hir
        rw [this] at hi
        exact (Option.some.inj hi).symm
      subst hx
      have hst := asc_step (ranked ws).reverse i hir
      rw [List.reverse_reverse, List.length_reverse, ranked_len] at hst
      have hne : (restL ((ranked ws).drop (ws.length - i))).reverse ≠ [] := by
        intro z
        have h2 := congrArg List.length z
        rw [List.length_reverse, restL_len] at h2
        simp at h2
      have hlen : (((restL ((ranked ws).drop (ws.length - i))).reverse).map V.int).length < 100000 := by
        rw [List.length_map, List.length_reverse, restL_len, List.length_drop, ranked_len]; omega
      refine s_app hl (ev_var rfl) (ev_add (ev_op (ev_var rfl) (ev_un ev_c ru_neg) (rv_ixL (sq_of hl) (atI_lastD hne))) (ev_var rfl)) hlen fun H2 e2 => ?_
      refine ⟨_, rfl, Ex.mut (eh.trans e2) (fresh_back (Ex.refl H) hp), hap, by rw [upd_ne hap]; exact e2 a _ ha, ?_⟩
      rw [upd_same, hst, List.map_append]
      rfl
    · rintro a σ H' ⟨c, rfl, eh, hap, ha, hl⟩
      rw [hrl, Nat.sub_self, List.drop_zero] at hl
      refine s_retL (el_rev (ev_var rfl) (sq_of hl)) fun p2 H2 hp2 e2 h2 => q p2 H2 (fresh_back eh hp2) (eh.trans e2) ?_
      rw [h2, ← List.map_reverse, List.reverse_reverse]
      rfl
/-! choices -/
structure ChIn (K : PySem.W.Frag) (ws : List Int) (l t : Addr) (limit depth m k : Int) (H : Hp) : Prop where
  sq : SqL K H l (ws.map V.int)
  st : SqT K H t [.int depth, .int m, .int k]
  ok : StOk (sumsL ws) limit depth m k
  len : ws.length ≤ 64
  kk : k ≤ 1000
def spChoices (K : PySem.W.Frag) (g : List Int → Int → Int → Int → Int → List (Int × Int × Nxt)) : Sp := fun vs H Q _ => ∃ (l t : Addr) (ws : List Int) (limit depth m k : Int), vs = [.ref l, .int limit, .ref t] ∧ ChIn K ws l t limit depth m k H ∧ RetD K (.list (chsD (g (sumsL ws) limit depth m k))) H Q
end
end K05
set_option Elab.async false
set_option linter.all false
set_option maxRecDepth 100000
set_option maxHeartbeats 4000000
namespace K05
open PySem PySem.Spec PyProof.Rows L2 GX KC Evl M03
section
variable {P : Program} {w : World} {K : PySem.W.Frag} {mg : Str → Option Value} {base : Heap}
/-! the sum over pairs -/
def sumF (n : Nat) (f : Nat → Int) : Int := ((List.range n).map f).sum
theorem sumF_succ (n : Nat) (f : Nat → Int) : sumF (n + 1) f = sumF n f + f n := by
  unfold sumF
  rw [List.range_succ, List.map_append, List.sum_append]
  simp
theorem sumF_bd (n : Nat) (f : Nat → Int) (B : Int) (hB : 0 ≤ B) (h : ∀ i, i < n → -B ≤ f i ∧ f i ≤ B) : -(n * B) ≤ sumF n f ∧ sumF n f ≤ n * B := by
  induction n with
  | zero => simp [sumF]
  | succ n ih =>
    obtain ⟨h1, h2⟩ := ih fun i hi => h i (by omega)
    obtain ⟨h3, h4⟩ := h n (by omega)
    rw [sumF_succ]
    have e : ((n + 1 : Nat) : Int) * B = n * B + B := by
      rw [Int.natCast_add, Int.add_mul]
      simp
    omega
def fV (n : Nat) (f : Nat → Int) : List V := (List.range n).map fun i => V.int (f i)
theorem fV_succ (n : Nat) (f : Nat → Int) : fV (n + 1) f = fV n f ++ [V.int (f n)] := by
  unfold fV
  rw [List.range_succ, List.map_append] <;> rfl
theorem fV_sum (n : Nat) (f : Nat → Int) : vsum (fV n f) = sumF n f := by
  unfold fV sumF
  have e : (List.range n).map (fun i => V.int (f i)) = ((List.range n).map f).map V.int := by rw [List.map_map]; rfl
  rw [e, vsum_ints]
theorem fV_len (n : Nat) (f : Nat → Int) : (fV n f).length = n := by
  unfold fV
  rw [List.length_map, List.length_range]
theorem ev_sumZ {σ : L2.St} {H : Hp} {te ta tb : TE} {Pt a b : Addr} {xs ys : List Int} {n : Nat} (f : Nat → Int) (ha : Ev ta σ H (.ref a)) (hb : Ev tb σ H (.ref b)) (hx : SqL K H a (xs.map V.int)) (hy : SqL K H b (ys.map V.int)) (h1 : xs.length = n) (h2 : ys.length = n) (hn : n ≤ 1000)
    (tab : H Pt = some (TabX Pt)) (hf : ∀ i, i < n → -(2 ^ 40) ≤ f i ∧ f i ≤ 2 ^ 40) (he : ∀ i, i < n → ∀ H1, Ex H H1 → Ev te [some (.int (xs.getD i 0)), some (.int (ys.getD i 0))] H1 (.int (f i))) :
    Ev (tSumG (tGx Pt (iZip K (tCons ta (tCons tb tNil))) (gTup K 2 (gCons (gName 0) (gCons (gName 1) gNil))) tYes te [none, none] [0, 1])) σ H (.int (sumF n f)) := fun H1 e Q q =>
  ha H1 e _ fun H2 e2 => hb H2 (e.trans e2) _ fun H3 e3 => by
    have e13 := e2.trans e3
    have e03 := e.trans e13
    have hxl : (xs.map V.int).length = n := by rw [List.length_map]; exact h1
    have hyl : (ys.map V.int).length = n := by rw [List.length_map]; exact h2
    refine ⟨a, b, _, _, rfl, ex_l e03 hx, ex_l e03 hy, e03 Pt _ tab, fun i m zs H' => m + i = n ∧ Ex H3 H' ∧ zs = fV i f, ⟨n, by omega, Ex.refl _, rfl⟩, ?_⟩
    rintro i m zs H' ⟨hm, e4, rfl⟩
    have e04 := e03.trans e4
    by_cases hi : i < n
    · right
      refine ⟨⟨_, _, _, _, ex_l e04 hx, ex_l e04 hy, int_at (by omega), int_at (by omega)⟩, fun zs H5 => (m - 1) + (i + 1) = n ∧ Ex H3 H5 ∧ zs = fV (i + 1) f, fun zs H5 q => ⟨m - 1, by omega, q⟩, ?_⟩
      rintro v H5 ⟨T, x, y, rfl, hT, rfl, hx1, hy1⟩
      have ex1 := (Option.some.inj ((int_at (by omega : i < xs.length)).symm.trans (hx1 _ (ex_l e04 hx)))).symm
      have ey1 := (Option.some.inj ((int_at (by omega : i < ys.length)).symm.trans (hy1 _ (ex_l e04 hy)))).symm
      subst ex1
      subst ey1
      have e45 : Ex H' (upd H' T (.tup [.int (xs.getD i 0), .int (ys.getD i 0)])) := Ex.new hT
      refine ⟨T, _, rfl, .inl (.inl upd_same), rfl, _, _, rfl, _, _, rfl, rfl, rfl, ?_⟩
      show te [some (.int (xs.getD i 0)), some (.int (ys.getD i 0))] _ _
      refine he i hi _ (e04.trans e45) _ (Ex.refl _) _ fun H6 e6 => ?_
      have hb1 := sumF_bd i f (2 ^ 40) (by decide) fun j hj => hf j (by omega)
      have hb2 := hf i hi
      have hiB : (i : Int) * 2 ^ 40 ≤ 1000 * 2 ^ 40 := by omega
      refine ⟨sz_lt (by rw [fV_len]; omega), ⟨f i, rfl, ⟨by omega, by omega⟩, ?_⟩, by omega, (e4.trans e45).trans e6, (fV_succ i f).symm⟩
      rw [fV_sum]
      exact ⟨by omega, by omega⟩
    · left
      have hin : i = n := by omega
      subst hin
      refine ⟨⟨_, _, ex_l e04 hx, ex_l e04 hy, .inl (by rw [hxl]; exact Nat.le_refl _)⟩, ?_⟩
      show Q (.int (vsum (fV i f))) H'
      rw [fV_sum]
      exact q H' (e13.trans e4)
def costF (ws ls : List Int) (i : Nat) : Int := ws.getD i 0 * ls.getD i 0
def spCost (K : PySem.W.Frag) (Pt : Addr) : Sp := fun vs H Q _ => ∃ (l t : Addr) (ws ls : List Int), vs = [.ref l, .ref t] ∧ SqL K H l (ws.map V.int) ∧ SqL K H t (ls.map V.int) ∧ ws.length = ls.length ∧ ws.length ≤ 1000 ∧ H Pt = some (TabX Pt) ∧
  (∀ i, i < ws.length → -(2 ^ 62) < ws.getD i 0 ∧ ws.getD i 0 < 2 ^ 62 ∧ -(2 ^ 40) ≤ costF ws ls i ∧ costF ws ls i ≤ 2 ^ 40) ∧ ∀ H2, Ex H H2 → Q (.int (sumF ws.length (costF ws ls))) H2
theorem ok_cost {f c Pt : Addr} {fd : FuncData} {k : Nat} (F : FunT K "cost" "cost" s_cost f fd c) (TB : GxR.TabB base mg c Pt) (B : Bs mg) : FnOk P w K mg base CX0 (k + 6) f fd ["weights", "lengths"] (spCost K Pt) := by
  refine F.ok sc_cost (fun vs H Q E h => ?_) (fun A outer s H vs Q E hr h => ?_)
  · obtain ⟨l, t, ws, ls, rfl, _⟩ := h
    rfl
  · obtain ⟨l, t, ws, ls, rfl, hs, ht, hl, hn, htab, hb, q⟩ := h
    refine ⟨_, (pss_one (ps_ret (pe_sumG (k := 0) (pgx_gen (g := (gTup K 2 (gCons (gName 0) (gCons (gName 1) gNil)))) (N' := ["weight", "length"]) (cm := [none, none]) (own := [0, 1]) (k0 := 0) (k := 0) (hr.mono (by omega)) TB rfl (capOk_by (N := ["weights", "lengths"]) (sc := defScope s_cost) (by decide +kernel)) (pi_zip (by rfl) B.zip (pa_cons (pv 0) (pa_cons (pv 1) pa_nil))) (fun _ _ _ _ _ _ _ _ hr => (pg_tup rfl (pgs_cons (pg_name (i := 0) (show List.Nodup (["weight", "length"] : List Str) by decide +kernel) rfl (Or.inl rfl)) (pgs_cons (pg_name (i := 1) (show List.Nodup (["weight", "length"] : List Str) by decide +kernel) rfl (Or.inl rfl)) pgs_nil)))) (fun _ _ _ _ _ _ _ _ hr => pts_nil) (fun _ _ _ _ _ _ _ _ hr => (pe_op op_mul (pv 0) (pv 1)))) (hr.mono (by omega)) (by rfl) B.sum))), ?_⟩
    exact s_ret (ev_sumZ (K := K) (costF ws ls) (ev_var rfl) (ev_var rfl) hs ht rfl hl.symm hn htab (fun i hi => (hb i hi).2.2) fun i hi H1 e1 => ev_op (ev_var rfl) (ev_var rfl) (rv_mul (by have := hb i hi; omega))) q
end
end K05
set_option Elab.async false
set_option linter.all false
set_option maxRecDepth 100000
set_option maxHeartbeats 4000000
namespace K05
open PySem PySem.Spec PyProof.Rows L2 GX KC Evl M03
section
variable {P : Program} {w : World} {K : PySem.W.Frag} {mg : Str → Option Value} {base : Heap}
theorem el_lcLG {σ : L2.St} {H : Hp} {a : Addr} {xs : List V} {tl te : TE} {t : TT} {g : TG} {vs : List Nat} (f : Nat → Bool) (v : Nat → V) (h : Ev tl σ H (.ref a)) (hx : SqL K H a xs) (hz : xs.length ≤ 40000)
    (hg : ∀ (i : Nat) (x : V) H', Ex H H' → xs[i]? = some x → ∃ σ2, wipe σ2 vs = wipe σ vs ∧ (∀ H2, Ex H H2 → EvT t σ2 H2 (f i)) ∧ (∀ H2, Ex H H2 → f i = true → Ev te σ2 H2 (v i)) ∧ ∀ R : L2.St → Hp → Prop, R σ2 H' → g x (wipe σ vs) H' R) :
    EvL (tLc (iList K tl) g t te vs) σ H (given xs.length f v) := fun H0 e Q q => h H0 e _ fun H1 e1 => ⟨a, rfl, ⟨xs, ex_l (e.trans e1) hx⟩, fun Dl hD =>
  lc_list (xs := xs) (Cw H1 f v Dl) ⟨hD, Ex.new hD, upd_same⟩ (fun i H' _ p => ex_l ((e.trans e1).trans p.2.1) hx) (fun i x H' hi p => by
    obtain ⟨σ2, g1, g2, g3, g4⟩ := hg i x H' ((e.trans e1).trans p.2.1) hi
    exact g4 _ ⟨g1, cw_turn p (by have := (List.getElem?_eq_some_iff.mp hi).1; omega) (g2 H1 (e.trans e1)) (fun hf => g3 H1 (e.trans e1) hf)⟩)
    (fun H' p => q Dl H' (fresh_back e1 p.1) (e1.trans p.2.1) p.2.2)⟩
theorem t_yes {σ : L2.St} {H : Hp} {A B : Hp → Prop} (h : A H) : tYes σ H (fun b H3 => if b = true then A H3 else B H3) := by
  show (if true = true then A H else B H)
  rw [if_pos rfl]
  exact h
/-- the pairs (minus weight, symbol) -/
def PrAt (ws : List Int) (H : Hp) (ys : List V) (n : Nat) : Prop := ys.length = n ∧ ∀ j, j < n → ∃ t, ys[j]? = some (.ref t) ∧ H t = some (.tup [.int (-(ws.getD j 0)), .int (j : Int)])
theorem PrAt.ext {ws : List Int} {H H' : Hp} {ys : List V} {n : Nat} (e : Ex H H') (h : PrAt ws H ys n) : PrAt ws H' ys n := ⟨h.1, fun j hj => by
  obtain ⟨t, h1, h2⟩ := h.2 j hj
  exact ⟨t, h1, e t _ h2⟩⟩
theorem PrAt.add {ws : List Int} {H : Hp} {ys : List V} {n : Nat} {t : Addr} (h : PrAt ws H ys n) (ht : H t = some (.tup [.int (-(ws.getD n 0)), .int (n : Int)])) : PrAt ws H (ys ++ [.ref t]) (n + 1) := by
  refine ⟨by rw [List.length_append, h.1]; rfl, fun j hj => ?_⟩
  by_cases e : j < n
  · obtain ⟨u, h1, h2⟩ := h.2 j e
    exact ⟨u, by rw [List.getElem?_append_left (by rw [h.1]; exact e)]; exact h1, h2⟩
  · have : j = n := by omega
    subst this
    exact ⟨t, by rw [List.getElem?_append_right (by rw [h.1]; exact Nat.le_refl _), h.1, Nat.sub_self]; rfl, ht⟩
def keyOf (H : Hp) : V → Int × Int
  | .ref t => match H t with
    | some (.tup [.int a, .int b]) => (a, b)
    | _ => (0, 0)
  | _ => (0, 0)
theorem keyOf_tup {H : Hp} {t : Addr} {a b : Int} (h : H t = some (.tup [.int a, .int b])) : keyOf H (.ref t) = (a, b) := by
  show (match H t with | some (.tup [.int a, .int b]) => (a, b) | _ => ((0 : Int), (0 : Int))) = _
  rw [h]
def symOf (H : Hp) (z : V) : Nat := (keyOf H z).2.toNat
theorem sorted_syms {ws : List Int} {H : Hp} {ys zs : List V} (h : PrAt ws H ys ws.length) (hp : zs.Perm ys) (hs : SrtO.Srtd (ltP (keyOf H)) zs) : zs.map (symOf H) = rankL ws := by
  have hy : ∀ z ∈ ys, ∃ j t, j < ws.length ∧ z = .ref t ∧ H t = some (.tup [.int (-(ws.getD j 0)), .int (j : Int)]) := fun z hz => by
    obtain ⟨j, hj⟩ := List.mem_iff_getElem?.mp hz
    have hjl : j < ws.length := by rw [← h.1]; exact (List.getElem?_eq_some_iff.mp hj).1
    obtain ⟨t, h1, h2⟩ := h.2 j hjl
    rw [hj] at h1
    exact ⟨j, t, hjl, Option.some.inj h1, h2⟩
  have hsym : ∀ z ∈ ys, keyOf H z = (-(wAt ws (symOf H z)), (symOf H z : Int)) ∧ symOf H z < ws.length := fun z hz => by
    obtain ⟨j, t, hj, rfl, ht⟩ := hy z hz
    have hk := keyOf_tup ht
    have e : symOf H (.ref t) = j := by unfold symOf; rw [hk]; simp
    rw [e, hk]
    exact ⟨rfl, hj⟩
  have hys : ys.map (symOf H) = List.range ws.length := by
    refine List.ext_getElem? fun j => ?_
    rw [List.getElem?_map]
    by_cases hj : j < ws.length
    · obtain ⟨t, h1, h2⟩ := h.2 j hj
      rw [h1, List.getElem?_range hj]
      show some (symOf H (.ref t)) = _
      unfold symOf
      rw [keyOf_tup h2]
      simp
    · rw [List.getElem?_eq_none (by rw [h.1]; omega), List.getElem?_eq_none (by rw [List.length_range]; omega)]
      rfl
  have hperm : (zs.map (symOf H)).Perm (List.range ws.length) := by rw [← hys]; exact hp.map _
  refine IsRank.uniq ⟨?_, fun k => by rw [hperm.mem_iff, List.mem_range]⟩ (rank_is ws)
  have hnd : (zs.map (symOf H)).Nodup := hperm.nodup_iff.mpr List.nodup_range
  have hnd2 : zs.Pairwise fun a b => symOf H a ≠ symOf H b := List.pairwise_map.mp hnd
  refine List.pairwise_map.mpr ?_
  have h3 := hs.and hnd2
  refine List.Pairwise.imp_of_mem (fun {a b} ha hb hab => ?_) h3
  obtain ⟨ka, _⟩ := hsym a (hp.mem_iff.mp ha)
  obtain ⟨kb, _⟩ := hsym b (hp.mem_iff.mp hb)
  obtain ⟨h4, h5⟩ := hab
  have h6 := SrtO.lexB_no.mp h4
  rw [ka, kb] at h6
  unfold Rk
  simp only at h6
  omega
def spRanksP (K : PySem.W.Frag) (Pt : Addr) : Sp := fun vs H Q _ => ∃ (l : Addr) (ws : List Int), vs = [.ref l] ∧ SqL K H l (ws.map V.int) ∧ ws.length ≤ 64 ∧ H Pt = some (TabX Pt) ∧ RetL (nats (rankL ws)) H Q
theorem ok_ranks {f c Pt : Addr} {fd : FuncData} {k : Nat} (F : FunT K "ranks" "ranks" s_ranks f fd c) (TB : GxR.TabB base mg c Pt) (B : Bs mg) : FnOk P w K mg base CX0 (k + 7) f fd ["weights"] (spRanksP K Pt) := by
  refine F.ok sc_ranks (fun vs H Q E h => ?_) (fun A outer s H vs Q E hr h => ?_)
  · obtain ⟨l, ws, rfl, _⟩ := h
    rfl
  · obtain ⟨l, ws, rfl, hs, hn, htab, q⟩ := h
    refine ⟨_, (pss_cons (ps_set (i := 1) sc_ranks.nd rfl (Or.inl rfl) (pe_sortedG (k := 0) (pgx_gen (g := (gTup K 2 (gCons (gName 0) (gCons (gName 1) gNil)))) (N' := ["symbol", "weight"]) (cm := [none, none]) (own := [0, 1]) (k0 := 0) (k := 0) (hr.mono (by omega)) TB rfl (capOk_by (N := ["weights", "order", "_", "symbol"]) (sc := defScope s_ranks) (by decide +kernel)) (pi_enum (by rfl) B.enumerate (pa_cons (pv 0) pa_nil)) (fun _ _ _ _ _ _ _ _ hr => (pg_tup rfl (pgs_cons (pg_name (i := 0) (show List.Nodup (["symbol", "weight"] : List Str) by decide +kernel) rfl (Or.inl rfl)) (pgs_cons (pg_name (i := 1) (show List.Nodup (["symbol", "weight"] : List Str) by decide +kernel) rfl (Or.inl rfl)) pgs_nil)))) (fun _ _ _ _ _ _ _ _ hr => pts_nil) (fun _ _ _ _ _ _ _ _ hr => (pe_tup (pa_cons (pe_un un_neg (pv 1)) (pa_cons (pv 0) pa_nil))))) (fun _ => mt_sortPO) (hr.mono (by omega)) (by rfl) B.sorted))
      (pss_one (ps_ret (pe_lc (g := (gTup K 2 (gCons (gName 2) (gCons (gName 3) gNil)))) rfl sc_ranks.nd (pi_list (pv 1)) (blkOk_by (own := [("_", 2), ("symbol", 3)]) (N := ["weights", "order", "_", "symbol"]) (sc := defScope s_ranks) (by decide +kernel)) (fun _ _ _ _ _ => (pg_tup rfl (pgs_cons (pg_name (i := 2) sc_ranks.nd rfl (Or.inl rfl)) (pgs_cons (pg_name (i := 3) sc_ranks.nd rfl (Or.inl rfl)) pgs_nil)))) (fun _ _ _ _ _ => pts_nil) (fun _ _ _ _ _ => (pv 3)))))), ?_⟩
    have hxl : (ws.map V.int).length = ws.length := List.length_map _
    refine ⟨_, rfl, l, _, rfl, hs, htab, fun i m zs H' => m + i = ws.length ∧ Ex H H' ∧ PrAt ws H' zs i, ⟨ws.length, by omega, Ex.refl _, rfl, fun j hj => by omega⟩, ?_⟩
    rintro i m zs H' ⟨hm, e4, hpr⟩
    by_cases hi : i < ws.length
    · right
      refine ⟨⟨_, _, ex_l e4 hs, int_at hi⟩, fun zs H5 => (m - 1) + (i + 1) = ws.length ∧ Ex H H5 ∧ PrAt ws H5 zs (i + 1), fun zs H5 q => ⟨m - 1, by omega, q⟩, ?_⟩
      rintro v H5 ⟨T, x, rfl, hT, rfl, hx1⟩
      have ex1 := (Option.some.inj ((int_at hi).symm.trans (hx1 _ (ex_l e4 hs)))).symm
      subst ex1
      have e45 : Ex H' (upd H' T (.tup [.int (i : Int), .int (ws.getD i 0)])) := Ex.new hT
      refine ⟨T, _, rfl, .inl (.inl upd_same), rfl, _, _, rfl, _, _, rfl, rfl, rfl, ?_⟩
      refine t_yes ?_
      show tTup (tCons (tUn (rU fun i => V.int (-i)) (tVar 1)) (tCons (tVar 0) tNil)) [some (.int (i : Int)), some (.int (ws.getD i 0))] _ _
      refine (eu_tup (σ := [some (.int (i : Int)), some (.int (ws.getD i 0))]) (ea2 (ev_un (x := .int (ws.getD i 0)) (ev_var (i := 1) rfl) ru_neg) (ev_var (i := 0) (v := .int (i : Int)) rfl)) (by show 2 ≤ 100000; decide)) _ (Ex.refl _) _ fun p H6 hp e6 h6 => ?_
      have e46 := e45.trans e6
      exact ⟨sz_lt (by rw [hpr.1]; omega), trivial, by omega, e4.trans e46, (hpr.ext e46).add h6⟩
    · left
      have hin : i = ws.length := by omega
      subst hin
      refine ⟨⟨_, ex_l e4 hs, by rw [hxl]; exact Nat.le_refl _⟩, fun o ho => ?_⟩
      have ne : ∀ t u, H' t = some u → t ≠ o := fun t u h z => by rw [z, ho] at h; cases h
      have eo : Ex H' (upd H' o (.lst zs)) := Ex.new ho
      refine ⟨o, zs, keyOf H', rfl, rfl, upd_same, fun y hy => ?_, fun zs' hsr hst => ?_⟩
      · obtain ⟨j, hj⟩ := List.mem_iff_getElem?.mp hy
        have hjl : j < ws.length := by rw [← hpr.1]; exact (List.getElem?_eq_some_iff.mp hj).1
        obtain ⟨t, h1, h2⟩ := hpr.2 j hjl
        rw [hj] at h1
        have ey := Option.some.inj h1
        subst ey
        refine ⟨t, rfl, ?_⟩
        rw [keyOf_tup h2]
        exact eo t _ h2
      · have hsy := sorted_syms hpr hst.perm hsr
        have hzl : zs'.length = ws.length := by rw [hst.perm.length_eq, hpr.1]
        have hov : upd (upd H' o (.lst zs)) o (.lst zs') = upd H' o (.lst zs') := by
          funext b
          by_cases e : b = o
          · rw [e, upd_same, upd_same]
          · rw [upd_ne e, upd_ne e, upd_ne e]
        rw [hov]
        have e0o : Ex H (upd H' o (.lst zs')) := e4.trans (Ex.new ho)
        have hz : ∀ i x, zs'[i]? = some x → ∃ t, x = .ref t ∧ i < ws.length ∧ H' t = some (.tup [.int (-(ws.getD ((rankL ws).getD i 0) 0)), .int ((rankL ws).getD i 0 : Nat)]) := fun i x hx => by
          have hil : i < ws.length := by rw [← hzl]; exact (List.getElem?_eq_some_iff.mp hx).1
          have hm := hst.perm.mem_iff.mp (List.mem_of_getElem? hx)
          obtain ⟨j, hj⟩ := List.mem_iff_getElem?.mp hm
          have hjl : j < ws.length := by rw [← hpr.1]; exact (List.getElem?_eq_some_iff.mp hj).1
          obtain ⟨t, h1, h2⟩ := hpr.2 j hjl
          rw [hj] at h1
          have ey := Option.some.inj h1
          subst ey
          have hsj : symOf H' (.ref t) = j := by unfold symOf; rw [keyOf_tup h2]; simp
          have hr1 : (rankL ws).getD i 0 = j := by
            rw [← hsy, List.getD_eq_getElem?_getD, List.getElem?_map, hx]
            exact hsj
          rw [hr1]
          exact ⟨t, rfl, hil, h2⟩
        show tRet (tLc (iList K (tVar 1)) (gTup K 2 (gCons (gName 2) (gCons (gName 3) gNil))) tYes (tVar 3) [2, 3]) { nx := fun _ H' => Q .non H', rt := Q } [some (.ref l), some (.ref o), none, none] _
        refine s_retL (xs := nats (rankL ws)) ?_ fun p H8 hp e8 h8 => q p H8 (fresh_back e0o hp) (e0o.trans e8) h8
        have hgv : nats (rankL ws) = given zs'.length (fun _ => true) fun i => V.int ((rankL ws).getD i 0 : Nat) := by
          unfold given
          rw [List.filter_eq_self.mpr fun _ _ => rfl, hzl]
          refine List.ext_getElem? fun j => ?_
          unfold nats
          rw [List.getElem?_map, List.getElem?_map]
          by_cases hj : j < ws.length
          · rw [List.getElem?_range hj, List.getElem?_eq_getElem (by rw [rank_len]; exact hj), Option.map_some, Option.map_some, List.getD_eq_getElem?_getD, List.getElem?_eq_getElem (by rw [rank_len]; exact hj)]
            rfl
          · rw [List.getElem?_eq_none (by rw [rank_len]; omega), List.getElem?_eq_none (by rw [List.length_range]; omega)]
            rfl
        rw [hgv]
        refine el_lcLG (K := K) _ _ (ev_var rfl) (sq_of upd_same) (by omega) fun i x H9 e9 hx => ?_
        obtain ⟨t, rfl, hil, ht⟩ := hz i x hx
        have ht9 : H9 t = some (.tup [.int (-(ws.getD ((rankL ws).getD i 0) 0)), .int ((rankL ws).getD i 0 : Nat)]) := e9 t _ (by rw [upd_ne (ne t _ ht)]; exact ht)
        exact ⟨[some (.ref l), some (.ref o), some (.int (-(ws.getD ((rankL ws).getD i 0) 0))), some (.int ((rankL ws).getD i 0 : Nat))], rfl, fun H2 _ => fun H3 _ R r => r H3 (Ex.refl H3), fun H2 _ _ => ev_var rfl, fun R r => ⟨t, _, rfl, .inl (.inl ht9), rfl, _, _, rfl, _, _, rfl, rfl, r⟩⟩
end
end K05
set_option linter.all false
/-! Codes of least cost: choices down the depths cost no more than any lengths that keep the limit. Weights in descending order. -/
namespace M04
/-- the rests -/
def S (vs : List Int) (m : Nat) : Int := (vs.drop m).sum
/-- choices from a stage to an end, and what they cost -/
inductive Pth (vs : List Int) (L : Nat) : Nat → Nat → Nat → List Nat → Int → Prop
  | stop {d m k a : Nat} : d ≤ L → (d = 0 → a = 0) → m + a = vs.length → a ≤ k → Pth vs L d m k [a] 0
  | go {d m k a : Nat} {as : List Nat} {c : Int} : d < L → (d = 0 → a = 0) → m + a < vs.length → a < k → Pth vs L (d + 1) (m + a) (min (2 * (k - a)) (vs.length - m - a)) as c → Pth vs L d m k (a :: as) (S vs (m + a) + c)
def RR : List Int → List Nat → Nat → Int
  | v :: vs, l :: ls, d => v * ((l - d : Nat) : Int) + RR vs ls d
  | _, _, _ => 0
def TT : List Int → List Nat → Nat → Int
  | v :: vs, l :: ls, d => (if d < l then v else 0) + TT vs ls d
  | _, _, _ => 0
def clt : List Nat → Nat → Nat
  | [], _ => 0
  | l :: ls, d => (if l < d then 1 else 0) + clt ls d
def ceq : List Nat → Nat → Nat
  | [], _ => 0
  | l :: ls, d => (if l = d then 1 else 0) + ceq ls d
def slt (L : Nat) : List Nat → Nat → Nat
  | [], _ => 0
  | l :: ls, d => (if l < d then 2 ^ (L - l) else 0) + slt L ls d
def tot (L : Nat) : List Nat → Nat
  | [] => 0
  | l :: ls => 2 ^ (L - l) + tot L ls
theorem clt_succ (d : Nat) : ∀ ls : List Nat, clt ls (d + 1) = clt ls d + ceq ls d
  | [] => rfl
  | l :: ls => by
    have := clt_succ d ls
    unfold clt ceq
    by_cases h : l < d
    · rw [if_pos (by omega), if_pos h, if_neg (by omega)]
      omega
    · by_cases h2 : l = d
      · rw [if_pos (by omega), if_neg h, if_pos h2]
        omega
      · rw [if_neg (by omega), if_neg h, if_neg h2]
        omega
theorem slt_succ (L d : Nat) : ∀ ls : List Nat, slt L ls (d + 1) = slt L ls d + ceq ls d * 2 ^ (L - d)
  | [] => by simp [slt, ceq]
  | l :: ls => by
    have := slt_succ L d ls
    unfold slt ceq
    by_cases h : l < d
    · rw [if_pos (by omega), if_pos h, if_neg (by omega), this, Nat.zero_add]
      omega
    · by_cases h2 : l = d
      · subst h2
        rw [if_pos (by omega), if_neg h, if_pos rfl, this, Nat.add_mul]
        omega
      · rw [if_neg (by omega), if_neg h, if_neg h2, this]
        simp only [Nat.zero_add]
theorem clt_le (d : Nat) : ∀ ls : List Nat, clt ls d ≤ ls.length
  | [] => Nat.le_refl _
  | l :: ls => by
    have := clt_le d ls
    unfold clt
    rw [List.length_cons]
    split <;> omega
theorem slt_le (L d : Nat) : ∀ ls : List Nat, slt L ls d ≤ tot L ls
  | [] => Nat.le_refl _
  | l :: ls => by
    have := slt_le L d ls
    have hp : 0 < 2 ^ (L - l) := Nat.pow_pos (by decide)
    unfold slt tot
    split <;> omega
/-- while some length is not below d, something is left -/
theorem slt_lt (L d : Nat) : ∀ ls : List Nat, clt ls d < ls.length → slt L ls d < tot L ls
  | [], h => by simp [clt] at h
  | l :: ls, h => by
    have hp : 0 < 2 ^ (L - l) := Nat.pow_pos (by decide)
    unfold clt at h
    rw [List.length_cons] at h
    unfold slt tot
    by_cases z : l < d
    · rw [if_pos z] at h ⊢
      have := slt_lt L d ls (by omega)
      omega
    · rw [if_neg z]
      have := slt_le L d ls
      omega
theorem clt_all {d : Nat} : ∀ ls : List Nat, (∀ l ∈ ls, l < d) → clt ls d = ls.length
  | [], _ => rfl
  | l :: ls, h => by
    unfold clt
    rw [if_pos (h l (by simp)), clt_all ls fun x hx => h x (by simp [hx]), List.length_cons]
    omega
theorem clt_none {d : Nat} : ∀ ls : List Nat, (∀ l ∈ ls, d ≤ l) → clt ls d = 0
  | [], _ => rfl
  | l :: ls, h => by
    have := h l (by simp)
    unfold clt
    rw [if_neg (by omega), clt_none ls fun x hx => h x (by simp [hx])]
theorem slt_none {L d : Nat} : ∀ ls : List Nat, (∀ l ∈ ls, d ≤ l) → slt L ls d = 0
  | [], _ => rfl
  | l :: ls, h => by
    have := h l (by simp)
    unfold slt
    rw [if_neg (by omega), slt_none ls fun x hx => h x (by simp [hx])]
theorem RR_step (d : Nat) : ∀ (vs : List Int) (ls : List Nat), RR vs ls d = TT vs ls d + RR vs ls (d + 1)
  | [], _ => by simp [RR, TT]
  | v :: vs, [] => by simp [RR, TT]
  | v :: vs, l :: ls => by
    have := RR_step d vs ls
    unfold RR TT
    by_cases h : d < l
    · rw [if_pos h, show l - d = (l - (d + 1)) + 1 by omega]
      push_cast
      rw [Int.mul_add]
      omega
    · rw [if_neg h, show l - d = 0 by omega, show l - (d + 1) = 0 by omega]
      omega
theorem RR_nonneg (d : Nat) : ∀ (vs : List Int) (ls : List Nat), (∀ v ∈ vs, 0 ≤ v) → 0 ≤ RR vs ls d
  | [], _, _ => by simp [RR]
  | v :: vs, [], _ => by simp [RR]
  | v :: vs, l :: ls, h => by
    have h1 := RR_nonneg d vs ls fun x hx => h x (by simp [hx])
    have h2 := Int.mul_nonneg (h v (by simp)) (Int.natCast_nonneg (l - d))
    unfold RR
    omega
/-- those that are longer weigh no less than the lightest ones -/
theorem TT_ge (d : Nat) : ∀ (vs : List Int) (ls : List Nat), vs.length = ls.length → vs.Pairwise (fun a b => b ≤ a) → S vs (clt ls (d + 1)) ≤ TT vs ls d
  | [], ls, _, _ => by simp [S, TT]
  | v :: vs, [], h, _ => by simp at h
  | v :: vs, l :: ls, h, hs => by
    have hlen : vs.length = ls.length := by simpa using h
    have hs2 := List.pairwise_cons.mp hs
    have ih := TT_ge d vs ls hlen hs2.2
    unfold TT clt
    by_cases z : d < l
    · rw [if_pos z, if_neg (show ¬ l < d + 1 by omega), Nat.zero_add]
      have hc := clt_le (d + 1) ls
      generalize clt ls (d + 1) = c at *
      unfold S at *
      cases c with
      | zero =>
        simp only [List.drop_zero, List.sum_cons] at *
        omega
      | succ c =>
        rw [List.drop_succ_cons]
        have hcl : c < vs.length := by omega
        rw [List.drop_eq_getElem_cons hcl, List.sum_cons]
        have := hs2.1 vs[c] (List.getElem_mem hcl)
        omega
    · rw [if_neg z, if_pos (show l < d + 1 by omega), Nat.add_comm 1]
      unfold S at *
      rw [List.drop_succ_cons]
      omega
section
variable {vs : List Int} {ls : List Nat} {L : Nat}
/-- THE LOWER WAY: any lengths that keep the limit are met by choices that cost no more -/
theorem path_of (hlen : vs.length = ls.length) (h0 : ∀ v ∈ vs, 0 ≤ v) (hs : vs.Pairwise (fun a b => b ≤ a)) (h1 : ∀ l ∈ ls, 1 ≤ l ∧ l ≤ L) (hk : tot L ls ≤ 2 ^ L) : ∀ (t d k K : Nat), d + t = L → clt ls d < ls.length → K * 2 ^ t + slt L ls d = 2 ^ L → min K (ls.length - clt ls d) ≤ k →
    ∃ as c, Pth vs L d (clt ls d) k as c ∧ c ≤ RR vs ls d := by
  intro t
  induction t with
  | zero =>
    intro d k K hd hm hK hmin
    have hdL : d = L := by omega
    have hall := clt_all (d := d + 1) ls fun l hl => by have := (h1 l hl).2; omega
    have hs1 := clt_succ d ls
    have hs2 := slt_succ L d ls
    have hle := slt_le L (d + 1) ls
    rw [hdL, Nat.sub_self, Nat.pow_zero] at hs2
    rw [hdL] at hs1 hall hm hK hmin hle ⊢
    rw [Nat.pow_zero] at hK
    refine ⟨[ceq ls L], 0, .stop (Nat.le_refl _) (fun z => ?_) (by omega) (by omega), RR_nonneg _ _ _ h0⟩
    exfalso
    have : ls = [] := by
      cases ls with
      | nil => rfl
      | cons a r => have := h1 a (by simp); omega
    rw [this] at hm
    simp at hm
  | succ t ih =>
    intro d k K hd hm hK hmin
    have hs1 := clt_succ d ls
    have hs2 := slt_succ L d ls
    have hle := slt_le L (d + 1) ls
    have hc1 := clt_le (d + 1) ls
    have hT := TT_ge d vs ls hlen hs
    have hR := RR_step d vs ls
    have hz : d = 0 → ceq ls d = 0 := fun z => by
      have e1 := clt_none (d := d + 1) ls fun l hl => by have := (h1 l hl).1; omega
      omega
    have hp : 0 < 2 ^ (t + 1) := Nat.pow_pos (by decide)
    rw [show L - d = t + 1 by omega] at hs2
    have hcK : ceq ls d ≤ K := by
      have : ceq ls d * 2 ^ (t + 1) ≤ K * 2 ^ (t + 1) := by omega
      exact Nat.le_of_mul_le_mul_right this hp
    by_cases he : clt ls (d + 1) = ls.length
    · exact ⟨[ceq ls d], 0, .stop (by omega) hz (by omega) (by omega), RR_nonneg _ _ _ h0⟩
    · have hlt := slt_lt L (d + 1) ls (by omega)
      have hcK2 : ceq ls d < K := by
        by_cases z : ceq ls d = K
        · rw [z] at hs2
          omega
        · omega
      have hKe : 2 * (K - ceq ls d) * 2 ^ t + slt L ls (d + 1) = 2 ^ L := by
        have e1 : 2 * (K - ceq ls d) * 2 ^ t = (K - ceq ls d) * 2 ^ (t + 1) := by rw [Nat.pow_succ]; grind
        rw [e1, Nat.sub_mul, hs2]
        have : ceq ls d * 2 ^ (t + 1) ≤ K * 2 ^ (t + 1) := Nat.mul_le_mul_right _ hcK
        omega
      obtain ⟨as, c, hp2, hc⟩ := ih (d + 1) (min (2 * (k - ceq ls d)) (vs.length - clt ls d - ceq ls d)) (2 * (K - ceq ls d)) (by omega) (by omega) hKe (by omega)
      rw [hs1] at hp2
      refine ⟨ceq ls d :: as, S vs (clt ls d + ceq ls d) + c, .go (by omega) hz (by omega) (by omega) hp2, ?_⟩
      rw [hs1] at hT
      omega
theorem path_first (hlen : vs.length = ls.length) (hne : ls ≠ []) (h0 : ∀ v ∈ vs, 0 ≤ v) (hs : vs.Pairwise (fun a b => b ≤ a)) (h1 : ∀ l ∈ ls, 1 ≤ l ∧ l ≤ L) (hk : tot L ls ≤ 2 ^ L) : ∃ as c, Pth vs L 0 0 1 as c ∧ c ≤ RR vs ls 0 := by
  have e := clt_none (d := 0) ls fun l hl => Nat.zero_le l
  have e2 := slt_none (L := L) (d := 0) ls fun l hl => Nat.zero_le l
  have := path_of hlen h0 hs h1 hk L 0 1 1 (by omega) (by rw [e]; exact List.length_pos_iff.mpr hne) (by rw [e2]; omega) (by omega)
  rwa [e] at this
end
/-! ### from choices to lengths -/
def lensF : Nat → List Nat → List Nat
  | _, [] => []
  | d, a :: as => List.replicate a d ++ lensF (d + 1) as
theorem RR_app : ∀ (xs ys : List Int) (ls ms : List Nat) (d : Nat), xs.length = ls.length → RR (xs ++ ys) (ls ++ ms) d = RR xs ls d + RR ys ms d
  | [], ys, [], ms, d, _ => by simp [RR]
  | [], ys, _ :: _, ms, d, h => by simp at h
  | _ :: _, ys, [], ms, d, h => by simp at h
  | x :: xs, ys, l :: ls, ms, d, h => by
    have := RR_app xs ys ls ms d (by simpa using h)
    show x * _ + RR (xs ++ ys) (ls ++ ms) d = x * _ + RR xs ls d + RR ys ms d
    omega
theorem RR_rep (d : Nat) : ∀ (xs : List Int) (a : Nat), xs.length = a → RR xs (List.replicate a d) d = 0
  | [], a, h => by simp [RR]
  | x :: xs, 0, h => by simp at h
  | x :: xs, a + 1, h => by
    have := RR_rep d xs a (by simpa using h)
    rw [List.replicate_succ]
    unfold RR
    rw [Nat.sub_self, this]
    simp
theorem TT_all (d : Nat) : ∀ (xs : List Int) (ls : List Nat), xs.length = ls.length → (∀ l ∈ ls, d < l) → TT xs ls d = xs.sum
  | [], _, _, _ => by simp [TT]
  | x :: xs, [], h, _ => by simp at h
  | x :: xs, l :: ls, h, hl => by
    unfold TT
    rw [if_pos (hl l (by simp)), TT_all d xs ls (by simpa using h) fun y hy => hl y (by simp [hy]), List.sum_cons]
theorem tot_app (L : Nat) : ∀ a b : List Nat, tot L (a ++ b) = tot L a + tot L b
  | [], b => by simp [tot]
  | x :: a, b => by
    have := tot_app L a b
    show _ + tot L (a ++ b) = _ + tot L a + tot L b
    omega
theorem tot_rep (L d : Nat) : ∀ a : Nat, tot L (List.replicate a d) = a * 2 ^ (L - d)
  | 0 => by simp [tot]
  | a + 1 => by
    rw [List.replicate_succ, Nat.add_mul]
    unfold tot
    rw [tot_rep L d a]
    omega
theorem lens_of {vs : List Int} {L d m k : Nat} {as : List Nat} {c : Int} (h : Pth vs L d m k as c) (hm : m ≤ vs.length) :
    (lensF d as).length = vs.length - m ∧ RR (vs.drop m) (lensF d as) d = c ∧ tot L (lensF d as) ≤ k * 2 ^ (L - d) ∧ (∀ l ∈ lensF d as, d ≤ l ∧ l ≤ L) ∧ (d = 0 → ∀ l ∈ lensF d as, 1 ≤ l) := by
  induction h with
  | @stop d m k a hd hz ha hak =>
    have e : lensF d [a] = List.replicate a d := by simp [lensF]
    rw [e]
    refine ⟨by rw [List.length_replicate]; omega, RR_rep d _ a (by rw [List.length_drop]; omega), ?_, fun l hl => ?_, fun z l hl => ?_⟩
    · rw [tot_rep]
      exact Nat.mul_le_mul_right _ hak
    · rw [(List.mem_replicate.mp hl).2]
      exact ⟨Nat.le_refl _, hd⟩
    · have := (List.mem_replicate.mp hl).1
      rw [hz z] at this
      exact absurd rfl this
  | @go d m k a as c hd hz ha hak hp ih =>
    obtain ⟨i1, i2, i3, i4, _⟩ := ih (by omega)
    have e : lensF d (a :: as) = List.replicate a d ++ lensF (d + 1) as := rfl
    rw [e]
    have hdr : vs.drop m = (vs.drop m).take a ++ vs.drop (m + a) := by
      rw [← List.drop_drop]
      exact (List.take_append_drop a (vs.drop m)).symm
    refine ⟨by rw [List.length_append, List.length_replicate, i1]; omega, ?_, ?_, fun l hl => ?_, fun z l hl => ?_⟩
    · rw [hdr, RR_app _ _ _ _ _ (by rw [List.length_take, List.length_drop, List.length_replicate]; omega), RR_rep d _ a (by rw [List.length_take, List.length_drop]; omega), RR_step, i2, TT_all d _ _ (by rw [List.length_drop, i1]) fun l hl => by have := (i4 l hl).1; omega]
      show 0 + (S vs (m + a) + c) = _
      omega
    · rw [tot_app, tot_rep]
      have h1 : min (2 * (k - a)) (vs.length - m - a) * 2 ^ (L - (d + 1)) ≤ 2 * (k - a) * 2 ^ (L - (d + 1)) := Nat.mul_le_mul_right _ (Nat.min_le_left _ _)
      have h2 : 2 * (k - a) * 2 ^ (L - (d + 1)) = (k - a) * 2 ^ (L - d) := by
        rw [show L - d = (L - (d + 1)) + 1 by omega, Nat.pow_succ]
        grind
      have h3 : a * 2 ^ (L - d) + (k - a) * 2 ^ (L - d) = k * 2 ^ (L - d) := by
        rw [← Nat.add_mul, show a + (k - a) = k by omega]
      omega
    · rcases List.mem_append.mp hl with y | y
      · rw [(List.mem_replicate.mp y).2]
        omega
      · have := i4 l y
        omega
    · rcases List.mem_append.mp hl with y | y
      · have := (List.mem_replicate.mp y).1
        rw [hz z] at this
        exact absurd rfl this
      · have := (i4 l y).1
        omega
end M04
set_option linter.all false
/-! The values of stages, the choices of the rule, and lengths by symbol. -/
namespace M04
open M03
abbrev Stg := Int × Int × Int
abbrev Cho := Int × Int × Nxt
/-- the least of those that are there, as a loop keeps it -/
def oadd (best price : Option Int) : Option Int :=
  match price with
  | none => best
  | some p =>
    match best with
    | none => some p
    | some b => if p < b then some p else some b
def omin (l : List (Option Int)) : Option Int := l.foldl oadd none
structure IsMin (o : Option Int) (l : List (Option Int)) : Prop where
  none : o = none → ∀ x ∈ l, x = none
  mem : ∀ v, o = some v → some v ∈ l
  le : ∀ v w, o = some v → some w ∈ l → v ≤ w
theorem IsMin.add {o : Option Int} {l : List (Option Int)} (h : IsMin o l) (p : Option Int) : IsMin (oadd o p) (l ++ [p]) := by
  obtain ⟨h1, h2, h3⟩ := h
  cases p with
  | none =>
    refine ⟨fun e x hx => ?_, fun v e => List.mem_append_left _ (h2 v e), fun v w e hw => ?_⟩
    · rcases List.mem_append.mp hx with y | y
      · exact h1 e x y
      · exact List.mem_singleton.mp y
    · rcases List.mem_append.mp hw with y | y
      · exact h3 v w e y
      · exact absurd (List.mem_singleton.mp y) (by simp)
  | some p =>
    cases o with
    | none =>
      refine ⟨fun e => absurd e (by simp [oadd]), fun v e => ?_, fun v w e hw => ?_⟩
      · simp only [oadd] at e
        rw [e]
        simp
      · simp only [oadd] at e
        rcases List.mem_append.mp hw with y | y
        · exact absurd (h1 rfl _ y) (by simp)
        · have := List.mem_singleton.mp y
          rw [e] at this
          exact Int.le_of_eq (Option.some.inj this).symm
    | some b =>
      by_cases z : p < b
      · have e0 : oadd (some b) (some p) = some p := by simp [oadd, z]
        rw [e0]
        refine ⟨fun e => absurd e (by simp), fun v e => by rw [← e]; simp, fun v w e hw => ?_⟩
        have e := Option.some.inj e
        rcases List.mem_append.mp hw with y | y
        · have := h3 b w rfl y
          omega
        · have := Option.some.inj (List.mem_singleton.mp y)
          omega
      · have e0 : oadd (some b) (some p) = some b := by simp [oadd, z]
        rw [e0]
        refine ⟨fun e => absurd e (by simp), fun v e => List.mem_append_left _ (h2 v e), fun v w e hw => ?_⟩
        rcases List.mem_append.mp hw with y | y
        · exact h3 v w e y
        · have := Option.some.inj (List.mem_singleton.mp y)
          have e := Option.some.inj e
          omega
theorem isMin_nil : IsMin (Option.none) [] := ⟨fun _ x hx => by simp at hx, fun v e => by simp at e, fun v w e => by simp at e⟩
theorem omin_go (l : List (Option Int)) : ∀ (pre : List (Option Int)) (o : Option Int), IsMin o pre → IsMin (l.foldl oadd o) (pre ++ l) := by
  induction l with
  | nil => intro pre o h; simpa using h
  | cons x r ih =>
    intro pre o h
    have := ih (pre ++ [x]) (oadd o x) (h.add x)
    simpa using this
theorem omin_is (l : List (Option Int)) : IsMin (omin l) l := by
  have := omin_go l [] none isMin_nil
  rwa [List.nil_append] at this
theorem omin_snoc (l : List (Option Int)) (x : Option Int) : omin (l ++ [x]) = oadd (omin l) x := by
  unfold omin
  rw [List.foldl_append]
  rfl
theorem IsMin.uniq {a b : Option Int} {l : List (Option Int)} (ha : IsMin a l) (hb : IsMin b l) : a = b := by
  cases a with
  | none =>
    cases b with
    | none => rfl
    | some w => exact absurd (ha.none rfl _ (hb.mem w rfl)) (by simp)
  | some v =>
    cases b with
    | none => exact absurd (hb.none rfl _ (ha.mem v rfl)) (by simp)
    | some w =>
      have h1 := ha.le v w rfl (hb.mem w rfl)
      have h2 := hb.le w v rfl (ha.mem v rfl)
      rw [show v = w by omega]
def chS (sums : List Int) (L : Int) (s : Stg) : List Cho := chL sums L s.1 s.2.1 s.2.2
def lsum (f : Stg → Option Int) (c : Cho) : Option Int :=
  match c.2.2 with
  | none => some c.2.1
  | some s => (f s).map (c.2.1 + ·)
def val (sums : List Int) (L : Int) : Nat → Stg → Option Int
  | 0, s => omin ((chS sums L s).map (lsum fun _ => none))
  | t + 1, s => omin ((chS sums L s).map (lsum (val sums L t)))
def V (sums : List Int) (L : Int) (s : Stg) : Option Int := val sums L (L - s.1).toNat s
def SOk (sums : List Int) (L : Int) (s : Stg) : Prop := StOk sums L s.1 s.2.1 s.2.2
def nN (sums : List Int) : Int := (sums.length : Int) - 1
/-- what a choice is -/
inductive IsCh (sums : List Int) (L d m k : Int) : Cho → Prop
  | stop {a : Int} : 0 ≤ a → a ≤ k → m + a = nN sums → (d = 0 → a = 0) → IsCh sums L d m k (a, 0, none)
  | go {a : Int} : 0 ≤ a → a < k → m + a < nN sums → (d = 0 → a = 0) → d ≠ L → IsCh sums L d m k (a, sums.getD (m + a).toNat 0, some (d + 1, m + a, if nN sums - m - a < 2 * (k - a) then nN sums - m - a else 2 * (k - a)))
theorem ch_mem {sums : List Int} {L d m k : Int} (h : StOk sums L d m k) {c : Cho} : c ∈ chL sums L d m k ↔ IsCh sums L d m k c := by
  obtain ⟨hl, hd, hm, hk⟩ := h
  have hN : nN sums = (sums.length : Int) - 1 := rfl
  constructor
  · intro hc
    obtain ⟨a, ha, e⟩ := List.mem_filterMap.mp hc
    have ha := List.mem_range.mp ha
    unfold chN at ha
    rw [← hN] at ha
    have ha2 : (a : Int) ≤ k ∧ m + a ≤ nN sums := by split at ha <;> omega
    unfold chOne at e
    rw [← hN] at e
    simp only [Bool.and_eq_true, decide_eq_true_eq] at e
    by_cases z : d = L
    · simp only [if_pos z, decide_eq_true_eq] at e
      by_cases y : (a : Int) = nN sums - m
      · rw [if_pos ⟨y, by omega⟩] at e
        rw [← Option.some.inj e]
        exact .stop (by omega) ha2.1 (by omega) (by omega)
      · rw [if_neg (fun q => y q.1), if_neg (fun q => y q.1)] at e
        exact absurd e (by simp)
    · simp only [if_neg z, Bool.or_eq_true, decide_eq_true_eq] at e
      by_cases y : 0 < d ∨ (a : Int) = 0
      · by_cases x : m + (a : Int) = nN sums
        · rw [if_pos ⟨y, x⟩] at e
          rw [← Option.some.inj e]
          exact .stop (by omega) ha2.1 x (by omega)
        · rw [if_neg (fun q => x q.2)] at e
          by_cases w : (a : Int) < k
          · rw [if_pos ⟨y, w⟩] at e
            rw [← Option.some.inj e]
            exact .go (by omega) w (by omega) (by omega) z
          · rw [if_neg (fun q => w q.2)] at e
            exact absurd e (by simp)
      · rw [if_neg (fun q => y q.1), if_neg (fun q => y q.1)] at e
        exact absurd e (by simp)
  · intro hc
    refine List.mem_filterMap.mpr ?_
    cases hc with
    | @stop a h0 h1 h2 h3 =>
      refine ⟨a.toNat, List.mem_range.mpr ?_, ?_⟩
      · unfold chN
        rw [← hN]
        split <;> omega
      · have e : ((a.toNat : Nat) : Int) = a := by omega
        unfold chOne
        rw [← hN, e]
        simp only [Bool.and_eq_true, decide_eq_true_eq]
        rw [if_pos]
        refine ⟨?_, h2⟩
        by_cases z : d = L
        · rw [if_pos z]
          exact decide_eq_true (by omega)
        · rw [if_neg z]
          simp only [Bool.or_eq_true, decide_eq_true_eq]
          omega
    | @go a h0 h1 h2 h3 h4 =>
      refine ⟨a.toNat, List.mem_range.mpr ?_, ?_⟩
      · unfold chN
        rw [← hN]
        split <;> omega
      · have e : ((a.toNat : Nat) : Int) = a := by omega
        unfold chOne
        rw [← hN, e]
        simp only [Bool.and_eq_true, decide_eq_true_eq]
        rw [if_neg (fun q => by omega), if_pos]
        refine ⟨?_, h1⟩
        rw [if_neg h4]
        simp only [Bool.or_eq_true, decide_eq_true_eq]
        omega
theorem next_ok {sums : List Int} {L d m k : Int} (h : StOk sums L d m k) {a p : Int} {s : Stg} (hc : IsCh sums L d m k (a, p, some s)) : SOk sums L s ∧ s.1 = d + 1 ∧ d < L := by
  obtain ⟨hl, hd, hm, hk⟩ := h
  cases hc with
  | go h0 h1 h2 h3 h4 =>
    have hN : nN sums = (sums.length : Int) - 1 := rfl
    refine ⟨⟨hl, ?_, ?_, ?_⟩, rfl, by omega⟩
    · show 0 ≤ d + 1 ∧ d + 1 ≤ L
      omega
    · show 0 ≤ m + a ∧ m + a < _
      omega
    · show 1 ≤ if nN sums - m - a < 2 * (k - a) then nN sums - m - a else 2 * (k - a)
      split <;> omega
theorem lsum_congr {f g : Stg → Option Int} {c : Cho} (h : ∀ s, c.2.2 = some s → f s = g s) : lsum f c = lsum g c := by
  unfold lsum
  cases e : c.2.2 with
  | none => rfl
  | some s => simp only [h s e]
theorem V_eq {sums : List Int} {L : Int} {s : Stg} (h : SOk sums L s) : V sums L s = omin ((chS sums L s).map (lsum (V sums L))) := by
  have hm : ∀ c ∈ chS sums L s, ∀ s', c.2.2 = some s' → s'.1 = s.1 + 1 ∧ s.1 < L := fun c hc s' e => by
    obtain ⟨a, p, nx⟩ := c
    have hc := (ch_mem h).mp hc
    have e : nx = some s' := e
    subst e
    exact (next_ok h hc).2
  have hd := h.d
  unfold V
  generalize ht : (L - s.1).toNat = t
  cases t with
  | zero =>
    unfold val
    congr 1
    refine List.map_congr_left fun c hc => lsum_congr fun s' e => ?_
    have := hm c hc s' e
    omega
  | succ t =>
    rw [val]
    congr 1
    refine List.map_congr_left fun c hc => lsum_congr fun s' e => ?_
    have := hm c hc s' e
    rw [show (L - s'.1).toNat = t by omega]
theorem S_get (vs : List Int) : ∀ m, m ≤ vs.length → (restL vs).getD m 0 = S vs m := by
  induction vs with
  | nil => intro m h; simp at h; subst h; rfl
  | cons v r ih =>
    intro m h
    cases m with
    | zero =>
      have := ih 0 (by omega)
      rw [restL_get0] at this
      show v + (restL r).headD 0 = _
      rw [this]
      simp [S]
    | succ m =>
      have := ih m (by simpa using h)
      show (restL r).getD m 0 = _
      rw [this]
      simp [S]
section
variable {vs : List Int} {L : Nat}
def st (d m k : Nat) : Stg := ((d : Int), (m : Int), (k : Int))
theorem nN_rest (vs : List Int) : nN (restL vs) = vs.length := by
  unfold nN; rw [restL_len]; push_cast; omega
theorem sok {d m k : Nat} (hL : 1 ≤ L) (hd : d ≤ L) (hm : m < vs.length) (hk : 1 ≤ k) : SOk (restL vs) L (st d m k) := by
  refine ⟨by omega, ?_, ?_, ?_⟩
  · show (0 : Int) ≤ d ∧ (d : Int) ≤ L
    omega
  · show (0 : Int) ≤ m ∧ (m : Int) < ((restL vs).length : Int) - 1
    rw [restL_len]
    omega
  · show (1 : Int) ≤ k
    omega
theorem mn (x y : Nat) : (if (x : Int) < (y : Int) then (x : Int) else (y : Int)) = ((min y x : Nat) : Int) := by
  split <;> omega
theorem ch_stop {d m k a : Nat} (h1 : a ≤ k) (h2 : m + a = vs.length) (h3 : d = 0 → a = 0) : IsCh (restL vs) L d m k ((a : Int), 0, none) :=
  .stop (by omega) (by omega) (by rw [nN_rest]; omega) (by omega)
theorem ch_go {d m k a : Nat} (h1 : a < k) (h2 : m + a < vs.length) (h3 : d = 0 → a = 0) (h4 : d < L) : IsCh (restL vs) L d m k ((a : Int), S vs (m + a), some (st (d + 1) (m + a) (min (2 * (k - a)) (vs.length - m - a)))) := by
  have h := IsCh.go (sums := restL vs) (L := L) (d := d) (m := m) (k := k) (a := (a : Int)) (by omega) (by omega) (by rw [nN_rest]; omega) (by omega) (by omega)
  have e1 : ((m : Int) + (a : Int)).toNat = m + a := by omega
  have e2 : (vs.length : Int) - m - a = ((vs.length - m - a : Nat) : Int) := by omega
  have e3 : 2 * ((k : Int) - a) = ((2 * (k - a) : Nat) : Int) := by omega
  rw [nN_rest, e1, S_get _ _ (by omega), e2, e3, mn] at h
  have e4 : st (d + 1) (m + a) (min (2 * (k - a)) (vs.length - m - a)) = ((d : Int) + 1, (m : Int) + a, ((min (2 * (k - a)) (vs.length - m - a) : Nat) : Int)) := by
    unfold st
    push_cast
    rfl
  rw [e4]
  exact h
/-- a value is not above what any path costs -/
theorem val_le (hL : 1 ≤ L) {d m k : Nat} {as : List Nat} {c : Int} (h : Pth vs L d m k as c) : m < vs.length → 1 ≤ k → ∃ v, V (restL vs) L (st d m k) = some v ∧ v ≤ c := by
  induction h with
  | @stop d m k a hd hz ha hak =>
    intro hm hk
    have ok := sok (vs := vs) hL hd hm hk
    have hc : ((a : Int), (0 : Int), (none : Nxt)) ∈ chS (restL vs) L (st d m k) := (ch_mem ok).mpr (ch_stop hak ha hz)
    rw [V_eq ok]
    have hi := omin_is ((chS (restL vs) L (st d m k)).map (lsum (V (restL vs) L)))
    have hmem : some (0 : Int) ∈ (chS (restL vs) L (st d m k)).map (lsum (V (restL vs) L)) := List.mem_map.mpr ⟨_, hc, rfl⟩
    cases e : omin ((chS (restL vs) L (st d m k)).map (lsum (V (restL vs) L))) with
    | none => exact absurd (hi.none e _ hmem) (by simp)
    | some v => exact ⟨v, rfl, hi.le v 0 e hmem⟩
  | @go d m k a as c hd hz ha hak hp ih =>
    intro hm hk
    have ok := sok (vs := vs) hL (Nat.le_of_lt hd) hm hk
    obtain ⟨v, hv, hvc⟩ := ih ha (by omega)
    have hc := (ch_mem ok).mpr (ch_go (L := L) hak ha hz hd)
    rw [V_eq ok]
    have hi := omin_is ((chS (restL vs) L (st d m k)).map (lsum (V (restL vs) L)))
    have hmem : some (S vs (m + a) + v) ∈ (chS (restL vs) L (st d m k)).map (lsum (V (restL vs) L)) := List.mem_map.mpr ⟨_, hc, by simp only [lsum, hv]; rfl⟩
    cases e : omin ((chS (restL vs) L (st d m k)).map (lsum (V (restL vs) L))) with
    | none => exact absurd (hi.none e _ hmem) (by simp)
    | some w => exact ⟨w, rfl, by have := hi.le w _ e hmem; omega⟩
/-- the choice of the rule: the last one with the least sum -/
def pick (sums : List Int) (L : Int) (s : Stg) : Option Cho := ((chS sums L s).filter fun c => decide (lsum (V sums L) c = V sums L s)).getLast?
theorem pick_some {sums : List Int} {L : Int} {s : Stg} (h : SOk sums L s) {v : Int} (hv : V sums L s = some v) : ∃ c, pick sums L s = some c ∧ c ∈ chS sums L s ∧ lsum (V sums L) c = some v := by
  have hi := omin_is ((chS sums L s).map (lsum (V sums L)))
  rw [← V_eq h] at hi
  obtain ⟨c, hc, e⟩ := List.mem_map.mp (hi.mem v hv)
  have hf : c ∈ (chS sums L s).filter fun c => decide (lsum (V sums L) c = V sums L s) := List.mem_filter.mpr ⟨hc, decide_eq_true (by rw [e, hv])⟩
  cases e2 : ((chS sums L s).filter fun c => decide (lsum (V sums L) c = V sums L s)).getLast? with
  | none => rw [List.getLast?_eq_none_iff.mp e2] at hf; simp at hf
  | some c' =>
    have hm := List.mem_of_getLast? e2
    obtain ⟨m1, m2⟩ := List.mem_filter.mp hm
    have m2 := of_decide_eq_true m2
    exact ⟨c', e2, m1, by rw [m2, hv]⟩
/-- the choices of the rule, one after the other -/
def due (sums : List Int) (L : Int) : Nat → Stg → List Nat
  | 0, _ => []
  | t + 1, s =>
    match pick sums L s with
    | none => []
    | some c =>
      match c.2.2 with
      | none => [c.1.toNat]
      | some s' => c.1.toNat :: due sums L t s'
theorem due_path (hL : 1 ≤ L) : ∀ (t d m k : Nat) (v : Int), L - d < t → d ≤ L → m < vs.length → 1 ≤ k → V (restL vs) L (st d m k) = some v → Pth vs L d m k (due (restL vs) L t (st d m k)) v := by
  intro t
  induction t with
  | zero => intro d m k v h; omega
  | succ t ih =>
    intro d m k v ht hd hm hk hv
    have ok := sok (vs := vs) hL hd hm hk
    obtain ⟨c, hp, hc, hs⟩ := pick_some ok hv
    have hc := (ch_mem ok).mp hc
    rw [due, hp]
    simp only
    cases hc with
    | @stop a h0 h1 h2 h3 =>
      rw [nN_rest] at h2
      have : v = 0 := (Option.some.inj hs).symm
      subst this
      refine .stop hd (fun z => ?_) ?_ ?_
      · have : (st d m k).1 = 0 := by show (d : Int) = 0; omega
        have := h3 this
        show a.toNat = 0
        omega
      · have : (st d m k).2.1 = m := rfl
        show m + a.toNat = _
        omega
      · have : (st d m k).2.2 = k := rfl
        show a.toNat ≤ k
        omega
    | @go a h0 h1 h2 h3 h4 =>
      have e1 : (st d m k).1 = d := rfl
      have e2 : (st d m k).2.1 = m := rfl
      have e3 : (st d m k).2.2 = k := rfl
      rw [nN_rest, e2] at h2
      rw [e3] at h1
      rw [e1] at h3 h4
      obtain ⟨b, rfl⟩ : ∃ b : Nat, a = b := ⟨a.toNat, by omega⟩
      have h5 := ch_go (vs := vs) (L := L) (d := d) (m := m) (k := k) (a := b) (by omega) (by omega) (by omega) (by omega)
      have e5 : ((restL vs).getD (m + (b : Int)).toNat 0) = S vs (m + b) := by
        rw [show ((m : Int) + (b : Int)).toNat = m + b by omega, S_get _ _ (by omega)]
      have e6 : (((d : Int) + 1, (m : Int) + b, if (vs.length : Int) - m - b < 2 * ((k : Int) - b) then (vs.length : Int) - m - b else 2 * ((k : Int) - b)) : Stg) = st (d + 1) (m + b) (min (2 * (k - b)) (vs.length - m - b)) := by
        have e2 : (vs.length : Int) - m - b = ((vs.length - m - b : Nat) : Int) := by omega
        have e3 : 2 * ((k : Int) - b) = ((2 * (k - b) : Nat) : Int) := by omega
        rw [e2, e3, mn]
        unfold st
        push_cast
        rfl
      simp only [lsum, e1, e2, e3, nN_rest, e5, e6] at hs
      simp only [e1, e2, e3, nN_rest, e6]
      cases hv2 : V (restL vs) L (st (d + 1) (m + b) (min (2 * (k - b)) (vs.length - m - b))) with
      | none => rw [hv2] at hs; simp at hs
      | some w =>
        rw [hv2] at hs
        have hs : S vs (m + b) + w = v := Option.some.inj hs
        rw [← hs]
        exact .go (by omega) (fun z => by omega) (by omega) (by omega) (ih _ _ _ _ (by omega) (by omega) (by omega) (by omega) hv2)
end
end M04
set_option linter.all false
/-! The mathematics of prefix codes: lengths, room, canonical words. -/
namespace M01
def lnA (ls : List Int) (k : Nat) : Nat := (ls.getD k 0).toNat
/-- lengths from 0 to 20 -/
def Lok (ls : List Int) : Prop := ∀ x ∈ ls, 0 ≤ x ∧ x ≤ 20
def share (x : Int) : Int := if x = 0 then 0 else (2 : Int) ^ (20 - x.toNat)
def kraft (ls : List Int) : Int := (ls.map share).sum
def roomL (ls : List Int) : Int := 1048576 - kraft ls
theorem kraft_app (a b : List Int) : kraft (a ++ b) = kraft a + kraft b := by
  unfold kraft
  rw [List.map_append, List.sum_append]
theorem pow_nn (n : Nat) : (0 : Int) ≤ 2 ^ n := Int.le_of_lt (Int.pow_pos (by decide))
theorem share_nn (x : Int) : 0 ≤ share x := by
  unfold share
  split
  · exact Int.le_refl _
  · exact pow_nn _
theorem pow20 : ∀ l : Nat, l ≤ 20 → (1048576 : Int) / (1 * 2 ^ l) = 2 ^ (20 - l) := fun l h => by
  have : ∀ l : Fin 21, (1048576 : Int) / (1 * 2 ^ l.val) = 2 ^ (20 - l.val) := by decide
  exact this ⟨l, by omega⟩
theorem share_bd (x : Int) : share x ≤ 1048576 := by
  unfold share
  split
  · decide
  · have : ∀ y : Fin 21, (2 : Int) ^ y.val ≤ 1048576 := by decide
    exact this ⟨20 - x.toNat, by omega⟩
theorem kraft_zero : ∀ ls : List Int, (∀ x ∈ ls, x = 0) → kraft ls = 0
  | [], _ => rfl
  | x :: r, h => by
    have h1 := kraft_zero r fun y hy => h y (List.mem_cons_of_mem _ hy)
    have h2 := h x List.mem_cons_self
    subst h2
    show share 0 + kraft r = 0
    rw [h1]
    rfl
/-! ### the order: by length, then by symbol -/
def Lx (ls : List Int) (k j : Nat) : Prop := lnA ls k < lnA ls j ∨ (lnA ls k = lnA ls j ∧ k < j)
theorem Lx.irrefl {ls : List Int} {k : Nat} (h : Lx ls k k) : False := by
  unfold Lx at h; omega
theorem Lx.asymm {ls : List Int} {k j : Nat} (h : Lx ls k j) (h2 : Lx ls j k) : False := by
  unfold Lx at h h2; omega
theorem uniq (ls : List Int) : ∀ (a b : List Nat), a.Pairwise (Lx ls) → b.Pairwise (Lx ls) → (∀ k, k ∈ a ↔ k ∈ b) → a = b
  | [], [], _, _, _ => rfl
  | [], y :: b, _, _, h => absurd ((h y).mpr List.mem_cons_self) (by simp)
  | x :: a, [], _, _, h => absurd ((h x).mp List.mem_cons_self) (by simp)
  | x :: a, y :: b, ha, hb, h => by
    have ha' := List.pairwise_cons.mp ha
    have hb' := List.pairwise_cons.mp hb
    have e : x = y := by
      rcases List.mem_cons.mp ((h x).mp List.mem_cons_self) with e | e
      · exact e
      · rcases List.mem_cons.mp ((h y).mpr List.mem_cons_self) with e2 | e2
        · exact e2.symm
        · exact (Lx.asymm (hb'.1 x e) (ha'.1 y e2)).elim
    subst e
    rw [uniq ls a b ha'.2 hb'.2 fun k => ?_]
    constructor
    · intro hk
      rcases List.mem_cons.mp ((h k).mp (List.mem_cons_of_mem _ hk)) with e | e
      · subst e; exact (Lx.irrefl (ha'.1 _ hk)).elim
      · exact e
    · intro hk
      rcases List.mem_cons.mp ((h k).mpr (List.mem_cons_of_mem _ hk)) with e | e
      · subst e; exact (Lx.irrefl (hb'.1 _ hk)).elim
      · exact e
structure IsOrd (ls : List Int) (o : List Nat) : Prop where
  pw : o.Pairwise (Lx ls)
  mem : ∀ k, k ∈ o ↔ k < ls.length ∧ 0 < lnA ls k
/-- the order as far as (L, k) -/
structure Proc (ls : List Int) (L k : Nat) (o : List Nat) : Prop where
  pw : o.Pairwise (Lx ls)
  mem : ∀ s, s ∈ o ↔ s < ls.length ∧ 0 < lnA ls s ∧ (lnA ls s < L ∨ (lnA ls s = L ∧ s < k))
theorem Proc.zero (ls : List Int) : Proc ls 1 0 [] := ⟨.nil, fun s => by simp; omega⟩
theorem Proc.skip {ls : List Int} {L k : Nat} {o : List Nat} (h : Proc ls L k o) (e : lnA ls k ≠ L) : Proc ls L (k + 1) o := ⟨h.pw, fun s => by
  rw [h.mem]
  constructor
  · rintro ⟨a, b, c⟩
    exact ⟨a, b, by omega⟩
  · rintro ⟨a, b, c⟩
    refine ⟨a, b, ?_⟩
    rcases c with c | ⟨c, d⟩
    · exact .inl c
    · by_cases z : s = k
      · subst z; exact absurd c e
      · exact .inr ⟨c, by omega⟩⟩
theorem Proc.add {ls : List Int} {L k : Nat} {o : List Nat} (h : Proc ls L k o) (e : lnA ls k = L) (hL : 0 < L) (hk : k < ls.length) : Proc ls L (k + 1) (o ++ [k]) ∧ k ∉ o := by
  have hn : k ∉ o := fun z => by have := (h.mem k).mp z; omega
  refine ⟨⟨List.pairwise_append.mpr ⟨h.pw, List.pairwise_singleton _ _, fun a ha b hb => ?_⟩, fun s => ?_⟩, hn⟩
  · rw [List.mem_singleton.mp hb]
    have := (h.mem a).mp ha
    unfold Lx
    omega
  · rw [List.mem_append, h.mem, List.mem_singleton]
    constructor
    · rintro (⟨a, b, c⟩ | rfl)
      · exact ⟨a, b, by omega⟩
      · exact ⟨hk, by omega, by omega⟩
    · rintro ⟨a, b, c⟩
      by_cases z : s = k
      · exact .inr z
      · exact .inl ⟨a, b, by omega⟩
theorem Proc.next {ls : List Int} {L : Nat} {o : List Nat} (h : Proc ls L ls.length o) : Proc ls (L + 1) 0 o := ⟨h.pw, fun s => by
  rw [h.mem]
  constructor
  · rintro ⟨a, b, c⟩
    exact ⟨a, b, by omega⟩
  · rintro ⟨a, b, c⟩
    exact ⟨a, b, by omega⟩⟩
theorem ln_le {ls : List Int} (h : Lok ls) (k : Nat) : lnA ls k ≤ 20 := by
  unfold lnA
  by_cases hk : k < ls.length
  · have := h _ (List.getElem_mem hk)
    rw [List.getD_eq_getElem?_getD, List.getElem?_eq_getElem hk]
    show (ls[k]).toNat ≤ 20
    omega
  · rw [List.getD_eq_getElem?_getD, List.getElem?_eq_none (by omega)]
    decide
theorem Proc.whole {ls : List Int} {o : List Nat} (hl : Lok ls) (h : Proc ls 21 0 o) : IsOrd ls o := ⟨h.pw, fun s => by
  rw [h.mem]
  have := ln_le hl s
  constructor
  · rintro ⟨a, b, c⟩
    exact ⟨a, b⟩
  · rintro ⟨a, b⟩
    exact ⟨a, b, by omega⟩⟩
theorem IsOrd.uniq {ls : List Int} {a b : List Nat} (ha : IsOrd ls a) (hb : IsOrd ls b) : a = b := M01.uniq ls a b ha.pw hb.pw fun k => (ha.mem k).trans (hb.mem k).symm
/-! ### words -/
def bitsL (x l : Nat) : List Int := (List.range l).map fun j => ((x / 2 ^ (l - 1 - j) % 2 : Nat) : Int)
theorem bits_len (x l : Nat) : (bitsL x l).length = l := by simp [bitsL]
def xs (ls : List Int) (o : List Nat) : Nat := (o.map fun s => 2 ^ (20 - lnA ls s)).sum
theorem xs_snoc (ls : List Int) (o : List Nat) (s : Nat) : xs ls (o ++ [s]) = xs ls o + 2 ^ (20 - lnA ls s) := by
  unfold xs
  rw [List.map_append, List.sum_append]
  simp
def wd (ls : List Int) (o : List Nat) (s : Nat) : List Int := bitsL (xs ls o / 2 ^ (20 - lnA ls s)) (lnA ls s)
def upTo (o : List Nat) (k : Nat) : List Nat := o.takeWhile fun x => decide (x ≠ k)
theorem upTo_app {o : List Nat} {k s : Nat} (h : k ∈ o) : upTo (o ++ [s]) k = upTo o k := by
  unfold upTo
  induction o with
  | nil => simp at h
  | cons x r ih =>
    by_cases e : x = k
    · subst e
      simp
    · have h' : k ∈ r := by
        rcases List.mem_cons.mp h with z | z
        · exact absurd z.symm e
        · exact z
      simp only [List.cons_append]
      rw [List.takeWhile_cons_of_pos (by simpa using e), List.takeWhile_cons_of_pos (by simpa using e), ih h']
theorem upTo_new {o : List Nat} {s : Nat} (h : s ∉ o) : upTo (o ++ [s]) s = o := by
  unfold upTo
  induction o with
  | nil => simp
  | cons x r ih =>
    have hx : x ≠ s := fun z => h (by rw [z]; exact List.mem_cons_self)
    simp only [List.cons_append]
    rw [List.takeWhile_cons_of_pos (by simpa using hx), ih fun z => h (List.mem_cons_of_mem _ z)]
def ent (ls : List Int) (o : List Nat) (k : Nat) : Option (List Int) := if k ∈ o then some (wd ls (upTo o k) k) else none
def tabOf (ls : List Int) (o : List Nat) : List (Option (List Int)) := (List.range ls.length).map (ent ls o)
theorem tab_len (ls : List Int) (o : List Nat) : (tabOf ls o).length = ls.length := by simp [tabOf]
theorem tab_at {ls : List Int} {o : List Nat} {k : Nat} (h : k < ls.length) : (tabOf ls o)[k]? = some (ent ls o k) := by
  unfold tabOf
  rw [List.getElem?_map, List.getElem?_range h]
  rfl
theorem tab_nil (ls : List Int) : tabOf ls [] = List.replicate ls.length none := by
  refine List.ext_getElem? fun k => ?_
  by_cases h : k < ls.length
  · rw [tab_at h, List.getElem?_replicate, if_pos h]
    rfl
  · rw [List.getElem?_eq_none (by rw [tab_len]; omega), List.getElem?_eq_none (by rw [List.length_replicate]; omega)]
theorem ent_add {ls : List Int} {o : List Nat} {s k : Nat} (hs : s ∉ o) : ent ls (o ++ [s]) k = if k = s then some (wd ls o s) else ent ls o k := by
  unfold ent
  by_cases e : k = s
  · subst e
    rw [if_pos (List.mem_append_right _ (List.mem_singleton.mpr rfl)), if_pos rfl, upTo_new hs]
  · rw [if_neg e]
    by_cases h : k ∈ o
    · rw [if_pos (List.mem_append_left _ h), if_pos h, upTo_app h]
    · rw [if_neg fun z => ?_, if_neg h]
      rcases List.mem_append.mp z with z | z
      · exact h z
      · exact e (List.mem_singleton.mp z)
/-! ### no word begins another one -/
theorem nodup_sum (f : Nat → Nat) : ∀ (l m : List Nat), l.Nodup → (∀ x ∈ l, x ∈ m) → (l.map f).sum ≤ (m.map f).sum
  | [], _, _, _ => Nat.zero_le _
  | x :: l, m, h, hs => by
    have h' := List.nodup_cons.mp h
    have hx := hs x List.mem_cons_self
    have h1 := nodup_sum f l (m.erase x) h'.2 fun y hy => (List.mem_erase_of_ne (fun e => h'.1 (by rw [← e]; exact hy))).mpr (hs y (List.mem_cons_of_mem _ hy))
    have h2 := ((List.perm_cons_erase hx).map f).sum_nat
    rw [h2]
    simp only [List.map_cons, List.sum_cons]
    omega
theorem IsOrd.nodup {ls : List Int} {o : List Nat} (h : IsOrd ls o) : o.Nodup := h.pw.imp fun {a b} h e => by subst e; exact h.irrefl
theorem kraft_sum : ∀ ls : List Int, (∀ x ∈ ls, 0 ≤ x) → (((List.range ls.length).map fun k => if lnA ls k = 0 then 0 else 2 ^ (20 - lnA ls k)).sum : Nat) = kraft ls
  | [], _ => rfl
  | x :: r, h => by
    have ih := kraft_sum r fun y hy => h y (List.mem_cons_of_mem _ hy)
    have hx := h x List.mem_cons_self
    rw [List.length_cons, List.range_succ_eq_map, List.map_cons, List.map_map, List.sum_cons]
    have e : (fun k => if lnA (x :: r) k = 0 then 0 else 2 ^ (20 - lnA (x :: r) k)) ∘ Nat.succ = fun k => if lnA r k = 0 then 0 else 2 ^ (20 - lnA r k) := by
      funext k
      rfl
    rw [e, Int.natCast_add, ih]
    show _ = share x + kraft r
    congr 1
    show (((if x.toNat = 0 then 0 else 2 ^ (20 - x.toNat)) : Nat) : Int) = share x
    unfold share
    by_cases z : x = 0
    · subst z; rfl
    · rw [if_neg (by omega), if_neg z]
      simp
theorem xs_le {ls : List Int} {o : List Nat} (hl : Lok ls) (h : IsOrd ls o) : (xs ls o : Int) ≤ kraft ls := by
  rw [← kraft_sum ls fun x hx => (hl x hx).1]
  have h1 := nodup_sum (fun k => if lnA ls k = 0 then 0 else 2 ^ (20 - lnA ls k)) o (List.range ls.length) h.nodup fun x hx => List.mem_range.mpr ((h.mem x).mp hx).1
  have h2 : (o.map fun k => if lnA ls k = 0 then 0 else 2 ^ (20 - lnA ls k)) = o.map fun s => 2 ^ (20 - lnA ls s) := by
    refine List.map_congr_left fun k hk => ?_
    have := ((h.mem k).mp hk).2
    rw [if_neg (by omega)]
  rw [h2] at h1
  unfold xs
  exact_mod_cast h1
theorem bits_mod (x y : Nat) : ∀ l, (∀ i, i < l → x / 2 ^ i % 2 = y / 2 ^ i % 2) → x % 2 ^ l = y % 2 ^ l
  | 0, _ => by rw [Nat.pow_zero, Nat.mod_one, Nat.mod_one]
  | l + 1, h => by
    rw [Nat.pow_succ, Nat.mod_mul, Nat.mod_mul, bits_mod x y l fun i hi => h i (by omega), h l (by omega)]
theorem bits_inj {x y l : Nat} (hx : x < 2 ^ l) (hy : y < 2 ^ l) (h : bitsL x l = bitsL y l) : x = y := by
  have h1 := bits_mod x y l fun i hi => by
    have h2 := congrArg (fun z => z[l - 1 - i]?) h
    have h3 : l - 1 - (l - 1 - i) = i := by omega
    simp only [bitsL, List.getElem?_map, List.getElem?_range (show l - 1 - i < l by omega), Option.map_some, h3, Option.some.injEq] at h2
    exact_mod_cast h2
  rwa [Nat.mod_eq_of_lt hx, Nat.mod_eq_of_lt hy] at h1
theorem bits_take {x l m : Nat} (h : m ≤ l) : (bitsL x l).take m = bitsL (x / 2 ^ (l - m)) m := by
  refine List.ext_getElem? fun j => ?_
  by_cases hj : j < m
  · rw [List.getElem?_take_of_lt hj]
    simp only [bitsL, List.getElem?_map, List.getElem?_range (show j < l by omega), List.getElem?_range hj, Option.map_some, Nat.div_div_eq_div_mul, ← Nat.pow_add]
    have : l - m + (m - 1 - j) = l - 1 - j := by omega
    rw [this]
  · rw [List.getElem?_eq_none (by rw [List.length_take, bits_len]; omega), List.getElem?_eq_none (by rw [bits_len]; omega)]
/-- where a symbol stands in the order -/
theorem split_at {o : List Nat} {k : Nat} (h : k ∈ o) : ∃ r, o = upTo o k ++ k :: r := by
  unfold upTo
  induction o with
  | nil => simp at h
  | cons x t ih =>
    by_cases e : x = k
    · subst e
      exact ⟨t, by simp⟩
    · have h' : k ∈ t := by
        rcases List.mem_cons.mp h with z | z
        · exact absurd z.symm e
        · exact z
      obtain ⟨r, hr⟩ := ih h'
      refine ⟨r, ?_⟩
      rw [List.takeWhile_cons_of_pos (by simpa using e), List.cons_append, ← hr]
theorem xs_app (ls : List Int) (a b : List Nat) : xs ls (a ++ b) = xs ls a + xs ls b := by
  unfold xs
  rw [List.map_append, List.sum_append]
theorem upTo_mem {o : List Nat} {k x : Nat} (h : x ∈ upTo o k) : x ∈ o := (List.takeWhile_sublist _).subset h
theorem pos_lt {ls : List Int} {o : List Nat} (hl : Lok ls) (h : IsOrd ls o) (hk : kraft ls ≤ 1048576) {k : Nat} (hm : k ∈ o) : xs ls (upTo o k) + 2 ^ (20 - lnA ls k) ≤ 2 ^ 20 := by
  obtain ⟨r, e⟩ := split_at hm
  have h1 := xs_le hl h
  have h2 : xs ls o = xs ls (upTo o k) + (2 ^ (20 - lnA ls k) + xs ls r) := by
    rw (occs := .pos [1]) [e]
    rw [xs_app]
    simp [xs]
  have h3 : ((xs ls o : Nat) : Int) ≤ 1048576 := by omega
  have h4 : xs ls o ≤ 1048576 := by omega
  have h5 : (2 : Nat) ^ 20 = 1048576 := by decide
  omega
theorem before {ls : List Int} {o : List Nat} (h : IsOrd ls o) {a b : Nat} (ha : a ∈ o) (hb : b ∈ o) (hab : Lx ls a b) : xs ls (upTo o a) + 2 ^ (20 - lnA ls a) ≤ xs ls (upTo o b) := by
  obtain ⟨r, e⟩ := split_at hb
  have ham : a ∈ upTo o b := by
    have h1 : a ∈ upTo o b ++ b :: r := by rw [← e]; exact ha
    rcases List.mem_append.mp h1 with z | z
    · exact z
    · exfalso
      rcases List.mem_cons.mp z with z | z
      · subst z; exact hab.irrefl
      · have h2 := h.pw
        rw [e] at h2
        have h3 := (List.pairwise_cons.mp (List.pairwise_append.mp h2).2.1).1 a z
        exact hab.asymm h3
  obtain ⟨r2, e2⟩ := split_at ham
  have h5 : upTo (upTo o b) a = upTo o a := by
    rw (occs := .pos [2]) [e]
    have : ∀ (t u : List Nat), a ∈ t → upTo (t ++ u) a = upTo t a := fun t u ht => by
      clear e2 ham e h ha hb hab
      unfold upTo
      induction t with
      | nil => simp at ht
      | cons x t ih =>
        by_cases q : x = a
        · subst q; simp
        · have h' : a ∈ t := by
            rcases List.mem_cons.mp ht with z | z
            · exact absurd z.symm q
            · exact z
          simp only [List.cons_append]
          rw [List.takeWhile_cons_of_pos (by simpa using q), List.takeWhile_cons_of_pos (by simpa using q), ih h']
    exact (this _ _ ham).symm
  rw [e2, h5, xs_app]
  have : xs ls (a :: r2) = 2 ^ (20 - lnA ls a) + xs ls r2 := by simp [xs]
  omega
theorem Lx.total {ls : List Int} {k j : Nat} (h : k ≠ j) : Lx ls k j ∨ Lx ls j k := by
  unfold Lx; omega
theorem clash {ls : List Int} {o : List Nat} (hl : Lok ls) (h : IsOrd ls o) (hk : kraft ls ≤ 1048576) {a b : Nat} (ha : a ∈ o) (hb : b ∈ o) (hab : Lx ls a b) (hle : lnA ls a ≤ lnA ls b) : (wd ls (upTo o b) b).take (lnA ls a) ≠ wd ls (upTo o a) a := by
  intro e
  have l1 := ln_le hl a
  have l2 := ln_le hl b
  unfold wd at e
  rw [bits_take hle, Nat.div_div_eq_div_mul, ← Nat.pow_add] at e
  have e1 : 20 - lnA ls b + (lnA ls b - lnA ls a) = 20 - lnA ls a := by omega
  rw [e1] at e
  have p1 := pos_lt hl h hk ha
  have p2 := pos_lt hl h hk hb
  have b1 := before h ha hb hab
  have hp : 0 < 2 ^ (20 - lnA ls a) := Nat.pow_pos (by decide)
  have hp2 : 0 < 2 ^ (20 - lnA ls b) := Nat.pow_pos (by decide)
  have hm : (2 : Nat) ^ 20 = 2 ^ lnA ls a * 2 ^ (20 - lnA ls a) := by rw [← Nat.pow_add]; congr 1; omega
  have q1 : xs ls (upTo o b) / 2 ^ (20 - lnA ls a) < 2 ^ lnA ls a := (Nat.div_lt_iff_lt_mul hp).mpr (by omega)
  have q2 : xs ls (upTo o a) / 2 ^ (20 - lnA ls a) < 2 ^ lnA ls a := (Nat.div_lt_iff_lt_mul hp).mpr (by omega)
  have e2 := bits_inj q1 q2 e
  have q3 : (xs ls (upTo o a) + 2 ^ (20 - lnA ls a)) / 2 ^ (20 - lnA ls a) ≤ xs ls (upTo o b) / 2 ^ (20 - lnA ls a) := Nat.div_le_div_right b1
  rw [Nat.add_div_right _ hp] at q3
  omega
/-- no word is the beginning of another one -/
theorem free {ls : List Int} {o : List Nat} (hl : Lok ls) (h : IsOrd ls o) (hk : kraft ls ≤ 1048576) {a b : Nat} (ha : a ∈ o) (hb : b ∈ o) (hab : a ≠ b) : (wd ls (upTo o b) b).take (lnA ls a) ≠ wd ls (upTo o a) a := by
  rcases Lx.total (ls := ls) hab with z | z
  · exact clash hl h hk ha hb z (by unfold Lx at z; omega)
  · intro e
    have hle : lnA ls b ≤ lnA ls a := by unfold Lx at z; omega
    have h1 : (wd ls (upTo o b) b).length = lnA ls b := bits_len _ _
    have h2 : (wd ls (upTo o a) a).length = lnA ls a := bits_len _ _
    have h3 := congrArg List.length e
    rw [List.length_take, h1, h2] at h3
    have h4 : lnA ls a = lnA ls b := by omega
    have h5 := clash hl h hk hb ha z hle
    apply h5
    rw [← h4, List.take_of_length_le (by rw [h2]; exact Nat.le_refl _), ← e, h4, List.take_of_length_le (by rw [h1]; exact Nat.le_refl _)]
end M01
set_option linter.all false
set_option exponentiation.threshold 2048
/-! Lengths by symbol, their cost, and the least of all lists. -/
namespace M04
open M03
def wr (acc : List Int) (d : Nat) (syms : List Nat) : List Int := syms.foldl (fun acc s => acc.set s (d : Int)) acc
def scat (ord : List Nat) : Nat → Nat → List Nat → List Int → List Int
  | _, _, [], acc => acc
  | d, m, a :: as, acc => scat ord (d + 1) (m + a) as (wr acc d ((ord.drop m).take a))
def setAll : List Int → List Nat → List Nat → List Int
  | acc, x :: xs, l :: ls => setAll (acc.set x (l : Int)) xs ls
  | acc, _, _ => acc
theorem setAll_rep (d : Nat) (ys ls : List Nat) : ∀ (xs : List Nat) (acc : List Int), setAll acc (xs ++ ys) (List.replicate xs.length d ++ ls) = setAll (wr acc d xs) ys ls
  | [], acc => by simp [wr]
  | x :: xs, acc => by
    rw [List.length_cons, List.replicate_succ]
    exact setAll_rep d ys ls xs (acc.set x d)
theorem setAll_nil (acc : List Int) : ∀ xs, setAll acc xs [] = acc
  | [] => rfl
  | _ :: _ => rfl
theorem scat_set (ord : List Nat) : ∀ (as : List Nat) (d m : Nat) (acc : List Int), m + as.sum ≤ ord.length → scat ord d m as acc = setAll acc (ord.drop m) (lensF d as)
  | [], d, m, acc, _ => (setAll_nil acc _).symm
  | a :: as, d, m, acc, h => by
    rw [List.sum_cons] at h
    have ih := scat_set ord as (d + 1) (m + a) (wr acc d ((ord.drop m).take a)) (by omega)
    show scat ord (d + 1) (m + a) as _ = setAll acc (ord.drop m) (List.replicate a d ++ lensF (d + 1) as)
    rw [ih]
    have e := setAll_rep d (ord.drop (m + a)) (lensF (d + 1) as) ((ord.drop m).take a) acc
    have e1 : (ord.drop m).take a ++ ord.drop (m + a) = ord.drop m := by
      rw [← List.drop_drop]
      exact List.take_append_drop a (ord.drop m)
    have e2 : ((ord.drop m).take a).length = a := by
      rw [List.length_take, List.length_drop]; omega
    rw [e1, e2] at e
    exact e.symm
theorem lensF_len : ∀ (as : List Nat) (d : Nat), (lensF d as).length = as.sum
  | [], d => rfl
  | a :: as, d => by
    show (List.replicate a d ++ lensF (d + 1) as).length = _
    rw [List.length_append, List.length_replicate, lensF_len as, List.sum_cons]
theorem setAll_len : ∀ (xs ls : List Nat) (acc : List Int), (setAll acc xs ls).length = acc.length
  | [], ls, acc => by cases ls <;> rfl
  | x :: xs, [], acc => rfl
  | x :: xs, l :: ls, acc => by
    show (setAll _ xs ls).length = _
    rw [setAll_len xs ls, List.length_set]
theorem setAll_off : ∀ (xs ls : List Nat) (acc : List Int) (y : Nat), y ∉ xs → (setAll acc xs ls).getD y 0 = acc.getD y 0
  | [], ls, acc, y, _ => by cases ls <;> rfl
  | x :: xs, [], acc, y, _ => rfl
  | x :: xs, l :: ls, acc, y, h => by
    show (setAll _ xs ls).getD y 0 = _
    have hx : x ≠ y := fun e => h (by simp [e])
    rw [setAll_off xs ls _ y fun z => h (by simp [z]), List.getD_eq_getElem?_getD, List.getElem?_set_ne hx, ← List.getD_eq_getElem?_getD]
theorem setAll_on : ∀ (xs ls : List Nat) (acc : List Int), xs.Nodup → (∀ x ∈ xs, x < acc.length) → xs.length = ls.length → xs.map (fun x => (setAll acc xs ls).getD x 0) = ls.map fun (l : Nat) => (l : Int)
  | [], [], acc, _, _, _ => rfl
  | [], _ :: _, acc, _, _, h => by simp at h
  | _ :: _, [], acc, _, _, h => by simp at h
  | x :: xs, l :: ls, acc, hn, hl, h => by
    have hn' := List.nodup_cons.mp hn
    have e : setAll acc (x :: xs) (l :: ls) = setAll (acc.set x (l : Int)) xs ls := rfl
    have ih := setAll_on xs ls (acc.set x (l : Int)) hn'.2 (fun y hy => by rw [List.length_set]; exact hl y (by simp [hy])) (by simpa using h)
    rw [e, List.map_cons, List.map_cons, ih, setAll_off xs ls _ x hn'.1]
    have hx := hl x (by simp)
    congr 1
    rw [List.getD_eq_getElem?_getD, List.getElem?_set_self hx]
    rfl
theorem sum_perm {a b : List Int} (h : a.Perm b) : a.sum = b.sum := by
  induction h with
  | nil => rfl
  | cons x _ ih => rw [List.sum_cons, List.sum_cons, ih]
  | swap x y l => rw [List.sum_cons, List.sum_cons, List.sum_cons, List.sum_cons]; omega
  | trans _ _ ih1 ih2 => rw [ih1, ih2]
theorem nsum_perm {a b : List Nat} (h : a.Perm b) : a.sum = b.sum := by
  induction h with
  | nil => rfl
  | cons x _ ih => rw [List.sum_cons, List.sum_cons, ih]
  | swap x y l => rw [List.sum_cons, List.sum_cons, List.sum_cons, List.sum_cons]; omega
  | trans _ _ ih1 ih2 => rw [ih1, ih2]
/-- the cost by symbol -/
def costI (ws ls : List Int) : Int := ((List.range ws.length).map fun k => ws.getD k 0 * ls.getD k 0).sum
theorem RR_map (f : Nat → Int) (g : Nat → Nat) : ∀ o : List Nat, RR (o.map f) (o.map g) 0 = (o.map fun x => f x * (g x : Int)).sum
  | [] => rfl
  | x :: o => by
    have := RR_map f g o
    rw [List.map_cons, List.map_cons, List.map_cons, List.sum_cons, ← this]
    rfl
theorem tot_map (L : Nat) (g : Nat → Nat) : ∀ o : List Nat, tot L (o.map g) = (o.map fun x => 2 ^ (L - g x)).sum
  | [] => rfl
  | x :: o => by
    rw [List.map_cons, List.map_cons, List.sum_cons, ← tot_map L g o]
    rfl
def asI (F : List Nat) : List Int := F.map fun (l : Nat) => (l : Int)
theorem asI_get (F : List Nat) (k : Nat) : (asI F).getD k 0 = ((F.getD k 0 : Nat) : Int) := by
  unfold asI
  rw [List.getD_eq_getElem?_getD, List.getElem?_map, List.getD_eq_getElem?_getD]
  cases F[k]? <;> rfl
theorem map_get (F : List Nat) : (List.range F.length).map (fun k => F.getD k 0) = F := by
  refine List.ext_getElem (by simp) fun i h1 h2 => ?_
  simp [List.getD_eq_getElem?_getD, h2]
theorem RR_cost {ws : List Int} {F : List Nat} : RR (ranked ws) ((rankL ws).map fun k => F.getD k 0) 0 = costI ws (asI F) := by
  unfold ranked costI
  rw [RR_map, sum_perm ((rank_perm ws).map _)]
  congr 1
  refine List.map_congr_left fun k _ => ?_
  rw [asI_get]
  rfl
theorem tot_rank {ws : List Int} {F : List Nat} (L : Nat) (h : F.length = ws.length) : tot L ((rankL ws).map fun k => F.getD k 0) = tot L F := by
  rw [tot_map, nsum_perm ((rank_perm ws).map _), ← h]
  conv => rhs; rw [← map_get F, tot_map]
/-- any lengths that keep the limit cost at least the value of the first stage -/
theorem first_le {ws : List Int} {F : List Nat} {L : Nat} (hL : 1 ≤ L) (hne : ws ≠ []) (h0 : ∀ v ∈ ws, 0 ≤ v) (hF : F.length = ws.length) (h1 : ∀ l ∈ F, 1 ≤ l ∧ l ≤ L) (hk : tot L F ≤ 2 ^ L) : ∃ v, V (sumsL ws) L (st 0 0 1) = some v ∧ v ≤ costI ws (asI F) := by
  have hpos : 0 < ws.length := List.length_pos_iff.mpr hne
  obtain ⟨as, c, hp, hc⟩ := path_first (vs := ranked ws) (ls := (rankL ws).map fun k => F.getD k 0) (L := L) (by rw [ranked_len, List.length_map, rank_len]) (fun z => by
      have := congrArg List.length z
      rw [List.length_map, rank_len] at this
      have this : ws.length = 0 := this
      omega) (fun v hv => h0 v ((ranked_perm ws).mem_iff.mp hv)) (ranked_desc ws) (fun l hl => by
      obtain ⟨k, hk, rfl⟩ := List.mem_map.mp hl
      have hk := rank_lt hk
      refine h1 _ ?_
      rw [List.getD_eq_getElem?_getD, List.getElem?_eq_getElem (by omega)]
      exact List.getElem_mem _) (by rw [tot_rank L hF]; exact hk)
  obtain ⟨v, hv, hvc⟩ := val_le hL hp (by rw [ranked_len]; exact hpos) (Nat.le_refl _)
  refine ⟨v, hv, ?_⟩
  rw [RR_cost] at hc
  omega
/-- the lengths of the rule, by symbol -/
def dueF (ws : List Int) (L : Nat) : List Nat := due (sumsL ws) L (L + 1) (st 0 0 1)
def lensW (ws : List Int) (L : Nat) : List Int := scat (rankL ws) 0 0 (dueF ws L) (List.replicate ws.length 0)
structure Good (ws : List Int) (L : Nat) (v : Int) (F : List Nat) : Prop where
  len : F.length = ws.length
  bd : ∀ l ∈ F, 1 ≤ l ∧ l ≤ L
  kr : tot L F ≤ 2 ^ L
  co : costI ws (asI F) = v
theorem lens_good {ws : List Int} {L : Nat} {v : Int} (hL : 1 ≤ L) (hne : ws ≠ []) (hv : V (sumsL ws) L (st 0 0 1) = some v) : ∃ F, lensW ws L = asI F ∧ Good ws L v F := by
  have hpos : 0 < ws.length := List.length_pos_iff.mpr hne
  have hp := due_path (vs := ranked ws) hL (L + 1) 0 0 1 v (by omega) (by omega) (by rw [ranked_len]; exact hpos) (Nat.le_refl _) hv
  have hl := lens_of hp (Nat.zero_le _)
  have e : due (restL (ranked ws)) L (L + 1) (st 0 0 1) = dueF ws L := rfl
  rw [e, List.drop_zero] at hl
  obtain ⟨l1, l2, l3, l4, l5⟩ := hl
  have hW : lensW ws L = setAll (List.replicate ws.length 0) (rankL ws) (lensF 0 (dueF ws L)) := by
    have := scat_set (rankL ws) (dueF ws L) 0 0 (List.replicate ws.length 0) (by rw [← lensF_len, l1, rank_len, ranked_len]; omega)
    rw [List.drop_zero] at this
    exact this
  generalize lensF 0 (dueF ws L) = ls at *
  have hnd : (rankL ws).Nodup := (rank_perm ws).nodup_iff.mpr List.nodup_range
  have hn : ls.length = ws.length := by rw [l1, ranked_len]; omega
  have hon := setAll_on (rankL ws) ls (List.replicate ws.length 0) hnd (fun x hx => by rw [List.length_replicate]; exact rank_lt hx) (by rw [rank_len, hn])
  have hlen := setAll_len (rankL ws) ls (List.replicate ws.length 0)
  rw [← hW] at hon hlen
  rw [List.length_replicate] at hlen
  generalize lensW ws L = W at *
  have hnn : ∀ k, k < ws.length → ∃ l ∈ ls, W.getD k 0 = (l : Int) := fun k hk => by
    have : W.getD k 0 ∈ (rankL ws).map (fun x => W.getD x 0) := List.mem_map.mpr ⟨k, ((rank_is ws).mem k).mpr hk, rfl⟩
    rw [hon] at this
    obtain ⟨l, hl, e⟩ := List.mem_map.mp this
    exact ⟨l, hl, e.symm⟩
  refine ⟨W.map Int.toNat, ?_, ?_⟩
  · unfold asI
    rw [List.map_map]
    refine (List.ext_getElem (by simp) fun i h1 h2 => ?_).symm
    obtain ⟨l, hl, e⟩ := hnn i (by rw [← hlen]; exact h2)
    rw [List.getD_eq_getElem?_getD, List.getElem?_eq_getElem h2] at e
    rw [List.getElem_map]
    show ((W[i].toNat : Nat) : Int) = W[i]
    have e : W[i] = (l : Int) := e
    rw [e]
    rfl
  · have hgd : ∀ k, (W.map Int.toNat).getD k 0 = (W.getD k 0).toNat := fun k => by
      rw [List.getD_eq_getElem?_getD, List.getElem?_map, List.getD_eq_getElem?_getD]
      cases W[k]? <;> rfl
    have hF : (W.map Int.toNat).length = ws.length := by rw [List.length_map, hlen]
    have hr : (rankL ws).map (fun k => (W.map Int.toNat).getD k 0) = ls := by
      have h2 : ((rankL ws).map (fun x => W.getD x 0)).map Int.toNat = (ls.map fun (l : Nat) => (l : Int)).map Int.toNat := by rw [hon]
      rw [List.map_map, List.map_map] at h2
      have h3 : ls.map (Int.toNat ∘ fun (l : Nat) => (l : Int)) = ls := by
        have : (Int.toNat ∘ fun (l : Nat) => (l : Int)) = id := funext fun l => by simp
        rw [this, List.map_id]
      rw [h3] at h2
      rw [← h2]
      exact List.map_congr_left fun k _ => hgd k
    have hc := RR_cost (ws := ws) (F := W.map Int.toNat)
    rw [hr, l2] at hc
    refine ⟨hF, fun l hl => ?_, ?_, hc.symm⟩
    · obtain ⟨x, hx, rfl⟩ := List.mem_map.mp hl
      obtain ⟨i, hi, rfl⟩ := List.mem_iff_getElem.mp hx
      obtain ⟨l, hl, e⟩ := hnn i (by rw [← hlen]; exact hi)
      rw [List.getD_eq_getElem?_getD, List.getElem?_eq_getElem hi] at e
      have e : W[i] = (l : Int) := e
      rw [e]
      exact ⟨l5 rfl l hl, (l4 l hl).2⟩
    · have ht := tot_rank (ws := ws) (F := W.map Int.toNat) L hF
      rw [hr] at ht
      rw [← ht]
      simpa using l3
/-- all lists of lengths that keep the limit, as they are made -/
def rowStep (L : Nat) (r : List Nat × Nat) (i : Nat) : Option (List Nat × Nat) := if r.2 + 2 ^ (L - (i + 1)) ≤ 2 ^ L then some (r.1 ++ [i + 1], r.2 + 2 ^ (L - (i + 1))) else none
def rowsL (L : Nat) : Nat → List (List Nat × Nat)
  | 0 => [([], 0)]
  | k + 1 => (rowsL L k).flatMap fun r => (List.range L).filterMap (rowStep L r)
theorem tot_snoc (L : Nat) (F : List Nat) (l : Nat) : tot L (F ++ [l]) = tot L F + 2 ^ (L - l) := by
  rw [tot_app]; simp [tot]
theorem rows_is (L : Nat) : ∀ (k : Nat) (F : List Nat) (u : Nat), (F, u) ∈ rowsL L k → F.length = k ∧ (∀ l ∈ F, 1 ≤ l ∧ l ≤ L) ∧ tot L F = u ∧ u ≤ 2 ^ L
  | 0, F, u, h => by
    have := List.mem_singleton.mp h
    injection this with e1 e2
    subst e1 e2
    refine ⟨rfl, fun l hl => by simp at hl, rfl, Nat.zero_le _⟩
  | k + 1, F, u, h => by
    obtain ⟨r, hr, h⟩ := List.mem_flatMap.mp h
    obtain ⟨i, hi, h⟩ := List.mem_filterMap.mp h
    have hi := List.mem_range.mp hi
    unfold rowStep at h
    by_cases z : r.2 + 2 ^ (L - (i + 1)) ≤ 2 ^ L
    · rw [if_pos z] at h
      have h := Option.some.inj h
      injection h with e1 e2
      obtain ⟨i1, i2, i3, i4⟩ := rows_is L k r.1 r.2 hr
      subst e1 e2
      refine ⟨by rw [List.length_append, i1]; rfl, fun l hl => ?_, by rw [tot_snoc, i3], z⟩
      rcases List.mem_append.mp hl with y | y
      · exact i2 l y
      · rw [List.mem_singleton.mp y]
        omega
    · rw [if_neg z] at h
      exact absurd h (by simp)
theorem rows_all (L : Nat) : ∀ (k : Nat) (F : List Nat), F.length = k → (∀ l ∈ F, 1 ≤ l ∧ l ≤ L) → tot L F ≤ 2 ^ L → (F, tot L F) ∈ rowsL L k
  | 0, F, h, _, _ => by
    rw [List.length_eq_zero_iff.mp h]
    exact List.mem_singleton.mpr rfl
  | k + 1, F, h, h1, hk => by
    have hne : F ≠ [] := fun e => by rw [e] at h; simp at h
    have e := List.dropLast_concat_getLast hne
    generalize F.dropLast = G at e
    generalize F.getLast hne = l at e
    subst e
    rw [tot_snoc] at hk ⊢
    have hl := h1 l (by simp)
    have ih := rows_all L k G (by simpa using h) (fun x hx => h1 x (by simp [hx])) (Nat.le_trans (Nat.le_add_right _ _) hk)
    refine List.mem_flatMap.mpr ⟨_, ih, List.mem_filterMap.mpr ⟨l - 1, List.mem_range.mpr (by omega), ?_⟩⟩
    unfold rowStep
    rw [show l - 1 + 1 = l by omega, if_pos hk]
def bestAll (ws : List Int) (L : Nat) : Option Int := omin ((rowsL L ws.length).map fun r => some (costI ws (asI r.1)))
theorem best_all {ws : List Int} {L : Nat} {v : Int} (hL : 1 ≤ L) (hne : ws ≠ []) (h0 : ∀ v ∈ ws, 0 ≤ v) (hv : V (sumsL ws) L (st 0 0 1) = some v) : bestAll ws L = some v := by
  obtain ⟨F, _, g⟩ := lens_good hL hne hv
  have hi := omin_is ((rowsL L ws.length).map fun r => some (costI ws (asI r.1)))
  have hm : some v ∈ (rowsL L ws.length).map fun r => some (costI ws (asI r.1)) := List.mem_map.mpr ⟨_, rows_all L ws.length F g.len g.bd g.kr, by show some (costI ws (asI F)) = _; rw [g.co]⟩
  unfold bestAll
  cases e : omin ((rowsL L ws.length).map fun r => some (costI ws (asI r.1))) with
  | none => exact absurd (hi.none e _ hm) (by simp)
  | some w =>
    have h1 := hi.le w v e hm
    obtain ⟨r, hr, h2⟩ := List.mem_map.mp (hi.mem w e)
    obtain ⟨i1, i2, i3, i4⟩ := rows_is L _ r.1 r.2 hr
    obtain ⟨v', hv', hle⟩ := first_le hL hne h0 i1 i2 (by rw [i3]; exact i4)
    rw [hv] at hv'
    have := Option.some.inj hv'
    have := Option.some.inj h2
    rw [show w = v by omega]
/-- there are lengths that keep a limit which is not too small -/
theorem first_some {ws : List Int} {L : Nat} (hL : 1 ≤ L) (hne : ws ≠ []) (h0 : ∀ v ∈ ws, 0 ≤ v) (h : ws.length ≤ 2 ^ L) : ∃ v, V (sumsL ws) L (st 0 0 1) = some v := by
  obtain ⟨v, hv, _⟩ := first_le (F := List.replicate ws.length L) hL hne h0 (by simp) (fun l hl => by rw [(List.mem_replicate.mp hl).2]; omega) (by rw [tot_rep, Nat.sub_self]; simpa using h)
  exact ⟨v, hv⟩
theorem kraft_tot (L : Nat) (hL : L ≤ 20) : ∀ F : List Nat, (∀ l ∈ F, 1 ≤ l ∧ l ≤ L) → M01.kraft (asI F) = ((tot L F * 2 ^ (20 - L) : Nat) : Int)
  | [], _ => by simp [asI, M01.kraft, tot]
  | l :: F, h => by
    have ih := kraft_tot L hL F fun x hx => h x (by simp [hx])
    have hl := h l (by simp)
    have e : M01.kraft (asI (l :: F)) = M01.share (l : Int) + M01.kraft (asI F) := by
      unfold asI M01.kraft
      rw [List.map_cons, List.map_cons, List.sum_cons]
    have e2 : M01.share (l : Int) = ((2 ^ (L - l) * 2 ^ (20 - L) : Nat) : Int) := by
      unfold M01.share
      rw [if_neg (by omega), ← Nat.pow_add, show (20 - (l : Int).toNat) = L - l + (20 - L) by omega]
      push_cast
      rfl
    rw [e, ih, e2]
    show _ = (((2 ^ (L - l) + tot L F) * 2 ^ (20 - L) : Nat) : Int)
    rw [Nat.add_mul]
    push_cast
    rfl
theorem good_room {ws : List Int} {L : Nat} {v : Int} {F : List Nat} (hL : L ≤ 20) (g : Good ws L v F) : 0 ≤ M01.roomL (asI F) := by
  have h1 := kraft_tot L hL F g.bd
  have h2 : tot L F * 2 ^ (20 - L) ≤ 2 ^ L * 2 ^ (20 - L) := Nat.mul_le_mul_right _ g.kr
  rw [← Nat.pow_add, show L + (20 - L) = 20 by omega] at h2
  unfold M01.roomL
  rw [h1]
  have : (2 : Nat) ^ 20 = 1048576 := rfl
  omega
end M04
set_option linter.all false
/-! The stages that choices lead to. -/
namespace M04
open M03
inductive Reach (sums : List Int) (L : Int) : Stg → Prop
  | first : Reach sums L (0, 0, 1)
  | next {s s' : Stg} {c : Cho} : Reach sums L s → c ∈ chS sums L s → c.2.2 = some s' → Reach sums L s'
def nexts (sums : List Int) (L : Int) (s : Stg) : List Stg := (chS sums L s).filterMap (·.2.2)
theorem mem_nexts {sums : List Int} {L : Int} {s s' : Stg} : s' ∈ nexts sums L s ↔ ∃ c ∈ chS sums L s, c.2.2 = some s' := by
  unfold nexts
  rw [List.mem_filterMap]
section
variable {sums : List Int} {L : Int} {s s' : Stg}
theorem next_of (h : SOk sums L s) {c : Cho} (hc : c ∈ chS sums L s) (e : c.2.2 = some s') : SOk sums L s' ∧ s'.1 = s.1 + 1 ∧ s.1 < L ∧ s'.2.2 ≤ nN sums := by
  obtain ⟨a, p, nx⟩ := c
  have e : nx = some s' := e
  subst e
  have hc := (ch_mem h).mp hc
  obtain ⟨h1, h2, h3⟩ := next_ok h hc
  refine ⟨h1, h2, h3, ?_⟩
  have hm := h.m
  cases hc with
  | go g0 g1 g2 g3 g4 =>
    show (if nN sums - s.2.1 - a < 2 * (s.2.2 - a) then nN sums - s.2.1 - a else 2 * (s.2.2 - a)) ≤ _
    split <;> omega
theorem Reach.ok (hL : 1 ≤ L) (hn : 1 ≤ nN sums) (h : Reach sums L s) : SOk sums L s ∧ s.2.2 ≤ nN sums := by
  induction h with
  | first => exact ⟨⟨hL, ⟨Int.le_refl _, (show (0 : Int) ≤ L by omega)⟩, ⟨Int.le_refl _, (show (0 : Int) < (sums.length : Int) - 1 by unfold nN at hn; omega)⟩, Int.le_refl _⟩, hn⟩
  | next _ hc e ih =>
    obtain ⟨h1, _, _, h4⟩ := next_of ih.1 hc e
    exact ⟨h1, h4⟩
structure RS (sums : List Int) (L : Int) (ss : List Stg) : Prop where
  nd : ss.Nodup
  iff : ∀ s, s ∈ ss ↔ Reach sums L s
  asc : ss.Pairwise fun a b => a.1 ≤ b.1
def Lv (sums : List Int) (L : Int) (t : Nat) (W : List Stg) : Prop := ∀ s, s ∈ W ↔ Reach sums L s ∧ s.1 = t
structure Inl (sums : List Int) (L : Int) (t : Nat) (W : List Stg) (i : Nat) (ss Fw : List Stg) : Prop where
  nd : ss.Nodup
  iff : ∀ s, s ∈ ss ↔ (Reach sums L s ∧ s.1 < t) ∨ s ∈ W.take i
  asc : ss.Pairwise fun a b => a.1 ≤ b.1
  fw : ∀ s', s' ∈ Fw ↔ ∃ s ∈ W.take i, s' ∈ nexts sums L s
  len : Fw.length ≤ ss.length * 20
theorem lv_zero (hL : 1 ≤ L) (hn : 1 ≤ nN sums) : Lv sums L 0 [(0, 0, 1)] := fun s => by
  constructor
  · intro h
    rw [List.mem_singleton.mp h]
    exact ⟨.first, rfl⟩
  · rintro ⟨h, e⟩
    cases h with
    | first => exact List.mem_singleton.mpr rfl
    | next hr hc e2 =>
      have ok := (hr.ok hL hn).1
      have := (next_of ok hc e2).2.1
      have := ok.d
      exfalso
      have e : s.1 = 0 := e
      omega
theorem inl_zero (hL : 1 ≤ L) (hn : 1 ≤ nN sums) : Inl sums L 0 [(0, 0, 1)] 0 [] [] := ⟨.nil, fun s => by
  constructor
  · intro h; simp at h
  · rintro (⟨h, e⟩ | h)
    · have := ((h.ok hL hn).1).d
      have e : s.1 < 0 := e
      omega
    · simp at h, .nil, fun s' => by simp, by simp⟩
theorem take_mem {W : List Stg} {i : Nat} {x : Stg} (hx : W[i]? = some x) {s : Stg} : s ∈ W.take (i + 1) ↔ s ∈ W.take i ∨ s = x := by
  rw [List.take_succ, hx, List.mem_append]
  simp
theorem Inl.old {t : Nat} {W ss Fw : List Stg} {i : Nat} {x : Stg} (h : Inl sums L t W i ss Fw) (lv : Lv sums L t W) (hx : W[i]? = some x) (hm : x ∈ ss) : Inl sums L t W (i + 1) ss Fw := by
  have hxt := ((lv x).mp (List.mem_of_getElem? hx)).2
  have hin : x ∈ W.take i := by
    rcases (h.iff x).mp hm with ⟨_, z⟩ | z
    · omega
    · exact z
  refine ⟨h.nd, fun s => ?_, h.asc, fun s' => ?_, h.len⟩
  · rw [h.iff, take_mem hx]
    constructor
    · rintro (a | a)
      · exact .inl a
      · exact .inr (.inl a)
    · rintro (a | a | a)
      · exact .inl a
      · exact .inr a
      · rw [a]; exact .inr hin
  · rw [h.fw]
    constructor
    · rintro ⟨s, a, b⟩
      exact ⟨s, (take_mem hx).mpr (.inl a), b⟩
    · rintro ⟨s, a, b⟩
      rcases (take_mem hx).mp a with a | a
      · exact ⟨s, a, b⟩
      · subst a; exact ⟨s, hin, b⟩
theorem Inl.new {t : Nat} {W ss Fw : List Stg} {i : Nat} {x : Stg} (h : Inl sums L t W i ss Fw) (lv : Lv sums L t W) (hx : W[i]? = some x) (hm : x ∉ ss) (hlen : (nexts sums L x).length ≤ 20) : Inl sums L t W (i + 1) (ss ++ [x]) (Fw ++ nexts sums L x) := by
  have hxt := ((lv x).mp (List.mem_of_getElem? hx)).2
  have hle : ∀ s ∈ ss, s.1 ≤ x.1 := fun s hs => by
    rcases (h.iff s).mp hs with ⟨_, z⟩ | z
    · omega
    · have := ((lv s).mp (List.mem_of_mem_take z)).2
      omega
  refine ⟨?_, fun s => ?_, ?_, fun s' => ?_, ?_⟩
  · rw [List.nodup_append]
    refine ⟨h.nd, by simp, fun a ha b hb e => ?_⟩
    rw [List.mem_singleton.mp hb] at e
    subst e
    exact hm ha
  · rw [List.mem_append, h.iff, take_mem hx, List.mem_singleton]
    constructor
    · rintro ((a | a) | a)
      · exact .inl a
      · exact .inr (.inl a)
      · exact .inr (.inr a)
    · rintro (a | a | a)
      · exact .inl (.inl a)
      · exact .inl (.inr a)
      · exact .inr a
  · rw [List.pairwise_append]
    refine ⟨h.asc, List.pairwise_singleton _ _, fun a ha b hb => ?_⟩
    rw [List.mem_singleton.mp hb]
    exact hle a ha
  · rw [List.mem_append, h.fw]
    constructor
    · rintro (⟨s, a, b⟩ | a)
      · exact ⟨s, (take_mem hx).mpr (.inl a), b⟩
      · exact ⟨x, (take_mem hx).mpr (.inr rfl), a⟩
    · rintro ⟨s, a, b⟩
      rcases (take_mem hx).mp a with a | a
      · exact .inl ⟨s, a, b⟩
      · subst a; exact .inr b
  · have := h.len
    rw [List.length_append, List.length_append, List.length_singleton]
    omega
theorem Inl.done (hL : 1 ≤ L) (hn : 1 ≤ nN sums) {t : Nat} {W ss Fw : List Stg} (h : Inl sums L t W W.length ss Fw) (lv : Lv sums L t W) : Lv sums L (t + 1) Fw ∧ ∀ W', Inl sums L (t + 1) W' 0 ss [] := by
  refine ⟨fun s' => ?_, fun W' => ⟨h.nd, fun s => ?_, h.asc, fun s' => by simp, by simp⟩⟩
  · rw [h.fw, List.take_length]
    constructor
    · rintro ⟨s, a, b⟩
      obtain ⟨r, e⟩ := (lv s).mp a
      obtain ⟨c, hc, ec⟩ := mem_nexts.mp b
      have := (next_of (r.ok hL hn).1 hc ec).2.1
      exact ⟨.next r hc ec, by push_cast; omega⟩
    · rintro ⟨r, e⟩
      cases r with
      | first => exfalso; have e : (0 : Int) = ((t + 1 : Nat) : Int) := e; omega
      | @next s _ c hr hc ec =>
        have := (next_of (hr.ok hL hn).1 hc ec).2.1
        exact ⟨s, (lv s).mpr ⟨hr, by push_cast at e; omega⟩, mem_nexts.mpr ⟨c, hc, ec⟩⟩
  · rw [h.iff, List.take_length, lv]
    simp only [List.take_zero, List.not_mem_nil, or_false]
    constructor
    · rintro (⟨a, b⟩ | ⟨a, b⟩)
      · exact ⟨a, by push_cast; omega⟩
      · exact ⟨a, by push_cast; omega⟩
    · rintro ⟨a, b⟩
      push_cast at b
      by_cases z : s.1 < t
      · exact .inl ⟨a, z⟩
      · exact .inr ⟨a, by omega⟩
theorem rs_of (hL : 1 ≤ L) (hn : 1 ≤ nN sums) {t : Nat} {ss : List Stg} (lv : Lv sums L t []) (h : Inl sums L t [] 0 ss []) : RS sums L ss := by
  have key : ∀ s, Reach sums L s → s.1 < t := fun s r => by
    induction r with
    | first =>
      show (0 : Int) < t
      rcases Nat.eq_zero_or_pos t with z | z
      · exact absurd ((lv (0, 0, 1)).mpr ⟨.first, by rw [z]; rfl⟩) (by simp)
      · omega
    | @next s s' c hr hc ec ih =>
      have := (next_of (hr.ok hL hn).1 hc ec).2.1
      by_cases z : s'.1 = t
      · exact absurd ((lv s').mpr ⟨.next hr hc ec, z⟩) (by simp)
      · omega
  refine ⟨h.nd, fun s => ?_, h.asc⟩
  rw [h.iff]
  simp only [List.take_nil, List.not_mem_nil, or_false]
  exact ⟨fun a => a.1, fun a => ⟨a, key s a⟩⟩
theorem lv_end (hL : 1 ≤ L) (hn : 1 ≤ nN sums) {t : Nat} {W : List Stg} (lv : Lv sums L t W) (hne : W ≠ []) : (t : Int) ≤ L := by
  obtain ⟨x, r, e⟩ := List.exists_cons_of_ne_nil hne
  have hx : x ∈ W := by rw [e]; simp
  obtain ⟨h1, h2⟩ := (lv x).mp hx
  have := ((h1.ok hL hn).1).d
  omega
/-- few stages -/
def allSt : List Stg := (List.range 17).flatMap fun (d : Nat) => (List.range 17).flatMap fun (m : Nat) => (List.range 17).map fun (k : Nat) => ((d : Int), (m : Int), (k : Int))
theorem all_len : allSt.length = 4913 := by decide +kernel
theorem few {ss : List Stg} (hL : 1 ≤ L) (hL2 : L ≤ 16) (hn : 1 ≤ nN sums) (hn2 : nN sums ≤ 16) (nd : ss.Nodup) (h : ∀ s ∈ ss, Reach sums L s) : ss.length ≤ 4913 := by
  have sub : ∀ (l m : List Stg), l.Nodup → (∀ x ∈ l, x ∈ m) → l.length ≤ m.length := by
    intro l
    induction l with
    | nil => intro m _ _; exact Nat.zero_le _
    | cons x l ih =>
      intro m h hs
      have h' := List.nodup_cons.mp h
      have hx := hs x List.mem_cons_self
      have h1 := ih (m.erase x) h'.2 fun y hy => (List.mem_erase_of_ne (fun e => h'.1 (by rw [← e]; exact hy))).mpr (hs y (List.mem_cons_of_mem _ hy))
      rw [List.length_erase_of_mem hx] at h1
      have h2 := List.length_pos_of_mem hx
      simp only [List.length_cons]
      omega
  rw [← all_len]
  refine sub ss allSt nd fun s hs => ?_
  obtain ⟨ok, hk⟩ := (h s hs).ok hL hn
  obtain ⟨_, hd, hm, hk1⟩ := ok
  have hm2 : s.2.1 < nN sums := hm.2
  refine List.mem_flatMap.mpr ⟨s.1.toNat, List.mem_range.mpr (by omega), List.mem_flatMap.mpr ⟨s.2.1.toNat, List.mem_range.mpr (by omega), List.mem_map.mpr ⟨s.2.2.toNat, List.mem_range.mpr (by omega), ?_⟩⟩⟩
  have hm3 := hm.1
  obtain ⟨d, m, k⟩ := s
  simp only [Prod.mk.injEq] at *
  exact ⟨by omega, by omega, by omega⟩
theorem ch_len {d m k : Int} (hk : k ≤ 16) : (chL sums L d m k).length ≤ 17 := by
  unfold chL
  have := List.length_filterMap_le (chOne sums L d m k) (List.range (chN sums m k))
  rw [List.length_range] at this
  have h2 : chN sums m k ≤ 17 := by
    unfold chN
    split <;> omega
  omega
theorem nexts_len (hk : s.2.2 ≤ 16) : (nexts sums L s).length ≤ 20 := by
  have h1 := List.length_filterMap_le (fun c : Cho => c.2.2) (chS sums L s)
  have h2 := ch_len (sums := sums) (L := L) (d := s.1) (m := s.2.1) hk
  show ((chS sums L s).filterMap (·.2.2)).length ≤ 20
  unfold chS at *
  omega
/-- what is behind a stage in the other order -/
theorem RS.behind {ss A B : List Stg} (h : RS sums L ss) (e : ss = A ++ s :: B) (hL : 1 ≤ L) (hn : 1 ≤ nN sums) {c : Cho} (hc : c ∈ chS sums L s) (ec : c.2.2 = some s') : s' ∈ B := by
  have hs : Reach sums L s := (h.iff s).mp (by rw [e]; simp)
  have h1 := (next_of (hs.ok hL hn).1 hc ec).2.1
  have hm := (h.iff s').mpr (.next hs hc ec)
  have ha := h.asc
  rw [e] at hm ha
  rw [List.pairwise_append] at ha
  rcases List.mem_append.mp hm with z | z
  · have := ha.2.2 s' z s (by simp)
    omega
  · rcases List.mem_cons.mp z with z | z
    · rw [z] at h1
      omega
    · exact z
end
end M04
set_option Elab.async false
set_option linter.all false
set_option maxRecDepth 100000
set_option maxHeartbeats 4000000
namespace K05
open PySem PySem.Spec PyProof.Rows L2 GX KC Evl M03 M04
/-! ### stages as keys and as data -/
def keyS (s : Stg) : List Key := KC.stK s.1 s.2.1 s.2.2
theorem keyS_inj {s s' : Stg} (h : keyS s = keyS s') : s = s' := by
  obtain ⟨a, b, c⟩ := s
  obtain ⟨d, e, f⟩ := s'
  simp only [keyS, KC.stK, List.cons.injEq, Sum.inl.injEq, and_true] at h
  obtain ⟨rfl, rfl, rfl⟩ := h
  rfl
def stV (s : Stg) : List V := [.int s.1, .int s.2.1, .int s.2.2]
theorem keyS_V (s : Stg) : (keyS s).map kV = stV s := rfl
def stD (s : Stg) : PyData := .tuple [.int s.1, .int s.2.1, .int s.2.2]
theorem stD_noList (s : Stg) : noList (stD s) = true := rfl
structure GF (K : PySem.W.Frag) (mg : Str → Option Value) (tf : Addr) : Prop where
  g_FIRST : mg "FIRST" = some (.ref tf)
  st : ∀ H, SqT K H tf [.int 0, .int 0, .int 1]
section
variable {P : Program} {w : World} {K : PySem.W.Frag} {mg : Str → Option Value} {base : Heap}
theorem stD_at {H : Hp} {v : V} {s : Stg} (h : Dp K H v (stD s)) : ∃ t, v = .ref t ∧ SqT K H t (stV s) := by
  cases h with
  | tup h1 h2 =>
    refine ⟨_, rfl, ?_⟩
    cases h2 with
    | cons a b => cases a; cases b with
      | cons a b => cases a; cases b with
        | cons a b => cases a; cases b; exact h1
theorem stD_mk {H : Hp} {t : Addr} {s : Stg} (h : SqT K H t (stV s)) : Dp K H (.ref t) (stD s) := .tup h (.cons (.int _) (.cons (.int _) (.cons (.int _) .nil)))
theorem dp_get {H : Hp} : ∀ {vs : List V} {ds : List PyData} {i : Nat} {x : V}, DpAll K H vs ds → vs[i]? = some x → ∃ d, ds[i]? = some d ∧ Dp K H x d
  | _, _, _, _, .nil, h => by simp at h
  | _, _, 0, _, .cons a _, h => ⟨_, rfl, by rw [← Option.some.inj (show some _ = some _ from h)]; exact a⟩
  | _, _, i + 1, _, .cons _ b, h => by
    obtain ⟨d, h1, h2⟩ := dp_get b (by simpa using h)
    exact ⟨d, by simpa using h1, h2⟩
theorem dp_appAll {H : Hp} : ∀ {vs us : List V} {ds es : List PyData}, DpAll K H vs ds → DpAll K H us es → DpAll K H (vs ++ us) (ds ++ es)
  | _, _, _, _, .nil, h => h
  | _, _, _, _, .cons a b, h => .cons a (dp_appAll b h)
/-- a choice, in its parts -/
theorem ch_at {H : Hp} {v : V} {c : Cho} (h : Dp K H v (chD c)) : ∃ t n, v = .ref t ∧ SqT K H t [.int c.1, .int c.2.1, n] ∧ Dp K H n (nxD c.2.2) := by
  obtain ⟨a, p, nx⟩ := c
  have h : Dp K H v (.tuple [.int a, .int p, nxD nx]) := h
  cases h with
  | tup h1 h2 =>
    cases h2 with
    | cons a b => cases a; cases b with
      | cons a b => cases a; cases b with
        | cons a b => cases b; exact ⟨_, _, rfl, h1, a⟩
theorem nx_some {H : Hp} {n : V} {s : Stg} {nx : Nxt} (h : Dp K H n (nxD nx)) (e : nx = some s) : ∃ t, n = .ref t ∧ SqT K H t (stV s) := by
  subst e
  obtain ⟨d, m, k⟩ := s
  exact stD_at (s := (d, m, k)) h
theorem nx_none {H : Hp} {n : V} {nx : Nxt} (h : Dp K H n (nxD nx)) (e : nx = none) : n = .non := by
  subst e
  cases h
  rfl
theorem nx_is {H : Hp} {n : V} {nx : Nxt} (h : Dp K H n (nxD nx)) : decide (n = .non) = nx.isNone := by
  cases nx with
  | none => rw [nx_none h rfl]; rfl
  | some s =>
    obtain ⟨t, e, _⟩ := nx_some h rfl
    rw [e]
    rfl
/-! ### the dict of stages with their choices -/
structure ChAt (K : PySem.W.Frag) (sums : List Int) (L : Int) (H : Hp) (kv : List Key × V) (s : Stg) : Prop where
  key : kv.1 = keyS s
  ob : ∃ c vs, kv.2 = .ref c ∧ H c = some (.lst vs) ∧ DpAll K H vs (chsD (chS sums L s))
abbrev RCh (K : PySem.W.Frag) (sums : List Int) (L : Int) (H : Hp) : List (List Key × V) → List Stg → Prop := Paired (ChAt K sums L H)
theorem rch_ext {sums : List Int} {L : Int} {H H' : Hp} {kvs : List (List Key × V)} {ss : List Stg} (e : Ex H H') (h : RCh K sums L H kvs ss) : RCh K sums L H' kvs ss := Paired.mapP h fun kv s z => by
  obtain ⟨h1, c, vs, h2, h3, h4⟩ := z
  exact ⟨h1, c, vs, h2, e _ _ h3, DpAll.ext e _ _ h4⟩
/-- a list that is none of them is written -/
theorem rch_put {sums : List Int} {L : Int} {H : Hp} {kvs : List (List Key × V)} {ss : List Stg} {p : Addr} {zs ys : List V} (hp : H p = some (.lst zs)) (hn : ∀ kv ∈ kvs, kv.2 ≠ .ref p) (h : RCh K sums L H kvs ss) : RCh K sums L (upd H p (.lst ys)) kvs ss := by
  induction h with
  | nil => exact .nil
  | cons z t ih =>
    obtain ⟨h1, c, vs, h2, h3, h4⟩ := z
    refine .cons ⟨h1, c, vs, h2, ?_, DpAll.put hp _ _ (chsD_noList _) h4⟩ (ih fun kv hk => hn kv (List.mem_cons_of_mem _ hk))
    have : c ≠ p := fun e => hn _ List.mem_cons_self (by rw [h2, e])
    rw [upd_ne this]
    exact h3
theorem rch_but {sums : List Int} {L : Int} {H H' : Hp} {kvs : List (List Key × V)} {ss : List Stg} {d : Addr} {φ : Heap → Prop} (hd : H d = some (.ext φ)) (k : ∀ c, c ≠ d → H' c = H c) (h : RCh K sums L H kvs ss) : RCh K sums L H' kvs ss := Paired.mapP h fun kv s z => by
  obtain ⟨h1, c, vs, h2, h3, h4⟩ := z
  exact ⟨h1, c, vs, h2, by rw [k c (fun e => by rw [e, hd] at h3; cases h3)]; exact h3, DpAll.keepT (fun b ys => sqt_but hd k) _ _ (chsD_noList _) h4⟩
theorem rch_mem {sums : List Int} {L : Int} {H : Hp} {kvs : List (List Key × V)} {ss : List Stg} (h : RCh K sums L H kvs ss) (s : Stg) : (valV kvs (keyS s)).isSome = decide (s ∈ ss) := by
  induction h with
  | nil => rw [valV_nil]; simp
  | @cons kv x kvs ss z t ih =>
    by_cases e : s = x
    · subst e
      rw [valV_pos z.key]
      simp
    · rw [valV_neg (fun q => e (keyS_inj (z.key ▸ q)).symm), ih]
      simp [e]
theorem rch_val {sums : List Int} {L : Int} {H : Hp} {kvs : List (List Key × V)} {ss : List Stg} {s : Stg} (h : RCh K sums L H kvs ss) (hs : s ∈ ss) : ∃ c vs, valV kvs (keyS s) = some (.ref c) ∧ H c = some (.lst vs) ∧ DpAll K H vs (chsD (chS sums L s)) := by
  induction h with
  | nil => simp at hs
  | @cons kv x kvs ss z t ih =>
    by_cases e : s = x
    · subst e
      obtain ⟨h1, c, vs, h2, h3, h4⟩ := z
      exact ⟨c, vs, by rw [valV_pos h1, h2], h3, h4⟩
    · rw [valV_neg (fun q => e (keyS_inj (z.key ▸ q)).symm)]
      exact ih (by
        rcases List.mem_cons.mp hs with q | q
        · exact absurd q e
        · exact q)
theorem rch_ref {sums : List Int} {L : Int} {H : Hp} {kvs : List (List Key × V)} {ss : List Stg} {p : Addr} (hp : H p = none) (h : RCh K sums L H kvs ss) : ∀ kv ∈ kvs, kv.2 ≠ .ref p := by
  induction h with
  | nil => intro kv hk; simp at hk
  | @cons kv x kvs ss z t ih =>
    intro kv' hk e
    rcases List.mem_cons.mp hk with q | q
    · subst q
      obtain ⟨h1, c, vs, h2, h3, h4⟩ := z
      rw [h2] at e
      injection e with e
      rw [e, hp] at h3
      cases h3
    · exact ih kv' q e
/-! ### the stages behind a stage, as a comprehension makes them -/
def isGo (cs : List Cho) (i : Nat) : Bool := match cs[i]? with
  | some c => c.2.2.isSome
  | none => false
theorem chs_split {H : Hp} : ∀ {vs : List V} {cs : List Cho}, DpAll K H vs (chsD cs) → ∃ ns : List V, ns.length = cs.length ∧ vs.length = cs.length ∧ ∀ (i : Nat) (c : Cho), cs[i]? = some c → ∃ (t : Addr) (n : V), vs[i]? = some (.ref t) ∧ ns[i]? = some n ∧ SqT K H t [.int c.1, .int c.2.1, n] ∧ Dp K H n (nxD c.2.2)
  | _, [], h => by
    cases h
    exact ⟨[], rfl, rfl, fun i c z => by simp at z⟩
  | _, c :: cs, h => by
    cases h with
    | cons a b =>
      obtain ⟨ns, h1, h2, h3⟩ := chs_split b
      obtain ⟨t, n, rfl, hs, hd⟩ := ch_at a
      refine ⟨n :: ns, by simp [h1], by simp [h2], fun i c' hc => ?_⟩
      cases i with
      | zero =>
        have := Option.some.inj (show some c = some c' from hc)
        subst this
        exact ⟨t, n, rfl, rfl, hs, hd⟩
      | succ i => simpa using h3 i c' (by simpa using hc)
theorem go_list {H : Hp} {cs : List Cho} {ns : List V} (hd : ∀ (i : Nat) (c : Cho), cs[i]? = some c → ∃ n : V, ns[i]? = some n ∧ Dp K H n (nxD c.2.2)) : ∀ i, i ≤ cs.length → DpAll K H (given i (isGo cs) fun j => ns.getD j .non) (((cs.take i).filterMap (·.2.2)).map stD)
  | 0, _ => .nil
  | i + 1, h => by
    have ih := go_list hd i (by omega)
    have hi : i < cs.length := by omega
    have hc : cs[i]? = some cs[i] := List.getElem?_eq_getElem hi
    generalize cs[i] = c at hc
    obtain ⟨n, hn, hdn⟩ := hd i c hc
    rw [fm_take _ _ hc]
    have hg : isGo cs i = c.2.2.isSome := by unfold isGo; rw [hc]
    have hnv : ns.getD i .non = n := by rw [List.getD_eq_getElem?_getD, hn]; rfl
    cases e : c.2.2 with
    | none =>
      rw [e] at hg
      rw [given_no hg]
      simpa using ih
    | some s =>
      rw [e] at hg
      rw [given_yes hg, hnv, List.map_append]
      obtain ⟨t, rfl, ht⟩ := nx_some hdn e
      exact dp_appAll ih (.cons (stD_mk ht) .nil)
end
end K05
set_option Elab.async false
set_option linter.all false
set_option maxRecDepth 100000
set_option maxHeartbeats 4000000
namespace K05
open PySem PySem.Spec PyProof.Rows L2 GX KC Evl M03 M04
section
variable {P : Program} {w : World} {K : PySem.W.Frag} {mg : Str → Option Value} {base : Heap}
/-- weights and a limit -/
structure WIn (K : PySem.W.Frag) (ws : List Int) (L : Nat) (l : Addr) (H : Hp) : Prop where
  sq : SqL K H l (ws.map V.int)
  n1 : 1 ≤ ws.length
  n2 : ws.length ≤ 16
  l1 : 1 ≤ L
  l2 : L ≤ 16
theorem WIn.ext {ws : List Int} {L : Nat} {l : Addr} {H H' : Hp} (e : Ex H H') (h : WIn K ws L l H) : WIn K ws L l H' := ⟨ex_l e h.sq, h.n1, h.n2, h.l1, h.l2⟩
theorem nN_sums (ws : List Int) : nN (sumsL ws) = ws.length := by
  unfold nN; rw [sumsL_len]; push_cast; omega
def spReach (P : Program) (w : World) (K : PySem.W.Frag) : Sp := fun vs H Q _ => ∃ (l : Addr) (ws : List Int) (L : Nat), vs = [.ref l, .int (L : Int)] ∧ WIn K ws L l H ∧
  ∀ d kvs ss H2, H d = none → Ex H H2 → DAt P w K H2 d kvs → RCh K (sumsL ws) L H2 kvs ss → RS (sumsL ws) L ss → Q (.ref d) H2
theorem spl_sums {H : Hp} {l : Addr} {ws : List Int} (hs : SqL K H l (ws.map V.int)) (hn : ws.length ≤ 64) : SpL (spSums K) ([.ref l] ++ []) H ((sumsL ws).map V.int) := fun H1 e1 Q q E => ⟨l, ws, rfl, ex_l e1 hs, hn, q⟩
theorem spd_ch {H : Hp} {l t : Addr} {sums : List Int} {L : Nat} {s : Stg} (hs : SqL K H l (sums.map V.int)) (ht : SqT K H t (stV s)) (ok : SOk sums L s) (hl : sums.length ≤ 1000) (hk : s.2.2 ≤ 1000) : SpLD K (spCh K chP) ([.ref l, .int (L : Int), .ref t] ++ []) H (chsD (chS sums L s)) := fun H1 e1 Q q E => ⟨l, t, sums, L, s.1, s.2.1, s.2.2, rfl, ⟨ex_l e1 hs, ex_t e1 ht, ok, hl, hk⟩, by
    rw [ch_same ok]
    exact fun p vs H2 hp e h hd => q p vs H2 hp e h hd⟩
theorem spd_chL {H : Hp} {l t : Addr} {sums : List Int} {L : Nat} {s : Stg} (hs : SqL K H l (sums.map V.int)) (ht : SqT K H t (stV s)) (ok : SOk sums L s) (hl : sums.length ≤ 1000) (hk : s.2.2 ≤ 1000) : SpLD K (spCh K chL) ([.ref l, .int (L : Int), .ref t] ++ []) H (chsD (chS sums L s)) := fun H1 e1 Q q E => ⟨l, t, sums, L, s.1, s.2.1, s.2.2, rfl, ⟨ex_l e1 hs, ex_t e1 ht, ok, hl, hk⟩,
    fun p vs H2 hp e h hd => q p vs H2 hp e h hd⟩
/-- what stands while stages are searched for -/
structure RW (P : Program) (w : World) (K : PySem.W.Frag) (ws : List Int) (L : Nat) (H H' : Hp) (ls d : Addr) (kvs : List (List Key × V)) (ss : List Stg) : Prop where
  ex : Ex H H'
  sq : H' ls = some (.lst ((sumsL ws).map V.int))
  da : DAt P w K H' d kvs
  rc : RCh K (sumsL ws) L H' kvs ss
theorem RW.go {ws : List Int} {L : Nat} {H H' H2 : Hp} {ls d : Addr} {kvs : List (List Key × V)} {ss : List Stg} (h : RW P w K ws L H H' ls d kvs ss) (e : Ex H' H2) : RW P w K ws L H H2 ls d kvs ss := ⟨h.ex.trans e, e _ _ h.sq, h.da.ext e, rch_ext e h.rc⟩
theorem lt64 {n : Nat} (h : n + 64 < cLine) : n + 1 < cLine := by omega
theorem ok_reached_stages {f : Addr} {fd : FuncData} {k : Nat} {tf : Addr} (T : GF K mg tf) (F : Fun K "reached_stages" "reached_stages" s_reached_stages f fd) (B : Bs mg) (C_rests : Cal P w K mg base "rests" 1 ["weights"] (spSums K)) (C_stage_choices : Cal P w K mg base "stage_choices" 2 ["sums", "limit", "stage"] (spCh K chP)) :
    FnOk P w K mg base CX0 (k + 3) f fd ["weights", "limit"] (spReach P w K) := by
  refine F.ok sc_reached_stages (fun vs H Q E h => ?_) (fun cdv A outer s H vs Q E hr h => ?_)
  · obtain ⟨l, ws, L, rfl, _⟩ := h
    rfl
  · obtain ⟨l, ws, L, rfl, hw, q⟩ := h
    have hu := lt64 hr.units
    refine ⟨_, (pss_cons (ps_set (i := 2) sc_reached_stages.nd rfl (Or.inl rfl) (pe_callC C_rests (hr.mono (by omega)) (by rfl) (pa_cons (pv 0) pa_nil)))
      (pss_cons (ps_set (i := 3) sc_reached_stages.nd rfl (Or.inl rfl) (pe_dnewX (P := P) (w := w) (K := K) ⟨rfl, rfl, rfl⟩))
      (pss_cons (ps_set (i := 4) sc_reached_stages.nd rfl (Or.inl rfl) (pe_lst (pa_cons (pe_glob (v := (.ref tf)) (by rfl) T.g_FIRST rfl) pa_nil)))
      (pss_cons (ps_while PassesOwn.never (pt_truth (pv 4) (by intro _; rfl)) (pss_cons (ps_set (i := 5) sc_reached_stages.nd rfl (Or.inl rfl) (pe_lst pa_nil))
      (pss_cons (ps_for PassesOwn.never rfl (pi_list (pv 4)) (pg_name (i := 6) sc_reached_stages.nd rfl (Or.inl rfl)) (pss_one (ps_if (pt_cmp (pc_dnotinX (P := P) (w := w) (K := K) ⟨rfl, rfl, rfl⟩ hu (pv 6) (pv 3))) (pss_cons (ps_dputX (P := P) (w := w) (K := K) ⟨rfl, rfl, rfl⟩ hu (pv 3) (pv 6) (pe_callC C_stage_choices (hr.mono (by omega)) (by rfl) (pa_cons (pv 2) (pa_cons (pv 1) (pa_cons (pv 6) pa_nil)))) rfl)
      (pss_one (ps_expr (pe_bm PySem.F.plainAttrs_list PySem.F.slot_list_extend PySem.F.type_list_extend mt_extend (pv 5) (pa_cons (pe_lc rfl sc_reached_stages.nd (pi_list (pe_dgx (P := P) (w := w) (K := K) ⟨rfl, rfl, rfl⟩ hu (pv 3) (pv 6) (fun _ _ => rfl))) (blkOk_by (own := [("choice", 7)]) (N := ["weights", "limit", "sums", "found", "waiting", "following", "stage", "choice"]) (sc := defScope s_reached_stages) (by decide +kernel)) (fun _ _ _ _ _ => (pg_name (i := 7) sc_reached_stages.nd rfl (Or.inl rfl))) (fun _ _ _ _ _ => (pts_one (pt_cmpR op_notN (pe_ix (ix_tupK (K := K) rfl) (pv 7) pe_int (fun _ _ => rfl)) pe_non (nomark _)))) (fun _ _ _ _ _ => (pe_ix (ix_tupK (K := K) rfl) (pv 7) pe_int (fun _ _ => rfl)))) pa_nil))))) pss_nil)))
      (pss_one (ps_set (i := 4) sc_reached_stages.nd rfl (Or.inl rfl) (pv 5))))))
      (pss_one (ps_ret (pv 3))))))), ?_⟩
    have hn1 : 1 ≤ nN (sumsL ws) := by have := hw.n1; rw [nN_sums]; omega
    have hn2 : nN (sumsL ws) ≤ 16 := by have := hw.n2; rw [nN_sums]; omega
    have hL1 : (1 : Int) ≤ L := by have := hw.l1; omega
    have hL2 : (L : Int) ≤ 16 := by have := hw.l2; omega
    refine q_asgL (el_call (ea1 (ev_var rfl)) (spl_sums hw.sq (by have := hw.n2; omega))) fun ls H1 hls e1 h1 => ?_
    refine q_dnew (K := K) fun d H2 hd2 e2 hda => ?_
    have hd0 : H d = none := fresh_back e1 hd2
    refine q_asgL (el_lst (ea1 ev_c) (by show 1 ≤ 100000; decide)) fun wa H3 hwa e3 h3 => ?_
    refine q_while (fun m σ H' => ∃ (t : Nat) (wa : Addr) (wv : List V) (W : List Stg) (kvs : List (List Key × V)) (ss : List Stg) (a b c : Option V), m = L + 1 - t ∧ σ = [some (.ref l), some (.int (L : Int)), some (.ref ls), some (.ref d), some (.ref wa), a, b, c] ∧ RW P w K ws L H H' ls d kvs ss ∧
        H' wa = some (.lst wv) ∧ DpAll K H' wv (W.map stD) ∧ Lv (sumsL ws) L t W ∧ Inl (sumsL ws) L t W 0 ss []) (L + 1)
      ⟨0, wa, _, [(0, 0, 1)], [], [], none, none, none, rfl, rfl, ⟨(e1.trans e2).trans e3, (e2.trans e3) _ _ h1, hda.ext e3, .nil⟩, h3, .cons (stD_mk (s := (0, 0, 1)) (T.st _)) .nil, lv_zero hL1 hn1, inl_zero hL1 hn1⟩ ?_
    rintro m σ H' ⟨t, wa, wv, W, kvs, ss, a, b, c, rfl, rfl, rw, hwa, hwd, lv, inl⟩
    refine ⟨_, et_truL (ev_var rfl) (sq_of hwa), fun hb H4 e4 => ?_, fun hb H4 e4 => ?_⟩
    · have hWl : wv.length = W.length := by rw [DpAll.len hwd, List.length_map]
      have hWne : W ≠ [] := fun z => by
        rw [z] at hWl
        have : wv = [] := List.eq_nil_of_length_eq_zero hWl
        rw [this] at hb
        simp at hb
      have htL := lv_end hL1 hn1 lv hWne
      refine ⟨fun σ H' => ∃ (wa : Addr) (wv : List V) (W : List Stg) (kvs : List (List Key × V)) (ss : List Stg) (a b c : Option V), σ = [some (.ref l), some (.int (L : Int)), some (.ref ls), some (.ref d), some (.ref wa), a, b, c] ∧ RW P w K ws L H H' ls d kvs ss ∧
        H' wa = some (.lst wv) ∧ DpAll K H' wv (W.map stD) ∧ Lv (sumsL ws) L (t + 1) W ∧ Inl (sumsL ws) L (t + 1) W 0 ss [], fun σ2 H2 ⟨wa, wv, W, kvs, ss, a, b, c, h⟩ => ⟨L + 1 - (t + 1), by omega, t + 1, wa, wv, W, kvs, ss, a, b, c, rfl, h⟩, ?_⟩
      refine q_asgL (el_lst ea_nil (by decide)) fun p H5 hp e5 h5 => ?_
      have r5 := rw.go (e4.trans e5)
      have r4 := rw.go e4
      have hwp : wa ≠ p := fun z => by rw [← z, e4 _ _ hwa] at hp; cases hp
      have hlp : ls ≠ p := fun z => by rw [← z, r4.sq] at hp; cases hp
      have hdp : d ≠ p := fun z => by
        obtain ⟨φ, e⟩ := r4.da.isX
        rw [z, hp] at e
        cases e
      have hp0 : H p = none := fresh_back r4.ex hp
      have hw5 : SqL K H5 wa wv := sq_of (e5 _ _ (e4 _ _ hwa))
      refine q_forLn (ev_var rfl) hw5
        (fun i σ H' => ∃ (kvs : List (List Key × V)) (ss Fw : List Stg) (fv : List V) (b c : Option V), σ = [some (.ref l), some (.int (L : Int)), some (.ref ls), some (.ref d), some (.ref wa), some (.ref p), b, c] ∧ RW P w K ws L H H' ls d kvs ss ∧
          H' wa = some (.lst wv) ∧ DpAll K H' wv (W.map stD) ∧ H' p = some (.lst fv) ∧ DpAll K H' fv (Fw.map stD) ∧ Inl (sumsL ws) L t W i ss Fw ∧ ∀ kv ∈ kvs, kv.2 ≠ .ref p)
        (fun H6 e6 => ⟨kvs, ss, [], [], b, c, rfl, r5.go e6, e6 _ _ (e5 _ _ (e4 _ _ hwa)), DpAll.ext ((e4.trans e5).trans e6) _ _ hwd, e6 _ _ h5, .nil, inl, rch_ref hp r4.rc⟩)
        (fun i σ H' _ hP => by
          obtain ⟨_, _, _, _, _, _, _, _, z, _⟩ := hP
          exact sq_of z) ?_ ?_
      · rintro i x σ H6 hx ⟨kvs, ss, Fw, fv, b, c, rfl, r6, hwa6, hwd6, hp6, hfd, inl, hnp⟩
        obtain ⟨dd, hdd, hxd⟩ := dp_get hwd6 hx
        obtain ⟨sg, hsg, rfl⟩ : ∃ sg, W[i]? = some sg ∧ dd = stD sg := by
          rw [List.getElem?_map] at hdd
          cases e : W[i]? with
          | none => rw [e] at hdd; cases hdd
          | some sg => rw [e] at hdd; exact ⟨sg, rfl, (Option.some.inj hdd).symm⟩
        obtain ⟨tt, rfl, hst⟩ := stD_at hxd
        have hreach := ((lv sg).mp (List.mem_of_getElem? hsg)).1
        obtain ⟨hok, hk16⟩ := hreach.ok hL1 hn1
        have hmem := rch_mem r6.rc sg
        refine s_when (et_B (ev_dnotinX (ev_var rfl) (ev_var rfl) r6.da (k := keyS sg) hst)) (fun hb H7 e7 => ?_) (fun hb H7 e7 => ?_)
        · rw [hmem] at hb
          have hnm : sg ∉ ss := by simpa using hb
          have hvn : valV kvs (keyS sg) = none := by
            cases e : valV kvs (keyS sg) with
            | none => rfl
            | some y => rw [e] at hmem; simp [hnm] at hmem
          have hkl : kvs.length ≤ 4913 := by
            rw [Paired.length r6.rc]
            refine few hL1 hL2 hn1 hn2 inl.nd fun s hs => ?_
            rcases (inl.iff s).mp hs with z | z
            · exact z.1
            · exact ((lv s).mp (List.mem_of_mem_take z)).1
          have r7 := r6.go e7
          have hst7 := ex_t e7 hst
          refine q_dputLD (k := keyS sg) (eld_call (ea3 (ev_var rfl) (ev_var rfl) (ev_var rfl)) (spd_ch (sq_of r7.sq) hst7 hok (by rw [sumsL_len]; have := hw.n2; omega) (by omega))) (ev_var rfl) (ev_var rfl) r7.da hst7 (by omega) fun cl vs H8 H9 hcl e8 hcv hcd hd9 hk9 => ?_
          rw [putK_new _ hvn] at hd9
          obtain ⟨φ, hφ⟩ := (r7.da.ext e8).isX
          have hclp : cl ≠ p := fun z => by rw [z, e7 _ _ hp6] at hcl; cases hcl
          have nd : ∀ {a : Addr} {ys : List V}, H8 a = some (.lst ys) → H9 a = some (.lst ys) := fun {a ys} h => by
            rw [hk9 a fun z => by rw [z, hφ] at h; cases h]
            exact h
          have kt : ∀ b ys, SqT K H8 b ys → SqT K H9 b ys := fun b ys => sqt_but hφ hk9
          have hp8 := e8 _ _ (e7 _ _ hp6)
          have hfl : fv.length = Fw.length := by rw [DpAll.len hfd, List.length_map]
          have hcd9 := DpAll.keepT kt _ _ (chsD_noList _) hcd
          obtain ⟨ns, hn1', hn2', hns⟩ := chs_split hcd9
          have hgl := go_list (cs := chS (sumsL ws) L sg) (ns := ns) (fun i c hc => by
            obtain ⟨t, n, _, h2, _, h4⟩ := hns i c hc
            exact ⟨n, h2, h4⟩) _ (Nat.le_refl _)
          rw [List.take_length] at hgl
          have hgv : (given vs.length (isGo (chS (sumsL ws) L sg)) fun j => ns.getD j .non).length ≤ 20 := by
            rw [hn2', DpAll.len hgl, List.length_map]
            exact nexts_len (by omega)
          have hvp : valV (kvs ++ [(keyS sg, V.ref cl)]) (keyS sg) = some (.ref cl) := by rw [valV_snoc _ _ _ _ hvn, if_pos rfl]
          have hcl16 := ch_len (sums := sumsL ws) (L := L) (d := sg.1) (m := sg.2.1) (k := sg.2.2) (by omega)
          have hcof : ∀ (i : Nat) (x : V), vs[i]? = some x → ∃ (c : Cho) (t : Addr) (n : V), (chS (sumsL ws) L sg)[i]? = some c ∧ x = .ref t ∧ ns[i]? = some n ∧ SqT K H9 t [.int c.1, .int c.2.1, n] ∧ Dp K H9 n (nxD c.2.2) := fun i x hx => by
            have hi : i < (chS (sumsL ws) L sg).length := by rw [← hn2']; exact (List.getElem?_eq_some_iff.mp hx).1
            have hc := List.getElem?_eq_getElem hi
            obtain ⟨t, n, g1, g2, g3, g4⟩ := hns i _ hc
            rw [hx] at g1
            exact ⟨_, t, n, hc, Option.some.inj g1, g2, g3, g4⟩
          refine s_extL (nd hp8) (ev_var rfl) (el_lcL (xs := vs) (isGo (chS (sumsL ws) L sg)) (fun j => ns.getD j .non) (ev_dgx (ev_var rfl) (ev_var rfl) hd9 (k := keyS sg) (kt _ _ (ex_t e8 hst7)) hvp) (sq_of (nd hcv)) (by rw [hn2']; unfold chS; omega) (fun x => rfl)
            (fun i x H1 e1 hx => ?_) (fun i x H1 e1 hx hf => ?_)) (by
              have h1 := inl.len
              rw [hfl]
              rw [Paired.length r6.rc] at hkl
              omega) fun pq H10 hpq e10 h10 => ?_
          · obtain ⟨c, t, n, hc, rfl, hn, hst9, hdn⟩ := hcof i x hx
            refine et_is (et_test (ev_notN (ev_op (ev_var rfl) ev_c (rv_ixT (ex_t e1 hst9) rfl)) ev_c)) ?_
            rw [nx_is hdn]
            unfold isGo
            rw [hc]
            show (!c.2.2.isNone) = c.2.2.isSome
            cases c.2.2 <;> rfl
          · obtain ⟨c, t, n, hc, rfl, hn, hst9, hdn⟩ := hcof i x hx
            refine ev_is (ev_op (ev_var rfl) ev_c (rv_ixT (ex_t e1 hst9) rfl)) ?_
            rw [List.getD_eq_getElem?_getD, hn]
            rfl
          · have hp10 := e10 _ _ (nd hp8)
            have hnp' : ∀ kv ∈ kvs ++ [(keyS sg, V.ref cl)], kv.2 ≠ .ref p := fun kv hk => by
              rcases List.mem_append.mp hk with z | z
              · exact hnp kv z
              · rw [List.mem_singleton.mp z]
                intro z2
                injection z2 with z2
                exact hclp z2
            have sl : ∀ xs : List Stg, noListAll (xs.map stD) = true := noListAll_map stD_noList
            refine ⟨kvs ++ [(keyS sg, .ref cl)], ss ++ [sg], Fw ++ nexts (sumsL ws) L sg, _, _, c, rfl,
              ⟨Ex.mut ((ex_but (r7.ex.trans e8) hd0 hk9).trans e10) hp0, by rw [upd_ne hlp]; exact e10 _ _ (nd (e8 _ _ r7.sq)), (hd9.ext e10).put hp10, rch_put hp10 hnp' (rch_ext e10 (Paired.snoc (rch_but hφ hk9 (rch_ext e8 r7.rc)) ⟨rfl, cl, vs, rfl, nd hcv, hcd9⟩))⟩,
              by rw [upd_ne hwp]; exact e10 _ _ (nd (e8 _ _ (e7 _ _ hwa6))), DpAll.put hp10 _ _ (sl _) (DpAll.ext e10 _ _ (DpAll.keepT kt _ _ (sl _) (DpAll.ext (e7.trans e8) _ _ hwd6))), upd_same, ?_, inl.new lv hsg hnm (nexts_len (by omega)), hnp'⟩
            rw [List.map_append]
            refine dp_appAll (DpAll.put hp10 _ _ (sl _) (DpAll.ext e10 _ _ (DpAll.keepT kt _ _ (sl _) (DpAll.ext (e7.trans e8) _ _ hfd)))) (DpAll.put hp10 _ _ (sl _) (DpAll.ext e10 _ _ ?_))
            rw [hn2']
            exact hgl
        · rw [hmem] at hb
          have hm : sg ∈ ss := by simpa using hb
          exact ⟨kvs, ss, Fw, fv, _, c, rfl, r6.go e7, e7 _ _ hwa6, DpAll.ext e7 _ _ hwd6, e7 _ _ hp6, DpAll.ext e7 _ _ hfd, inl.old lv hsg hm, hnp⟩
      · rintro σ H6 ⟨kvs, ss, Fw, fv, b, c, rfl, r6, hwa6, hwd6, hp6, hfd, inl, hnp⟩
        rw [hWl] at inl
        obtain ⟨lv2, inl2⟩ := inl.done hL1 hn1 lv
        exact s_asg (ev_var rfl) fun H7 e7 => ⟨p, fv, Fw, kvs, ss, _, _, _, rfl, r6.go e7, e7 _ _ hp6, DpAll.ext e7 _ _ hfd, lv2, inl2 _⟩
    · have hWn : W = [] := by
        have h2 : wv.length = W.length := by rw [DpAll.len hwd, List.length_map]
        have : wv = [] := by simpa using hb
        rw [this] at h2
        exact List.eq_nil_of_length_eq_zero h2.symm
      subst hWn
      have r4 := rw.go e4
      exact s_ret (ev_var rfl) fun H5 e5 => q d kvs ss H5 hd0 (r4.ex.trans e5) (r4.da.ext e5) (rch_ext e5 r4.rc) (rs_of hL1 hn1 lv inl)
end
end K05
set_option Elab.async false
set_option linter.all false
set_option maxRecDepth 100000
set_option maxHeartbeats 4000000
namespace K05
open PySem PySem.Spec PyProof.Rows L2 GX KC Evl M03 M04
def ovI : Option Int → L2.V
  | none => .non
  | some v => .int v
theorem ovI_none (o : Option Int) : decide (ovI o = .non) = o.isNone := by cases o <;> rfl
theorem ovI_inB (o : Option Int) : inB (ovI o) = true := by cases o <;> rfl
theorem fold_some (l : List (Option Int)) : ∀ b : Int, l.foldl oadd (some b) = some ((l.filterMap id).foldl min b) := by
  induction l with
  | nil => intro b; rfl
  | cons x l ih =>
    intro b
    cases x with
    | none => exact ih b
    | some p =>
      show l.foldl oadd (oadd (some b) (some p)) = _
      have e : oadd (some b) (some p) = some (min b p) := by
        unfold oadd
        show (if p < b then some p else some b) = _
        by_cases z : p < b
        · rw [if_pos z, show min b p = p by omega]
        · rw [if_neg z, show min b p = b by omega]
      rw [e, ih]
      rfl
theorem minO_is : ∀ l : List (Option Int), minO (l.filterMap id) = ovI (omin l)
  | [] => rfl
  | none :: l => minO_is l
  | some p :: l => by
    show L2.V.int ((l.filterMap id).foldl min p) = ovI ((l.foldl oadd (some p)))
    rw [fold_some]
    rfl
theorem given_opt (l : List (Option Int)) : ∀ i, i ≤ l.length → given i (fun i => (l.getD i none).isSome) (fun i => ovI (l.getD i none)) = ((l.take i).filterMap id).map L2.V.int
  | 0, _ => rfl
  | i + 1, h => by
    have ih := given_opt l i (by omega)
    have hi : i < l.length := by omega
    have hc : l[i]? = some l[i] := List.getElem?_eq_getElem hi
    have hd : l.getD i none = l[i] := by rw [List.getD_eq_getElem?_getD, hc]; rfl
    generalize l[i] = x at hc hd
    rw [fm_take _ _ hc]
    cases x with
    | none =>
      rw [given_no (by simp only [hd]; rfl), ih]
      simp
    | some p =>
      rw [given_yes (by simp only [hd]; rfl), ih, List.map_append]
      simp only [hd]
      rfl
/-! ### the values as a dict -/
def entV (sums : List Int) (L : Int) (s : Stg) : List Key × L2.V := (keyS s, ovI (M04.V sums L s))
theorem ent_get {sums : List Int} {L : Int} {s : Stg} : ∀ {l : List Stg}, s ∈ l → valV (l.map (entV sums L)) (keyS s) = some (ovI (M04.V sums L s))
  | x :: l, h => by
    rw [List.map_cons]
    by_cases e : s = x
    · subst e
      exact valV_pos rfl
    · rw [valV_neg (fun q => e (keyS_inj q).symm)]
      exact ent_get (by
        rcases List.mem_cons.mp h with q | q
        · exact absurd q e
        · exact q)
theorem ent_none {sums : List Int} {L : Int} {s : Stg} : ∀ {l : List Stg}, s ∉ l → valV (l.map (entV sums L)) (keyS s) = none
  | [], _ => rfl
  | x :: l, h => by
    rw [List.map_cons, valV_neg (fun q => h (by rw [keyS_inj q]; simp))]
    exact ent_none fun z => h (by simp [z])
section
variable {P : Program} {w : World} {K : PySem.W.Frag} {mg : Str → Option Value} {base : Heap}
def spLsum (P : Program) (w : World) (K : PySem.W.Frag) : Sp := fun vs H Q _ => ∃ (x : L2.V) (d : Addr) (c : Cho) (kvs : List (List Key × L2.V)) (g : Stg → Option Int), vs = [x, .ref d] ∧ Dp K H x (chD c) ∧ DAt P w K H d kvs ∧ (∀ s, c.2.2 = some s → valV kvs (keyS s) = some (ovI (g s))) ∧ RetV (ovI (lsum g c)) H Q
theorem ok_least_sum {f : Addr} {fd : FuncData} {k : Nat} (F : Fun K "least_sum" "least_sum" s_least_sum f fd) (B : Bs mg) : FnOk P w K mg base CX0 (k + 1) f fd ["choice", "known"] (spLsum P w K) := by
  refine F.ok sc_least_sum (fun vs H Q E h => ?_) (fun cdv A outer s H vs Q E hr h => ?_)
  · obtain ⟨x, d, c, kvs, g, rfl, _⟩ := h
    rfl
  · obtain ⟨x, d, c, kvs, g, rfl, hx, hd, hv, q⟩ := h
    have hu := lt64 hr.units
    refine ⟨_, (pss_cons (ps_asg (pv 0) (pg_tup rfl (pgs_cons (pg_name (i := 2) sc_least_sum.nd rfl (Or.inl rfl)) (pgs_cons (pg_name (i := 3) sc_least_sum.nd rfl (Or.inl rfl)) (pgs_cons (pg_name (i := 4) sc_least_sum.nd rfl (Or.inl rfl)) pgs_nil)))))
      (pss_cons (ps_if (pt_cmpR op_isN (pv 4) pe_non (nomark _)) (pss_one (ps_ret (pv 3))) pss_nil)
      (pss_cons (ps_if (pt_cmpR op_isN (pe_dgx (P := P) (w := w) (K := K) ⟨rfl, rfl, rfl⟩ hu (pv 1) (pv 4) (fun _ _ => rfl)) pe_non (nomark _)) (pss_one (ps_ret pe_non)) pss_nil)
      (pss_one (ps_ret (pe_op op_add (pv 3) (pe_dgx (P := P) (w := w) (K := K) ⟨rfl, rfl, rfl⟩ hu (pv 1) (pv 4) (fun _ _ => rfl)))))))), ?_⟩
    obtain ⟨t, n, rfl, hst, hn⟩ := ch_at hx
    refine q_unp (ev_var rfl) hst rfl fun H1 e1 => ⟨_, _, rfl, _, _, rfl, _, _, rfl, rfl, ?_⟩
    have hnx := nx_is hn
    refine q_when (et_test (ev_isN (ev_var rfl) ev_c)) (fun hb H2 e2 => ?_) (fun hb H2 e2 => ?_)
    · rw [hnx] at hb
      have e : c.2.2 = none := by simpa using hb
      refine s_ret (ev_var rfl) fun H3 e3 => ?_
      have := q H3 ((e1.trans e2).trans e3)
      unfold lsum at this
      rw [e] at this
      exact this
    · rw [hnx] at hb
      obtain ⟨s', e⟩ : ∃ s', c.2.2 = some s' := by
        cases e : c.2.2 with
        | none => rw [e] at hb; simp at hb
        | some s' => exact ⟨s', rfl⟩
      obtain ⟨t2, rfl, hst2⟩ := nx_some hn e
      have hls : lsum g c = (g s').map (c.2.1 + ·) := by unfold lsum; rw [e]
      rw [hls] at q
      have gv := hv s' e
      refine q_when (et_test (ev_isN (ev_dgx (ev_var rfl) (ev_var rfl) (hd.ext (e1.trans e2)) (k := keyS s') (ex_t (e1.trans e2) hst2) gv) ev_c)) (fun hb H3 e3 => ?_) (fun hb H3 e3 => ?_)
      · rw [ovI_none] at hb
        have eg : g s' = none := by simpa using hb
        rw [eg] at q
        exact s_ret ev_c fun H4 e4 => q H4 (((e1.trans e2).trans e3).trans e4)
      · rw [ovI_none] at hb
        obtain ⟨y, eg⟩ : ∃ y, g s' = some y := by
          cases e : g s' with
          | none => rw [e] at hb; simp at hb
          | some y => exact ⟨y, rfl⟩
        rw [eg] at q gv
        exact s_ret (ev_add (ev_var rfl) (ev_dgx (ev_var rfl) (ev_var rfl) (hd.ext ((e1.trans e2).trans e3)) (k := keyS s') (ex_t ((e1.trans e2).trans e3) hst2) gv)) fun H4 e4 => q H4 (((e1.trans e2).trans e3).trans e4)
theorem spv_lsum {H : Hp} {x : L2.V} {d : Addr} {c : Cho} {kvs : List (List Key × L2.V)} {g : Stg → Option Int} (hx : Dp K H x (chD c)) (hd : DAt P w K H d kvs) (hv : ∀ s, c.2.2 = some s → valV kvs (keyS s) = some (ovI (g s))) : SpV (spLsum P w K) ([x, .ref d] ++ []) H (ovI (lsum g c)) := fun H1 e1 Q q E =>
  ⟨x, d, c, kvs, g, rfl, Dp.ext e1 _ _ hx, hd.ext e1, hv, q⟩
/-- stages given with their choices -/
structure SIn (P : Program) (w : World) (K : PySem.W.Frag) (sums : List Int) (L : Int) (d : Addr) (H : Hp) (kvs : List (List Key × L2.V)) (ss : List Stg) : Prop where
  da : DAt P w K H d kvs
  rc : RCh K sums L H kvs ss
  rs : RS sums L ss
  l1 : 1 ≤ L
  l2 : L ≤ 16
  n1 : 1 ≤ nN sums
  n2 : nN sums ≤ 16
def spVals (P : Program) (w : World) (K : PySem.W.Frag) : Sp := fun vs H Q _ => ∃ (d : Addr) (sums : List Int) (L : Int) (kvs : List (List Key × L2.V)) (ss : List Stg), vs = [.ref d] ∧ SIn P w K sums L d H kvs ss ∧
  ∀ d2 H2, H d2 = none → Ex H H2 → DAt P w K H2 d2 (ss.reverse.map (entV sums L)) → Q (.ref d2) H2
theorem keys_of {sums : List Int} {L : Int} {H : Hp} {kvs : List (List Key × L2.V)} {ss : List Stg} {bs : List Addr} (h1 : IsKeysX K H kvs bs) (h2 : RCh K sums L H kvs ss) : bs.length = ss.length ∧ ∀ (i : Nat) (b : Addr), bs[i]? = some b → ∃ s, ss[i]? = some s ∧ SqT K H b (stV s) := by
  unfold IsKeysX at h1
  induction h2 generalizing bs with
  | nil => cases h1; exact ⟨rfl, fun i b z => by simp at z⟩
  | @cons kv s kvs ss z t ih =>
    cases h1 with
    | cons a r =>
      obtain ⟨g1, g2⟩ := ih r
      refine ⟨by simp [g1], fun i b hb => ?_⟩
      cases i with
      | zero =>
        have := Option.some.inj (show some _ = some b from hb)
        subst this
        rw [z.key] at a
        exact ⟨s, rfl, a⟩
      | succ i => simpa using g2 i b (by simpa using hb)
theorem ok_stage_values {f : Addr} {fd : FuncData} {k : Nat} (F : Fun K "stage_values" "stage_values" s_stage_values f fd) (B : Bs mg) (C_least_sum : Cal P w K mg base "least_sum" 1 ["choice", "known"] (spLsum P w K)) :
    FnOk P w K mg base CX0 (k + 2) f fd ["stages"] (spVals P w K) := by
  refine F.ok sc_stage_values (fun vs H Q E h => ?_) (fun cdv A outer s H vs Q E hr h => ?_)
  · obtain ⟨d, sums, L, kvs, ss, rfl, _⟩ := h
    rfl
  · obtain ⟨d, sums, L, kvs, ss, rfl, hin, q⟩ := h
    have hu64 := hr.units
    have hu := lt64 hr.units
    refine ⟨_, (pss_cons (ps_set (i := 1) sc_stage_values.nd rfl (Or.inr rfl) (pe_dnewX (P := P) (w := w) (K := K) ⟨rfl, rfl, rfl⟩))
      (pss_cons (ps_for PassesOwn.never rfl (pi_reversed (by rfl) B.reversed (pa_cons (pe_callTy (call_list_dX rfl) (by rfl) B.list (by decide +kernel) (pa_cons (pv 0) pa_nil)) pa_nil)) (pg_name (i := 2) sc_stage_values.nd rfl (Or.inl rfl)) (pss_cons (ps_setLc (i := 3) rfl sc_stage_values.nd rfl rfl (sw_true rfl rfl rfl (by decide +kernel)) (pi_list (pe_dgx (P := P) (w := w) (K := K) ⟨rfl, rfl, rfl⟩ hu (pv 0) (pv 2) (fun _ _ => rfl))) (blkOk_by (own := [("choice", 4)]) (N := ["stages", "known", "stage", "sums", "choice", "total"]) (sc := defScope s_stage_values) (by decide +kernel)) (fun _ _ _ _ _ => (pg_name (i := 4) sc_stage_values.nd rfl (Or.inl rfl))) (fun _ _ _ _ _ => pts_nil) (fun _ _ _ _ _ => (pe_callC C_least_sum (hr.mono (by omega)) (by rfl) (pa_cons (pv 4) (pa_cons (pv 1) pa_nil)))))
      (pss_one (ps_dputX (P := P) (w := w) (K := K) ⟨rfl, rfl, rfl⟩ hu (pv 1) (pv 2) (pe_callBK (cr_minN rfl hu64) (by rfl) B.min (by decide +kernel) (pa_cons (pe_lc rfl sc_stage_values.nd (pi_list (pv 3)) (blkOk_by (own := [("total", 5)]) (N := ["stages", "known", "stage", "sums", "choice", "total"]) (sc := defScope s_stage_values) (by decide +kernel)) (fun _ _ _ _ _ => (pg_name (i := 5) sc_stage_values.nd rfl (Or.inl rfl))) (fun _ _ _ _ _ => (pts_one (pt_cmpR op_notN (pv 5) pe_non (nomark _)))) (fun _ _ _ _ _ => (pv 5))) pa_nil) (pk_cons pe_non pk_nil)) rfl))))
      (pss_one (ps_ret (pv 1))))), ?_⟩
    obtain ⟨hda, hrc, hrs, hL1, hL2, hn1, hn2⟩ := hin
    have hkl := Paired.length hrc
    have hfew : ss.length ≤ 4913 := few hL1 hL2 hn1 hn2 hrs.nd fun s hs => (hrs.iff s).mp hs
    refine q_dnew (K := K) fun d2 H1 hd2 e1 hd1 => ?_
    refine q_forRevX (C := fun xs => ∃ bs, xs = bs.map L2.V.ref ∧ IsKeysX K H1 kvs bs)
      (fun Q q => ⟨_, rfl, d, kvs, rfl, hda.ext e1, fun p bs hp hb => q p _ _ hp (Ex.new hp) upd_same ⟨bs, rfl, hb⟩⟩)
      (fun xs p i σ H' => ∃ a b : Option L2.V, σ = [some (.ref d), some (.ref d2), a, b, none, none] ∧ Ex H H' ∧ (∀ b ys, SqT K H1 b ys → SqT K H' b ys) ∧ H' p = some (.lst xs) ∧ DAt P w K H' d2 ((ss.reverse.take i).map (entV sums L)))
      (fun xs p H2 hp e2 h2 hc => ⟨none, none, rfl, e1.trans e2, fun b ys => ex_t e2, h2, hd1.ext e2⟩)
      (fun xs p i σ H' _ hP => by
        obtain ⟨_, _, _, _, _, z, _⟩ := hP
        exact sq_of z) ?_ ?_
    · rintro xs p i x σ H2 ⟨bs, rfl, hbs⟩ hx hi ⟨a, b, rfl, e2, hk2, hp2, hd⟩
      obtain ⟨hbl, hbk⟩ := keys_of hbs (rch_ext e1 hrc)
      rw [List.length_map, hbl] at hx hi
      obtain ⟨b', hb', rfl⟩ : ∃ b', bs[ss.length - 1 - i]? = some b' ∧ L2.V.ref b' = x := by
        rw [List.getElem?_map] at hx
        cases e : bs[ss.length - 1 - i]? with
        | none => rw [e] at hx; cases hx
        | some b' => rw [e] at hx; exact ⟨b', rfl, Option.some.inj hx⟩
      obtain ⟨sg, hsg, hst1⟩ := hbk _ _ hb'
      have hst := hk2 _ _ hst1
      have hsm := List.mem_of_getElem? hsg
      have hreach := (hrs.iff sg).mp hsm
      obtain ⟨hok, hk16⟩ := hreach.ok hL1 hn1
      obtain ⟨cl, vs, hv, hcl, hcd⟩ := rch_val (rch_ext e2 hrc) hsm
      have hrev : ss.reverse[i]? = some sg := by
        rw [List.getElem?_reverse hi]
        exact hsg
      have htk : ss.reverse.take (i + 1) = ss.reverse.take i ++ [sg] := by rw [List.take_succ, hrev]; rfl
      have hrn : ss.reverse.Nodup := (List.reverse_perm ss).nodup_iff.mpr hrs.nd
      have hsn : sg ∉ ss.reverse.take i := fun z => by
        have h2 : (ss.reverse.take (i + 1)).Nodup := hrn.sublist (List.take_sublist _ _)
        rw [htk, List.nodup_append] at h2
        exact h2.2.2 sg z sg (by simp) rfl
      have hsplit : ss = ss.take (ss.length - 1 - i) ++ sg :: ss.drop (ss.length - 1 - i + 1) := by
        have hlt : ss.length - 1 - i < ss.length := by omega
        have h2 : ss[ss.length - 1 - i] = sg := by
          rw [List.getElem?_eq_getElem hlt] at hsg
          exact Option.some.inj hsg
        rw [← h2, ← List.drop_eq_getElem_cons hlt, List.take_append_drop]
      have hbeh : ∀ c ∈ chS sums L sg, ∀ s', c.2.2 = some s' → valV ((ss.reverse.take i).map (entV sums L)) (keyS s') = some (ovI (M04.V sums L s')) := fun c hc s' ec => by
        refine ent_get ?_
        have := hrs.behind hsplit hL1 hn1 hc ec
        have e : ss.reverse.take i = (ss.drop (ss.length - 1 - i + 1)).reverse := by
          have h3 : (ss.drop (ss.length - 1 - i + 1)).reverse.length = i := by rw [List.length_reverse, List.length_drop]; omega
          conv => lhs; rw [hsplit, List.reverse_append, List.reverse_cons, List.append_assoc]
          rw [List.take_left' h3]
        rw [e]
        exact List.mem_reverse.mpr this
      have hvl : vs.length = (chS sums L sg).length := by
        rw [DpAll.len hcd]
        exact List.length_map _
      have hcl16 := ch_len (sums := sums) (L := L) (d := sg.1) (m := sg.2.1) (k := sg.2.2) (by omega)
      have hcl17 : (chS sums L sg).length ≤ 17 := hcl16
      obtain ⟨ls, hls⟩ : ∃ ls, ls = (chS sums L sg).map (lsum (M04.V sums L)) := ⟨_, rfl⟩
      have hlsl : ls.length = (chS sums L sg).length := by rw [hls, List.length_map]
      refine q_asgL (el_lcL (xs := vs) (fun _ => true) (fun j => ovI (ls.getD j none)) (ev_dgx (ev_var rfl) (ev_var rfl) (hda.ext e2) (k := keyS sg) hst hv) (sq_of hcl) (by omega) (fun x => rfl) (fun j y H3 e3 hy => et_yes) (fun j y H3 e3 hy _ => ?_)) fun p3 H3 hp3 e3 h3 => ?_
      · obtain ⟨dd, hdd, hyd⟩ := dp_get hcd hy
        unfold chsD at hdd
        rw [List.getElem?_map] at hdd
        cases e : (chS sums L sg)[j]? with
        | none => rw [e] at hdd; cases hdd
        | some c =>
          rw [e] at hdd
          have hdd := Option.some.inj hdd
          subst hdd
          refine ev_is (ev_call (ea2 (ev_var rfl) (ev_var rfl)) (spv_lsum (Dp.ext e3 _ _ hyd) (hd.ext e3) (hbeh c (List.mem_of_getElem? e)))) ?_
          rw [hls, List.getD_eq_getElem?_getD, List.getElem?_map, e]
          rfl
      · have hga : given vs.length (fun _ => true) (fun j => ovI (ls.getD j none)) = (List.range vs.length).map fun j => ovI (ls.getD j none) := by
          unfold given
          rw [List.filter_eq_self.mpr fun _ _ => rfl]
        have hgl : ((List.range vs.length).map fun j => ovI (ls.getD j none)).length = vs.length := by rw [List.length_map, List.length_range]
        rw [hga] at h3
        have el : EvL _ _ _ _ := el_lcL (K := K) (σ := [some (.ref d), some (.ref d2), some (.ref b'), some (.ref p3), none, none]) (H := H3) (te := tVar 5) (tl := tVar 3) (j := 5) (vs := [5]) (t := tTest (tOp (fun x y H Q => y = .non ∧ Q (.bl (!decide (x = .non))) H) (tVar 5) (tC .non))) (xs := (List.range vs.length).map fun j => ovI (ls.getD j none)) (fun j => (ls.getD j none).isSome) (fun j => ovI (ls.getD j none)) (ev_var rfl) (sq_of h3) (by rw [hgl]; omega) (fun x => rfl) (fun j y H4 e4 hy => by
            have hj : j < vs.length := by have := (List.getElem?_eq_some_iff.mp hy).1; omega
            rw [List.getElem?_map, List.getElem?_range hj] at hy
            have hy := Option.some.inj hy
            subst hy
            refine et_is (et_test (ev_notN (ev_var rfl) ev_c)) ?_
            rw [ovI_none]
            cases ls.getD j none <;> rfl) (fun j y H4 e4 hy _ => by
            have hj : j < vs.length := by have := (List.getElem?_eq_some_iff.mp hy).1; omega
            rw [List.getElem?_map, List.getElem?_range hj] at hy
            have hy := Option.some.inj hy
            subst hy
            exact ev_var rfl)
        have eg := given_opt ls vs.length (by omega)
        rw [hgl, eg, hvl, ← hlsl, List.take_length] at el
        refine s_dput (k := keyS sg) (ev_minN (l := 0) el fun H4 e4 => ev_c) (ev_var rfl) (ev_var rfl) (hd.ext e3) (ex_t e3 hst) (by rw [List.length_map, List.length_take]; omega) fun H4 H5 e4 hd5 hk5 => ?_
        rw [minO_is, hls, ← V_eq hok, putK_new _ (ent_none hsn)] at hd5
        obtain ⟨φ, hφ⟩ := (hd.ext (e3.trans e4)).isX
        have hpd : p ≠ d2 := fun z => by
          have h1 := (e3.trans e4) _ _ hp2
          rw [z, hφ] at h1
          cases h1
        refine ⟨_, _, rfl, ex_but (e2.trans (e3.trans e4)) hd2 hk5, fun b ys hb => sqt_but hφ hk5 (ex_t (e3.trans e4) (hk2 _ _ hb)), by rw [hk5 p hpd]; exact (e3.trans e4) _ _ hp2, ?_⟩
        rw [htk, List.map_append]
        exact hd5
    · rintro xs p σ H2 ⟨bs, rfl, hbs⟩ ⟨a, b, rfl, e2, hk2, hp2, hd⟩
      have hl := (keys_of hbs (rch_ext e1 hrc)).1
      rw [List.length_map, hl, ← List.length_reverse, List.take_length] at hd
      exact s_ret (ev_var rfl) fun H3 e3 => q d2 H3 hd2 (e2.trans e3) (hd.ext e3)
end
end K05
set_option linter.all false
/-! One step of the rule. -/
namespace M04
open M03
structure AtS (ws : List Int) (L : Nat) (s : Stg) (acc : List Int) : Prop where
  re : Reach (sumsL ws) L s
  va : ∃ v, V (sumsL ws) L s = some v
  eq : scat (rankL ws) s.1.toNat s.2.1.toNat (due (sumsL ws) L (L + 1 - s.1.toNat) s) acc = lensW ws L
theorem nN_sums (ws : List Int) : nN (sumsL ws) = ws.length := by
  unfold nN; rw [sumsL_len]; push_cast; omega
theorem AtS.first {ws : List Int} {L : Nat} {v : Int} (hv : V (sumsL ws) L (0, 0, 1) = some v) : AtS ws L (0, 0, 1) (List.replicate ws.length 0) := ⟨.first, ⟨v, hv⟩, rfl⟩
theorem AtS.step {ws : List Int} {L : Nat} {s : Stg} {acc : List Int} (hL : 1 ≤ L) (hn : 1 ≤ ws.length) (h : AtS ws L s acc) : ∃ c, pick (sumsL ws) L s = some c ∧ c ∈ chS (sumsL ws) L s ∧ 0 ≤ c.1 ∧ 0 ≤ s.1 ∧ s.1 ≤ L ∧ 0 ≤ s.2.1 ∧ s.2.1 + c.1 ≤ ws.length ∧
    (c.2.2 = none → wr acc s.1.toNat (((rankL ws).drop s.2.1.toNat).take c.1.toNat) = lensW ws L) ∧ ∀ s', c.2.2 = some s' → s'.1 = s.1 + 1 ∧ AtS ws L s' (wr acc s.1.toNat (((rankL ws).drop s.2.1.toNat).take c.1.toNat)) := by
  obtain ⟨re, ⟨v, hv⟩, eq⟩ := h
  have hnn : 1 ≤ nN (sumsL ws) := by rw [nN_sums]; omega
  obtain ⟨ok, _⟩ := re.ok (by omega) hnn
  have hd := ok.d
  have hm := ok.m
  obtain ⟨c, hp, hc, hs⟩ := pick_some ok hv
  have hic := (ch_mem ok).mp hc
  obtain ⟨t, ht⟩ : ∃ t, L + 1 - s.1.toNat = t + 1 := ⟨L - s.1.toNat, by omega⟩
  rw [ht, due, hp] at eq
  simp only at eq
  refine ⟨c, hp, hc, ?_⟩
  have hb : 0 ≤ c.1 ∧ s.2.1 + c.1 ≤ ws.length ∧ ∀ s', c.2.2 = some s' → s'.1 = s.1 + 1 ∧ s'.2.1 = s.2.1 + c.1 := by
    have e := nN_sums ws
    cases hic with
    | stop h0 h1 h2 h3 => exact ⟨h0, (show s.2.1 + _ ≤ (ws.length : Int) by omega), fun s' z => by cases z⟩
    | go h0 h1 h2 h3 h4 => exact ⟨h0, (show s.2.1 + _ ≤ (ws.length : Int) by omega), fun s' z => by
        have z := Option.some.inj z
        subst z
        exact ⟨rfl, rfl⟩⟩
  refine ⟨hb.1, hd.1, by omega, hm.1, hb.2.1, fun e => ?_, fun s' e => ?_⟩
  · rw [e] at eq
    exact eq
  · rw [e] at eq
    obtain ⟨h1, h2⟩ := hb.2.2 s' e
    refine ⟨h1, .next re hc e, ?_, ?_⟩
    · unfold lsum at hs
      rw [e] at hs
      cases hv2 : V (sumsL ws) L s' with
      | none =>
        have hs : Option.map (fun x => c.2.1 + x) (V (sumsL ws) L s') = some v := hs
        rw [hv2] at hs
        simp at hs
      | some y => exact ⟨y, rfl⟩
    · have e1 : s'.1.toNat = s.1.toNat + 1 := by omega
      have e2 : s'.2.1.toNat = s.2.1.toNat + c.1.toNat := by omega
      have e3 : L + 1 - (s.1.toNat + 1) = t := by omega
      rw [e1, e2, e3]
      exact eq
theorem wr_len (d : Nat) : ∀ (xs : List Nat) (acc : List Int), (wr acc d xs).length = acc.length
  | [], acc => rfl
  | x :: xs, acc => by
    show (wr (acc.set x d) d xs).length = _
    rw [wr_len d xs, List.length_set]
theorem wr_snoc (acc : List Int) (d : Nat) (xs : List Nat) (x : Nat) : wr acc d (xs ++ [x]) = (wr acc d xs).set x d := by
  unfold wr
  rw [List.foldl_append]
  rfl
end M04
set_option Elab.async false
set_option linter.all false
set_option maxRecDepth 100000
set_option maxHeartbeats 4000000
namespace K05
open PySem PySem.Spec PyProof.Rows L2 GX KC Evl M03 M04
theorem flatr (n : Nat) (v : L2.V) : (List.replicate n [v]).flatten = List.replicate n v := by
  induction n with
  | zero => rfl
  | succ n ih => rw [List.replicate_succ, List.flatten_cons, ih]; rfl
theorem cut_mid (xs : List L2.V) {a b : Nat} (h1 : a ≤ b) (h2 : b ≤ xs.length) : cutV xs (some (a : Int)) (some (b : Int)) = (xs.drop a).take (b - a) := by
  unfold cutV
  have e1 : min a xs.length = a := by omega
  have e2 : min b xs.length = b := by omega
  rw [HT.sIx_nat, HT.sIx_nat, e1, e2]
theorem scal_ovI (a b : Option Int) : scal (ovI a) (ovI b) = true := by cases a <;> cases b <;> rfl
theorem dec_ovI (a b : Option Int) : decide (ovI a = ovI b) = decide (a = b) := by
  cases a <;> cases b <;> simp [ovI]
section
variable {P : Program} {w : World} {K : PySem.W.Frag} {mg : Str → Option Value} {base : Heap}
theorem ep_call {σ : L2.St} {H : Hp} {sp : Sp} {dvs vs : List L2.V} {E : XK} {ta : TA} {R : L2.V → Hp → Prop} (h : EvA ta σ H vs) (hs : ∀ H1, Ex H H1 → ∀ Q : VK, (∀ v H2, Ex H1 H2 → R v H2 → Q v H2) → sp (vs ++ dvs) H1 Q E) : EvP (tCall sp dvs E ta) σ H R := fun H1 e Q q =>
  h H1 e _ fun H2 e2 => hs H2 (e.trans e2) Q fun v H3 e3 r => q v H3 (e2.trans e3) r
theorem ep_reach {σ : L2.St} {H : Hp} {l : Addr} {ws : List Int} {L : Nat} {E : XK} {ta : TA} (hw : WIn K ws L l H) (h : EvA ta σ H [.ref l, .int (L : Int)]) : EvP (tCall (spReach P w K) [] E ta) σ H (fun v H2 => ∃ d kvs ss, v = .ref d ∧ H d = none ∧ DAt P w K H2 d kvs ∧ RCh K (sumsL ws) L H2 kvs ss ∧ RS (sumsL ws) L ss) :=
  ep_call h fun H1 e1 Q q => ⟨l, ws, L, rfl, hw.ext e1, fun d kvs ss H2 hd e2 h1 h2 h3 => q _ H2 e2 ⟨d, kvs, ss, rfl, fresh_back e1 hd, h1, h2, h3⟩⟩
theorem sin_of {H : Hp} {l d : Addr} {ws : List Int} {L : Nat} {kvs : List (List Key × L2.V)} {ss : List Stg} (hw : WIn K ws L l H) (h1 : DAt P w K H d kvs) (h2 : RCh K (sumsL ws) L H kvs ss) (h3 : RS (sumsL ws) L ss) : SIn P w K (sumsL ws) L d H kvs ss := by
  have a := hw.n1
  have b := hw.n2
  have c := hw.l1
  have e := hw.l2
  exact ⟨h1, h2, h3, by omega, by omega, by rw [nN_sums]; omega, by rw [nN_sums]; omega⟩
theorem ep_vals {σ : L2.St} {H : Hp} {d : Addr} {sums : List Int} {L : Int} {E : XK} {ta : TA} {kvs : List (List Key × L2.V)} {ss : List Stg} (hs : SIn P w K sums L d H kvs ss) (h : EvA ta σ H [.ref d]) : EvP (tCall (spVals P w K) [] E ta) σ H (fun v H2 => ∃ d2, v = .ref d2 ∧ H d2 = none ∧ DAt P w K H2 d2 (ss.reverse.map (entV sums L))) :=
  ep_call h fun H1 e1 Q q => ⟨d, sums, L, kvs, ss, rfl, ⟨hs.da.ext e1, rch_ext e1 hs.rc, hs.rs, hs.l1, hs.l2, hs.n1, hs.n2⟩, fun d2 H2 hd e2 h1 => q _ H2 e2 ⟨d2, rfl, fresh_back e1 hd, h1⟩⟩
/-! ### what fits, kept -/
theorem keep_list {H : Hp} {vs : List L2.V} {cs : List Cho} (p : Cho → Bool) (hd : DpAll K H vs (chsD cs)) : ∀ i, i ≤ cs.length → DpAll K H (given i (fun j => match cs[j]? with | some c => p c | none => false) fun j => vs.getD j .non) (chsD ((cs.take i).filter p))
  | 0, _ => .nil
  | i + 1, h => by
    have ih := keep_list p hd i (by omega)
    have hi : i < cs.length := by omega
    have hc : cs[i]? = some cs[i] := List.getElem?_eq_getElem hi
    generalize cs[i] = c at hc
    have hvl : vs.length = cs.length := by rw [DpAll.len hd]; exact List.length_map _
    have hv : vs[i]? = some (vs.getD i .non) := by
      rw [List.getD_eq_getElem?_getD, List.getElem?_eq_getElem (by omega)]
      rfl
    obtain ⟨dd, h1, h2⟩ := dp_get hd hv
    unfold chsD at h1
    rw [List.getElem?_map, hc] at h1
    have h1 := Option.some.inj h1
    subst h1
    rw [List.take_succ, hc]
    cases e : p c with
    | true =>
      rw [given_yes (by simp only [hc]; exact e), List.filter_append]
      unfold chsD
      rw [List.map_append]
      refine dp_appAll ih ?_
      show DpAll K H _ (([c].filter p).map chD)
      rw [List.filter_cons, if_pos e]
      exact .cons h2 .nil
    | false =>
      rw [given_no (by simp only [hc]; exact e), List.filter_append]
      have e2 : ([c].filter p) = [] := by rw [List.filter_cons, if_neg (by rw [e]; exact Bool.false_ne_true)]; rfl
      show DpAll K H _ (chsD ((cs.take i).filter p ++ [c].filter p))
      rw [e2, List.append_nil]
      exact ih
theorem dp_last {H : Hp} {ys : List L2.V} {cs : List Cho} {c : Cho} (h : DpAll K H ys (chsD cs)) (hc : cs.getLast? = some c) : ∃ y, atI ys (-1) = some y ∧ Dp K H y (chD c) := by
  have hne : cs ≠ [] := fun z => by rw [z] at hc; cases hc
  have hl : ys.length = cs.length := by rw [DpAll.len h]; exact List.length_map _
  have hpos := List.length_pos_iff.mpr hne
  have hyne : ys ≠ [] := fun z => by rw [z] at hl; simp at hl; omega
  have hget : ys[ys.length - 1]? = some (ys.getLast hyne) := by rw [List.getLast_eq_getElem, List.getElem?_eq_getElem]
  obtain ⟨dd, h1, h2⟩ := dp_get h hget
  have h3 : cs[cs.length - 1]? = some c := by rw [← List.getLast?_eq_getElem?]; exact hc
  unfold chsD at h1
  rw [List.getElem?_map, hl, h3] at h1
  have h1 := Option.some.inj h1
  subst h1
  refine ⟨_, ?_, h2⟩
  have e : ys = ys.dropLast ++ [ys.getLast hyne] := (List.dropLast_concat_getLast hyne).symm
  conv => lhs; rw [e]
  exact atI_last _ _
def spLL (P : Program) (w : World) (K : PySem.W.Frag) (Pt : Addr) : Sp := fun vs H Q _ => ∃ (l : Addr) (ws : List Int) (L : Nat), vs = [.ref l, .int (L : Int)] ∧ WIn K ws L l H ∧ (∃ v, M04.V (sumsL ws) L (0, 0, 1) = some v) ∧ H Pt = some (TabX Pt) ∧ RetL ((lensW ws L).map L2.V.int) H Q
theorem ok_least_lengths {f : Addr} {fd : FuncData} {k : Nat} {tf Pt : Addr} (T : GF K mg tf) (F : Fun K "least_lengths" "least_lengths" s_least_lengths f fd) (B : Bs mg) (C_reached_stages : Cal P w K mg base "reached_stages" 3 ["weights", "limit"] (spReach P w K)) (C_stage_values : Cal P w K mg base "stage_values" 2 ["stages"] (spVals P w K))
    (C_ranks : Cal P w K mg base "ranks" 7 ["weights"] (spRanksP K Pt)) (C_least_sum : Cal P w K mg base "least_sum" 1 ["choice", "known"] (spLsum P w K)) :
    FnOk P w K mg base CX0 (k + 8) f fd ["weights", "limit"] (spLL P w K Pt) := by
  refine F.ok sc_least_lengths (fun vs H Q E h => ?_) (fun cdv A outer s H vs Q E hr h => ?_)
  · obtain ⟨l, ws, L, rfl, _⟩ := h
    rfl
  · obtain ⟨l, ws, L, rfl, hw, ⟨v0, hv0⟩, htab, q⟩ := h
    have hu := lt64 hr.units
    refine ⟨_, (pss_cons (ps_set (i := 2) sc_least_lengths.nd rfl (Or.inl rfl) (pe_callC C_reached_stages (hr.mono (by omega)) (by rfl) (pa_cons (pv 0) (pa_cons (pv 1) pa_nil))))
      (pss_cons (ps_set (i := 3) sc_least_lengths.nd rfl (Or.inr rfl) (pe_callC C_stage_values (hr.mono (by omega)) (by rfl) (pa_cons (pv 2) pa_nil)))
      (pss_cons (ps_if (pt_cmpR op_isN (pe_dgx (P := P) (w := w) (K := K) ⟨rfl, rfl, rfl⟩ hu (pv 3) (pe_glob (v := (.ref tf)) (by rfl) T.g_FIRST rfl) (fun _ _ => rfl)) pe_non (nomark _)) (pss_one (ps_ret pe_non)) pss_nil)
      (pss_cons (ps_set (i := 4) sc_least_lengths.nd rfl (Or.inl rfl) (pe_callC C_ranks (hr.mono (by omega)) (by rfl) (pa_cons (pv 0) pa_nil)))
      (pss_cons (ps_set (i := 5) sc_least_lengths.nd rfl (Or.inl rfl) (pe_op op_rep (pe_lst (pa_cons pe_int pa_nil)) (pe_callB call_len_seq (by rfl) B.len PySem.boot_len (pa_cons (pv 0) pa_nil))))
      (pss_cons (ps_set (i := 6) sc_least_lengths.nd rfl (Or.inr rfl) (pe_glob (v := (.ref tf)) (by rfl) T.g_FIRST rfl))
      (pss_cons (ps_while PassesOwn.never (pt_cmpR op_notN (pv 6) pe_non (nomark _)) (pss_cons (ps_asg (pv 6) (pg_tup rfl (pgs_cons (pg_name (i := 7) sc_least_lengths.nd rfl (Or.inl rfl)) (pgs_cons (pg_name (i := 8) sc_least_lengths.nd rfl (Or.inl rfl)) (pgs_cons (pg_name (i := 9) sc_least_lengths.nd rfl (Or.inl rfl)) pgs_nil)))))
      (pss_cons (ps_setLc (i := 10) rfl sc_least_lengths.nd rfl rfl (sw_true rfl rfl rfl (by decide +kernel)) (pi_list (pe_dgx (P := P) (w := w) (K := K) ⟨rfl, rfl, rfl⟩ hu (pv 2) (pv 6) (fun _ _ => rfl))) (blkOk_by (own := [("choice", 11)]) (N := ["weights", "limit", "stages", "known", "order", "lengths", "stage", "depth", "m", "_", "best", "choice", "a", "symbol"]) (sc := defScope s_least_lengths) (by decide +kernel)) (fun _ _ _ _ _ => (pg_name (i := 11) sc_least_lengths.nd rfl (Or.inl rfl))) (fun _ _ _ _ _ => (pts_one (pt_cmpR op_eq (pe_callC C_least_sum (hr.mono (by omega)) (by rfl) (pa_cons (pv 11) (pa_cons (pv 3) pa_nil))) (pe_dgx (P := P) (w := w) (K := K) ⟨rfl, rfl, rfl⟩ hu (pv 3) (pv 6) (fun _ _ => rfl)) (nomark _)))) (fun _ _ _ _ _ => (pv 11)))
      (pss_cons (ps_asg (pe_ix ix_list (pv 10) (pe_un un_neg pe_int) (fun _ _ => rfl)) (pg_tup rfl (pgs_cons (pg_name (i := 12) sc_least_lengths.nd rfl (Or.inl rfl)) (pgs_cons (pg_name (i := 9) sc_least_lengths.nd rfl (Or.inl rfl)) (pgs_cons (pg_name (i := 6) sc_least_lengths.nd rfl (Or.inr rfl)) pgs_nil)))))
      (pss_one (ps_for PassesOwn.never rfl (pi_list (pe_slice sl_list (pv 4) (po_some (pv 8)) (po_some (pe_op op_add (pv 8) (pv 12))))) (pg_name (i := 13) sc_least_lengths.nd rfl (Or.inl rfl)) (pss_one (ps_asg (pv 7) (pg_sub (pv 5) (pv 13) set_list)))))))))
      (pss_one (ps_ret (pv 5)))))))))), ?_⟩
    have hn1 : 1 ≤ nN (sumsL ws) := by have := hw.n1; rw [nN_sums]; omega
    have hn2 : nN (sumsL ws) ≤ 16 := by have := hw.n2; rw [nN_sums]; omega
    have hL1 : (1 : Int) ≤ L := by have := hw.l1; omega
    have hL2 : (L : Int) ≤ 16 := by have := hw.l2; omega
    refine q_asgP (ep_reach hw (ea2 (ev_var rfl) (ev_var rfl))) fun v H1 e1 ⟨d, kvs, ss, ev, hd, hda, hrc, hrs⟩ => ?_
    subst ev
    refine q_asgP (ep_vals (sin_of (hw.ext e1) hda hrc hrs) (ea1 (ev_var rfl))) fun v H2 e2 ⟨d2, ev, hd2, hda2⟩ => ?_
    subst ev
    have kget : ∀ s, Reach (sumsL ws) L s → valV (ss.reverse.map (entV (sumsL ws) L)) (keyS s) = some (ovI (M04.V (sumsL ws) L s)) := fun s r => ent_get (List.mem_reverse.mpr ((hrs.iff s).mpr r))
    refine q_when (et_test (ev_isN (ev_dgx (ev_var rfl) ev_c hda2 (k := keyS (0, 0, 1)) (T.st _) (kget _ .first)) ev_c)) (fun hb H3 e3 => ?_) (fun hb H3 e3 => ?_)
    · rw [hv0] at hb
      exact absurd hb (by simp [ovI])
    · have e13 := (e1.trans e2).trans e3
      refine q_asgL (el_call (ea1 (ev_var rfl)) fun H4 e4 Q q E => ⟨l, ws, rfl, ex_l (e13.trans e4) hw.sq, by have := hw.n2; omega, (e13.trans e4) _ _ htab, fun p H5 hp e5 h5 => q p H5 hp e5 h5⟩) fun lo H4 hlo e4 h4 => ?_
      refine q_asgL (el_rep (el_lst (ea1 ev_c) (by decide)) (ev_len (ev_var rfl) (ex_l (e13.trans e4) hw.sq)) ⟨by omega, by rw [List.length_map]; have := hw.n2; omega⟩ (by decide)) fun ll H5 hll e5 h5 => ?_
      rw [flatr, List.length_map, Int.toNat_natCast, ← List.map_replicate (f := L2.V.int) (a := 0)] at h5
      refine q_asg ev_c fun H6 e6 => ?_
      have e14 := e13.trans e4
      have hll0 : H ll = none := fresh_back e14 hll
      have e26 := ((e3.trans e4).trans e5).trans e6
      have hnl : ∀ kv ∈ kvs, kv.2 ≠ .ref ll := rch_ref hll (rch_ext ((e2.trans e3).trans e4) hrc)
      have hlol : lo ≠ ll := fun z => by rw [← z, h4] at hll; cases hll
      have hrl : (rankL ws).length = ws.length := rank_len ws
      have hord : ∀ x ∈ rankL ws, x < ws.length := fun x hx => rank_lt hx
      refine q_while (fun m σ H' => ∃ (x : L2.V) (acc : List Int) (a b c e g h : Option L2.V), σ = [some (.ref l), some (.int (L : Int)), some (.ref d), some (.ref d2), some (.ref lo), some (.ref ll), some x, a, b, c, e, none, g, h] ∧ Ex H H' ∧ DAt P w K H' d kvs ∧ RCh K (sumsL ws) L H' kvs ss ∧ DAt P w K H' d2 (ss.reverse.map (entV (sumsL ws) L)) ∧
          H' lo = some (.lst (nats (rankL ws))) ∧ H' ll = some (.lst (acc.map L2.V.int)) ∧ acc.length = ws.length ∧ ((x = .non ∧ acc = lensW ws L ∧ m = 0) ∨ ∃ (s : Stg) (t : Addr), x = .ref t ∧ SqT K H' t (stV s) ∧ AtS ws L s acc ∧ m = L + 2 - s.1.toNat)) (L + 2)
        ⟨.ref tf, List.replicate ws.length 0, none, none, none, none, none, none, rfl, (e14.trans e5).trans e6, hda.ext (e2.trans e26), rch_ext (e2.trans e26) hrc, hda2.ext e26, (e5.trans e6) _ _ h4, e6 _ _ h5, List.length_replicate, .inr ⟨(0, 0, 1), tf, rfl, T.st _, AtS.first hv0, rfl⟩⟩ ?_
      rintro m σ H' ⟨x, acc, a, b, c, e, g, h, rfl, ex, da, rc, da2, hlo', hll', hal, hx⟩
      refine ⟨_, et_test (ev_notN (ev_var rfl) ev_c), fun hb H7 e7 => ?_, fun hb H7 e7 => ?_⟩
      · rcases hx with ⟨rfl, _⟩ | ⟨s, t, rfl, hst, ats, rfl⟩
        · simp at hb
        obtain ⟨ch, hp, hc, c0, s0, sL, m0, mn, hnone, hsome⟩ := ats.step hw.l1 hw.n1
        have hre := ats.re
        obtain ⟨hok, hk16⟩ := hre.ok hL1 hn1
        refine ⟨fun σ2 H2 => ∃ m', m' < L + 2 - s.1.toNat ∧ ∃ (x : L2.V) (acc : List Int) (a b c e g h : Option L2.V), σ2 = [some (.ref l), some (.int (L : Int)), some (.ref d), some (.ref d2), some (.ref lo), some (.ref ll), some x, a, b, c, e, none, g, h] ∧ Ex H H2 ∧ DAt P w K H2 d kvs ∧ RCh K (sumsL ws) L H2 kvs ss ∧ DAt P w K H2 d2 (ss.reverse.map (entV (sumsL ws) L)) ∧
          H2 lo = some (.lst (nats (rankL ws))) ∧ H2 ll = some (.lst (acc.map L2.V.int)) ∧ acc.length = ws.length ∧ ((x = .non ∧ acc = lensW ws L ∧ m' = 0) ∨ ∃ (s : Stg) (t : Addr), x = .ref t ∧ SqT K H2 t (stV s) ∧ AtS ws L s acc ∧ m' = L + 2 - s.1.toNat), fun _ _ h => h, ?_⟩
        refine q_unp (ev_var rfl) (ex_t e7 hst) rfl fun H8 e8 => ⟨_, _, rfl, _, _, rfl, _, _, rfl, rfl, ?_⟩
        have e78 := e7.trans e8
        have hst8 := ex_t e78 hst
        have da8 := da.ext e78
        have da28 := da2.ext e78
        obtain ⟨cl, vs, hv, hcl, hcd⟩ := rch_val (rch_ext e78 rc) ((hrs.iff s).mpr hre)
        have hvl : vs.length = (chS (sumsL ws) L s).length := by
          rw [DpAll.len hcd]
          exact List.length_map _
        have hcl16 := ch_len (sums := sumsL ws) (L := L) (d := s.1) (m := s.2.1) (k := s.2.2) (by omega)
        have hcl17 : (chS (sumsL ws) L s).length ≤ 17 := hcl16
        obtain ⟨p, hpd⟩ : ∃ p : Cho → Bool, p = fun c => decide (lsum (M04.V (sumsL ws) L) c = M04.V (sumsL ws) L s) := ⟨_, rfl⟩
        have hcs : ∀ (j : Nat) (y : L2.V), vs[j]? = some y → ∃ c, (chS (sumsL ws) L s)[j]? = some c ∧ Dp K H8 y (chD c) := fun j y hy => by
          obtain ⟨dd, hdd, hyd⟩ := dp_get hcd hy
          unfold chsD at hdd
          rw [List.getElem?_map] at hdd
          cases e : (chS (sumsL ws) L s)[j]? with
          | none => rw [e] at hdd; cases hdd
          | some c =>
            rw [e] at hdd
            have hdd := Option.some.inj hdd
            subst hdd
            exact ⟨c, rfl, hyd⟩
        refine q_asgL (el_lcL (xs := vs) (fun j => match (chS (sumsL ws) L s)[j]? with | some c => p c | none => false) (fun j => vs.getD j .non) (ev_dgx (ev_var rfl) (ev_var rfl) da8 (k := keyS s) hst8 hv) (sq_of hcl) (by omega) (fun x => rfl) (fun j y H9 e9 hy => ?_) (fun j y H9 e9 hy _ => ?_)) fun pb H9 hpb e9 h9 => ?_
        · obtain ⟨c, hcj, hyd⟩ := hcs j y hy
          refine et_is (et_test (ev_op (ev_call (ea2 (ev_var rfl) (ev_var rfl)) (spv_lsum (g := M04.V (sumsL ws) L) (Dp.ext e9 _ _ hyd) (da28.ext e9) fun s' e => kget s' (.next hre (List.mem_of_getElem? hcj) e))) (ev_dgx (ev_var rfl) (ev_var rfl) (da28.ext e9) (k := keyS s) (ex_t e9 hst8) (kget s hre)) (rv_eq (scal_ovI _ _)))) ?_
          rw [dec_ovI, hpd]
          show _ = match (chS (sumsL ws) L s)[j]? with | some c => decide (lsum (M04.V (sumsL ws) L) c = M04.V (sumsL ws) L s) | none => false
          rw [hcj]
        · refine ev_is (ev_var rfl) ?_
          rw [List.getD_eq_getElem?_getD, hy]
          rfl
        · have hkl := keep_list p hcd _ (Nat.le_refl _)
          rw [List.take_length, ← hvl] at hkl
          have hkl9 := DpAll.ext e9 _ _ hkl
          have hgl : ((chS (sumsL ws) L s).filter p).getLast? = some ch := by rw [hpd]; exact hp
          obtain ⟨y, hya, hyd⟩ := dp_last hkl9 hgl
          obtain ⟨tc, n, rfl, hsc, hnd⟩ := ch_at hyd
          refine q_unp (ev_op (ev_var rfl) (ev_un ev_c ru_neg) (rv_ixL (sq_of h9) hya)) hsc rfl fun H10 e10 => ⟨_, _, rfl, _, _, rfl, _, _, rfl, rfl, ?_⟩
          have e810 := e9.trans e10
          have e710 := e78.trans e810
          have hxs : ∀ x ∈ ((rankL ws).drop s.2.1.toNat).take ch.1.toNat, x < ws.length := fun x hx => hord x (List.mem_of_mem_drop (List.mem_of_mem_take hx))
          have ecut : cutV (nats (rankL ws)) (some s.2.1) (some (s.2.1 + ch.1)) = nats (((rankL ws).drop s.2.1.toNat).take ch.1.toNat) := by
            have h1 := cut_mid (nats (rankL ws)) (a := s.2.1.toNat) (b := s.2.1.toNat + ch.1.toNat) (by omega) (by rw [nats_len, hrl]; omega)
            have i1 : ((s.2.1.toNat : Nat) : Int) = s.2.1 := by omega
            have i2 : ((s.2.1.toNat + ch.1.toNat : Nat) : Int) = s.2.1 + ch.1 := by omega
            have i3 : s.2.1.toNat + ch.1.toNat - s.2.1.toNat = ch.1.toNat := by omega
            rw [i1, i2, i3] at h1
            rw [h1]
            unfold nats
            rw [List.map_take, List.map_drop]
          generalize ((rankL ws).drop s.2.1.toNat).take ch.1.toNat = xs at ecut hxs hnone hsome
          have elc := el_sl (K := K) (tl := tPart (tVar 8)) (th := tPart (tOp (rI0 fun i j => .int (i + j)) (tVar 8) (tVar 12))) (te := tVar 4) (σ := [some (.ref l), some (.int (L : Int)), some (.ref d), some (.ref d2), some (.ref lo), some (.ref ll), some n, some (.int s.1), some (.int s.2.1), some (.int ch.2.1), some (.ref pb), none, some (.int ch.1), h]) (H := H10) (ev_var rfl) (eo_some (ev_var rfl)) (eo_some (ev_add (ev_var rfl) (ev_var rfl))) (sq_of (e710 _ _ hlo'))
          rw [ecut] at elc
          refine s_forNL elc (fun pc i σ H' => ∃ h : Option L2.V, σ = [some (.ref l), some (.int (L : Int)), some (.ref d), some (.ref d2), some (.ref lo), some (.ref ll), some n, some (.int s.1), some (.int s.2.1), some (.int ch.2.1), some (.ref pb), none, some (.int ch.1), h] ∧ Ex H H' ∧ DAt P w K H' d kvs ∧ RCh K (sumsL ws) L H' kvs ss ∧ DAt P w K H' d2 (ss.reverse.map (entV (sumsL ws) L)) ∧
              H' lo = some (.lst (nats (rankL ws))) ∧ H' ll = some (.lst ((wr acc s.1.toNat (xs.take i)).map L2.V.int)) ∧ H' pc = some (.lst (nats xs)) ∧ Dp K H' n (nxD ch.2.2) ∧ pc ≠ ll)
            (fun pc H11 hpc e11 h11 => ⟨h, rfl, (ex.trans e710).trans e11, (da.ext e710).ext e11, rch_ext (e710.trans e11) rc, (da2.ext e710).ext e11, (e710.trans e11) _ _ hlo', (e710.trans e11) _ _ hll', h11, Dp.ext (e10.trans e11) _ _ hnd, fun z => by rw [z, e710 _ _ hll'] at hpc; cases hpc⟩)
            (fun pc i σ H' _ hP => by
              obtain ⟨_, _, _, _, _, _, _, _, z, _⟩ := hP
              exact sq_of z) ?_ ?_
          · rintro pc i x σ H11 hxi ⟨h, rfl, ex, da, rc, da2, hlo', hll', hpc, hnd, hne⟩
            unfold nats at hxi
            rw [List.getElem?_map] at hxi
            obtain ⟨k, hk, rfl⟩ : ∃ k, xs[i]? = some k ∧ L2.V.int (k : Int) = x := by
              cases e : xs[i]? with
              | none => rw [e] at hxi; cases hxi
              | some k => rw [e] at hxi; exact ⟨k, rfl, Option.some.inj hxi⟩
            have hkl := hxs k (List.mem_of_getElem? hk)
            refine s_setL (j := k) hll' (ev_var rfl) (ev_var rfl) (ev_var rfl) (by rw [List.length_map, wr_len, hal]; exact hkl) fun H12 e12 => ?_
            have hl12 := e12 _ _ hll'
            refine ⟨_, rfl, Ex.mut (ex.trans e12) hll0, (da.ext e12).put hl12, rch_put hl12 hnl (rch_ext e12 rc), (da2.ext e12).put hl12, by rw [upd_ne hlol]; exact e12 _ _ hlo', ?_, by rw [upd_ne hne]; exact e12 _ _ hpc, Dp.put hl12 _ _ ?_ (Dp.ext e12 _ _ hnd), hne⟩
            · rw [upd_same, List.take_succ, hk]
              show some (HO.lst _) = some (HO.lst ((wr acc s.1.toNat (xs.take i ++ [k])).map L2.V.int))
              rw [wr_snoc, List.map_set]
              have : ((s.1.toNat : Nat) : Int) = s.1 := by omega
              rw [this]
            · cases ch.2.2 with
              | none => rfl
              | some z => rfl
          · rintro pc σ H11 ⟨h, rfl, ex, da, rc, da2, hlo', hll', hpc, hnd, hne⟩
            rw [nats_len, List.take_length] at hll'
            cases en : ch.2.2 with
            | none =>
              have := nx_none hnd en
              subst this
              rw [hnone en] at hll'
              exact ⟨0, by omega, .non, lensW ws L, _, _, _, _, _, _, rfl, ex, da, rc, da2, hlo', hll', by rw [← hnone en, wr_len, hal], .inl ⟨rfl, rfl, rfl⟩⟩
            | some s' =>
              obtain ⟨t', rfl, hst'⟩ := nx_some hnd en
              obtain ⟨h1, h2⟩ := hsome s' en
              exact ⟨L + 2 - s'.1.toNat, by omega, .ref t', _, _, _, _, _, _, _, rfl, ex, da, rc, da2, hlo', hll', by rw [wr_len, hal], .inr ⟨s', t', rfl, hst', h2, rfl⟩⟩
      · rcases hx with ⟨rfl, rfl, rfl⟩ | ⟨s, t, rfl, hst, ats, rfl⟩
        · exact s_ret (ev_var rfl) fun H8 e8 => q ll H8 hll0 ((ex.trans e7).trans e8) (e8 _ _ (e7 _ _ hll'))
        · simp at hb
end
end K05
set_option Elab.async false
set_option linter.all false
set_option maxRecDepth 100000
set_option maxHeartbeats 4000000
/-! Own exceptions whose __init__ reads self.__class__.__name__: the two attributes. -/
namespace KX
open PySem PySem.W PySem.Calls PyProof.Rows Builtin Builtin.ObjectAttr Builtin.Getset_descriptor
section
variable {prog : Program} {w : World} {A : Around} {E : Value → Shared → Prop} {s : Shared} {K : Frag} {R : Result → Shared → Prop} {C : Addr}
theorem nam_args (d tp : Value) (C : Addr) : descrGetArgs ⟨[d, .ref C, tp], []⟩ = pure (d, some (.ref C), given tp) := by first | rfl | kernel_rfl
/-- the getter of a class's name, where the name is kept -/
theorem nam_get {tp v : Value} {o : Obj} (X : K.In s.heap) (hk : K.lookup C = some o) (hs : o.slots[2]? = some (some v)) (tC : typeIn K (.ref C) = some (.type "type")) (h : R (.ok (.ret v)) s) :
    codeAny (model prog w) A (.call (.builtin "getset_descriptor.__get__") ⟨[.builtin "type.__name__", .ref C, tp], []⟩) R s := by
  obtain ⟨hh, g, dr, t, os⟩ := s
  have T0 : Looks (model prog w) hh (typeOf (.ref C)) (.type "type") := looks_typeIn X tC
  have T1 : Looks (model prog w) hh (isSubtype (.type "type") (.type "type")) true := Looks.of_pure (by rw [isSubtype_type] <;> kernel_rfl)
  refine codeAny_call_builtin KF.slot_gs.plain KF.entry_gs (KF.slot_gs.check _ _ _ _ _ _ _ _ ktyn_type (KF.args_gs _ _ _) ?_)
  unfold Builtin.«getset_descriptor.__get__» descrGet
  rw [nam_args]
  refine wpAny_bind (wpAny_pure ?_)
  unfold descrGetter descrCheckInstance descrNameAndClass isInstance
  simp only [ktyn_owner]
  repeat lk
  refine ⟨Code.quiet_builtin _ (by decide +kernel), codeAny_builtin ktyn_entry ?_⟩
  unfold Builtin.«type.__name__»
  dsimp only
  unfold keptObject slotAt
  dsimp only
  have ho := X _ _ hk
  refine wpAny_bind (wpAny_bind (wpAny_loadPart ho (wpAny_pure ?_)))
  rw [hs]
  first
    | exact wpAny_bind (wpAny_pure (wpAny_pure h))
    | exact wpAny_pure (wpAny_pure h)
    | exact wpAny_bind (wpAny_bind (wpAny_pure h))
    | (show wpAny _ _ (ret v >>= _) _ _ _; exact wpAny_bind (wpAny_pure (wpAny_pure h)))
/-- e.__class__, e an exception of an own class -/
theorem exc_cls {x : Addr} {ox : Obj} {od : Option Obj} {expr : Bool} {gt : Option Value} {Q : Value → Shared → Prop} (X : K.In s.heap) (I : InstAt s.heap x ox C od) (g1 : findIn K (.ref C) "__getattribute__" = some (some (.builtin "BaseException.__getattribute__")))
    (g2 : findIn K (.ref C) "__getattr__" = some gt) (g3 : subIn K (.ref C) (.type "BaseException") = some true) (g4 : findObj K C od "__class__" = some (.bind (.builtin "getset_descriptor.__get__") (.builtin "object.__class__"))) (g5 : mroIn K C (.type "object") = some true)
    (q : Q (.ref C) { s with toks := s.toks + 1 }) : wpAny (model prog w) A (getAttr (.ref x) "__class__" expr) Q E s := by
  obtain ⟨hh, gg, dd, tt, oo⟩ := s
  have a0 := I.type (M := model prog w)
  have a3 := looks_find (M := model prog w) X I g4
  have sub : Looks (model prog w) hh (isInstance (.ref x) (.type "BaseException")) true := a0.andThen (looks_subIn X g3)
  have nb : (Value.builtin "BaseException.__getattribute__" == Value.builtin "object.__getattribute__") = false := by decide +kernel
  have n1 : (onTheHeap (Value.ref C) && Value.builtin "BaseException.__getattribute__" == Value.builtin "object.__getattribute__") = false := (congrArg (onTheHeap (Value.ref C) && ·) nb).trans (Bool.and_false _)
  have n0 : (expr && onTheHeap (Value.builtin "BaseException.__getattribute__")) = false := by cases expr <;> rfl
  unfold getAttr getAttrBy
  refine wpAny_bind (wpAny_mkText (wpAny_holding (wpAny_bind (a0.at (wpAny_bind ((looks_findIn X g1).at ?_)))))); show wpAny _ _ (if (onTheHeap (Value.ref C) && Value.builtin "BaseException.__getattribute__" == Value.builtin "object.__getattribute__") = true then _ else _) _ _ _
  rw [n1, if_neg Bool.false_ne_true]; unfold getAttrByItsOwn hookBefore
  refine wpAny_bind ?_; rw [if_pos (show onTheHeap (Value.ref C) = true from rfl)]
  refine (looks_findIn X g2).at (wpAny_bind (wpAny_attempt (wpAny_holding ?_))); unfold callGetattribute
  rw [n0, if_neg Bool.false_ne_true]; unfold boundAndCalled
  rw [PySem.F.excAttr_ValueError.ga.bind (.ref x)]; refine wpAny_bind (wpAny_pure ?_); show wpAny _ _ (call (.builtin "BaseException.__getattribute__") [.ref x, .str "__class__" tt]) _ _ _
  refine wpAny_call (codeAny_call_builtin PySem.F.excAttr_ValueError.ga.plain PySem.F.entry_bexc_ga (@PySem.W.check_slot (model prog w) _ _ ⟨hh, gg, dd, tt + 1, oo⟩ "BaseException.__getattribute__" "BaseException" "__getattribute__" (.ref x) [.str "__class__" tt] [] _ (by decide +kernel) (by decide +kernel) sub (PySem.F.args_bexc_ga (.ref x) (.str "__class__" tt)) ?_))
  unfold Builtin.«object.__getattribute__»; refine wpAny_bind (wpAny_of_eq (a := ((Value.ref x : Value), [Value.str "__class__" tt])) (by first | rfl | (simp only [slotArgs]; rfl)) (wpAny_bind (wpAny_pure (wpAny_bind (a0.at (wpAny_bind (a3.at ?_)))))))
  refine wpAny_bind (wpAny_holding (wpAny_call (class_get (s := ⟨hh, gg, dd, tt + 1, oo⟩) (ox := ox) (od := od) X I g5 ?_))); refine wpAny_pure ?_
  show wpAny _ _ (handedOut (.ref C)) _ _ _
  rw [handedOut_of (show handedIn (.ref C) = true from rfl)]
  first
    | exact wpAny_pure q
    | exact wpAny_pure (wpAny_pure q)
end
open L2
/-- what the written part says of a class's name -/
structure NamK (K : PySem.W.Frag) (C : Addr) (nm : Str) : Prop where
  ob : ∃ (o : Obj) (tk : Tok), K.lookup C = some o ∧ o.slots[2]? = some (some (.str nm tk))
  ty : PySem.W.typeIn K (.ref C) = some (.type "type")
  rd : PySem.W.readsIn K C (.type "type") = true
  fd : PySem.W.findCls K (.ref C) (.type "type") "__name__" = some (.get (.builtin "getset_descriptor.__get__") (.builtin "type.__name__") (.ref C) (.type "type"))
def tECls (K : PySem.W.Frag) (te : TE) : TE := fun σ H Q => te σ H fun x H1 => ∃ (a C dx : Addr) (fs : List (Str × V)), x = .ref a ∧ ExcC K C ∧ H1 a = some (exo a C (some dx)) ∧ H1 dx = some (exd dx fs) ∧ Q (.ref C) H1
def tCNam (K : PySem.W.Frag) (te : TE) : TE := fun σ H Q => te σ H fun x H1 => ∃ (C : Addr) (nm : Str), x = .ref C ∧ NamK K C nm ∧ Q (.str nm) H1
/-- BaseException.__init__ over an exception that has its dict -/
theorem init_dict {prog : Program} {w : World} {A : Around} {R : Result → Shared → Prop} {h : Heap} {g : Array GenState} {d : Drawn} {t : Nat} {os : OsState} {nm q : Str} {C N : Addr} {bs bm bmB : List Value} {hdct : Bool} {sn : List Str} {sub : List Value} {ab : Bool} {col : Option Bool} {dd : Option Addr} {k0 k1 k2 k3 k5 : Option Value} {B newId initId : String}
    (F : ExcBaseFacts B newId initId bmB) (hT : ∀ X : String, bm.contains (.type X) = bmB.contains (.type X)) {e t0 : Addr} {od : Option Addr} {rest : List Value} (hC : h.get? C = some (excClassObj nm q C N bs bm hdct sn sub ab col dd k0 k1 k2 k3 k5 newId))
    (he : h.get? e = some ({ cls := .ref C, dict := od, data := .fields #[.ref t0, .none, .none, .none, .bool false, .none] } : Obj)) (hr : rest.length ≤ sizeLine)
    (hq : ∀ h' (t1 : Addr), (∀ b o, b ≠ e → h.get? b = some o → h'.get? b = some o) → h'.get? e = some ({ cls := .ref C, dict := od, data := .fields #[.ref t1, .none, .none, .none, .bool false, .none] } : Obj) → R (.ok (.ret .none)) ⟨h', g, d, t, os⟩) :
    codeAny (model prog w) A (.call (.builtin initId) ⟨.ref e :: rest, []⟩) R ⟨h, g, d, t, os⟩ := by
  refine codeAny_call_builtin F.init.plain F.initEntry (PySem.HandSPX.check_init_own F hT hC he rfl ?_)
  wp_walk
  refine hq _ h.objs.size (fun b o hb ho => ?_) ?_
  · rw [Heap.get?_update_other _ _ (fun z => hb z.symm), Heap.get?_push_of_some _ ho]
  · rw [Heap.get?_update_self _ (Heap.get?_push_of_some _ he) rfl]; rfl
section
variable {X : Cx} {pins : List (Addr × Obj)} {σ : L2.St} {H : Hp} {s : Shared} {A : Around} {E : Value → Shared → Prop} {C a : Addr}
theorem init_okD {us : List Value} {od : Option Addr} {Q : Value → Shared → Prop} (T : OexC X.K C) (I : Inv X pins σ H s) (e : H a = some (exo a C od)) (hl : us.length ≤ sizeLine) (h : ∀ s', Inv X pins σ H s' → Q .none s') :
    wpAny (model X.prog X.w) A (call (.builtin "ValueError.__init__") (.ref a :: us)) Q E s := by
  obtain ⟨nm, q, N, bs, bm, sn, sub, ab, col, dd, k0, k1, k2, k3, k5, hC, hbm⟩ := T.cls
  obtain ⟨t1, ho⟩ := exo_at I.hok e
  obtain ⟨hp, g, d, t, os⟩ := s
  refine wpAny_call (init_dict F.excBase_ValueError (fun Y => PySem.HandSPX.refsVE_contains Y bm hbm) (I.kIn _ _ hC) ho hl fun h' t2 k hx => ?_)
  have J := I.write (t' := t) (x := a) (e := a) (o := exo a C od) (by rw [e]; exact True.intro) (.inl rfl) k ⟨_, hx⟩ (exo_ok hx)
  have eu : upd H a (exo a C od) = H := GX.upd_id e
  rw [eu] at J
  exact h _ J
end
section
variable {X : Cx} {e : Expr} {te : TE} {pos : Pos}
/-- ValueError.__init__(self, ..), self with or without its dict -/
def tVeD (K : PySem.W.Frag) (ta : TA) : TE := fun σ H Q => ta σ H fun vs H1 => ∃ (a C : Addr) (od : Option Addr) (ws : List V), vs = .ref a :: ws ∧ ws.length ≤ 1000 ∧ OexC K C ∧ H1 a = some (exo a C od) ∧ Q .non H1
theorem pe_veD {es : List Expr} {ta : TA} {p1 p2 : Pos} {pl : Sem Bool} (hg : Gl X "ValueError") (hm : X.mg "ValueError" = none) (vV : PySem.W.findCls X.K (.type "ValueError") (.type "type") "__init__" = some (.val (.builtin "ValueError.__init__"))) (ha : PA X (e :: es) ta)
    (hc : eval (.Call (.Attribute (.Name "ValueError" p1) "__init__" p2) (e :: es) [] pos) X.env = (eval (.Name "ValueError" p1) X.env >>= fun ov => standAt p2.atName >>= fun _ => holding [ov] (getMethod ov "__init__" pl) >>= fun r => callWith pos r.1 r.2 (backTo pos (starEach (e :: es) X.env)) (backToKw pos (keywordEach [] X.env))) := by rfl)
    (he : starEach (e :: es) X.env = (false, eval e X.env) :: starEach es X.env := by rfl) (hpl : (backTo pos (starEach es X.env)).any (·.1) = false := by rfl) :
    PE X (.Call (.Attribute (.Name "ValueError" p1) "__init__" p2) (e :: es) [] pos) (tVeD X.K ta) := by
  refine ⟨fun pins s σ H Q I h => ?_⟩
  refine PySem.W.methodCall_KW (ld_blt I hg hm PyProof.Rows.Boot.«ValueError» ?_ (by decide) (by decide)) hc
  obtain ⟨m, fr⟩ := I.fr
  refine PySem.W.method_type fr I.ok.mod.kin PySem.OEX.typ_VE (by decide +kernel) vV (by decide +kernel) ?_
  show wpAny _ _ (callWith pos (Value.builtin "ValueError.__init__") [] (backTo pos (starEach (e :: es) X.env)) []) _ _ _
  refine PyProof.Rows.callWith_method1 (thn (ha.run pos pins _ σ H _ (I.tok _) h) fun us s1 ⟨vs, H1, I1, r1, a, C, od, ws, ev, hl, T, ea, q⟩ => ?_) he hpl
  subst ev
  cases r1 with
  | @cons _ u0 _ ur ra rr =>
    obtain rfl : u0 = Value.ref a := ra
    exact init_okD T I1 ea (by rw [← Paired.length rr, sizeLine_eq]; omega) fun s' J => ⟨.non, H1, J, rfl, q⟩
end
section
variable {X : Cx} {e : Expr} {te : TE} {pos : Pos}
theorem pe_cnam (he : PE X e te) (hb : attributeBase e "__name__" X.env (eval e X.env) = eval e X.env := by rfl) : PE X (.Attribute e "__name__" pos) (tCNam X.K te) := by
  refine ⟨fun pins s σ H Q I h => ?_⟩
  refine attr_of hb (thn (he.run pins s σ H _ I h) fun u s1 ⟨x, H1, I1, rx, C, nm, ex, N, q⟩ => ?_)
  subst ex
  obtain rfl : u = Value.ref C := rx
  obtain ⟨o, tk, k1, k2⟩ := N.ob
  refine PySem.W.cls_bind I1.kIn N.rd N.fd ?_
  have I2 := I1.tok (s1.toks + 1)
  refine wpAny_call (nam_get (s := { s1 with toks := s1.toks + 1 }) I2.kIn k1 k2 N.ty ?_)
  exact PySem.W.handed_on rfl ⟨.str nm, H1, I2, ⟨tk, rfl⟩, q⟩
theorem pe_ecls (he : PE X e te) (hb : attributeBase e "__class__" X.env (eval e X.env) = eval e X.env := by rfl) : PE X (.Attribute e "__class__" pos) (tECls X.K te) := by
  refine ⟨fun pins s σ H Q I h => ?_⟩
  refine attr_of hb (thn (he.run pins s σ H _ I h) fun u s1 ⟨x, H1, I1, rx, a, C, dx, fs, ex, T, ea, ed, q⟩ => ?_)
  subst ex
  obtain rfl : u = Value.ref a := rx
  obtain ⟨t1, ho⟩ := exo_at I1.hok ea
  obtain ⟨mA, hns, rel⟩ := exd_at I1.hok ed
  obtain ⟨oD, _, _, hoD, _, _⟩ := hns.count (within_of rel)
  have J : PySem.W.InstAt s1.heap a { cls := .ref C, dict := some dx, data := .fields #[.ref t1, .none, .none, .none, .bool false, .none] } C (some oD) := ⟨ho, rfl, rfl, hoD⟩
  obtain ⟨cd, hc, _⟩ := PySem.W.any_some T.hd
  exact exc_cls I1.kIn J T.hg T.hk T.hs (PySem.W.findObj_dataE (by rw [hc] <;> rfl) T.ha T.hn T.ht) T.hm ⟨.ref C, H1, I1.tok _, rfl, q⟩
end
end KX
set_option Elab.async false
set_option linter.all false
set_option maxRecDepth 100000
set_option maxHeartbeats 4000000
/-! try with several 'except C as e' that take all that comes. -/
namespace KX
open PySem PySem.Spec PyProof.Rows L2
def endsAs (i : Nat) (D : Ends) : Ends := { nx := fun σ H => D.nx (σ.set i none) H, rt := D.rt, bk := fun σ H => D.bk (σ.set i none) H, ct := fun σ H => D.ct (σ.set i none) H }
abbrev Cl := Value × Nat × (Addr → Value → Option Addr → TS)
def wAsAll (K : PySem.W.Frag) (D : Ends) : List Cl → WX
  | [] => fun _ _ _ _ => False
  | (c, i, ts) :: r => fun cls d σ H => ∃ b, PySem.W.exmOne K cls c = some b ∧ (b = true → ∀ a, H a = none → ts a cls d (endsAs i D) (σ.set i (some (.ref a))) H) ∧ (b = false → wAsAll K D r cls d σ H)
inductive ClOk (X : Cx) : List ExceptHandler → List Cl → Prop
  | nil {hs : List ExceptHandler} : ClOk X hs []
  | cons {x n : Str} {c : Value} {i : Nat} {ts : Addr → Value → Option Addr → TS} {b₀ : Stmt} {su : List Stmt} {np p : Pos} {hs : List ExceptHandler} {l : List Cl} (hc : Names X x c) (hi : X.N[i]? = some n) (hn : X.env.kindOf n = some .local)
      (hb : ∀ (a : Addr) (oe : Obj) (cls : Value) (d : Option Addr) (pn : List (Addr × Obj)), Zc cls d oe → (∃ vs, oe.data = .fields vs) → PSs (X.suite a ((a, oe) :: pn)) (b₀ :: su) (ts a cls d)) (r : ClOk X hs l) : ClOk X (.ExceptHandler (some (.Name x np)) (some n) (b₀ :: su) p :: hs) ((c, i, ts) :: l)
section
variable {X : Cx} {body : List Stmt} {h₀ : ExceptHandler} {hds : List ExceptHandler} {l : List Cl} {pos : Pos} {tb : WX → TS}
theorem ps_try_all (hst : X.stack = X.env :: X.outer) (hfm : X.env.frame = some X.env.locals) (hN : X.N.Nodup) (hb : ∀ (W : WX) (pn : List (Addr × Obj)) (xe : Value → Shared → Prop), Takes (X.tr pn xe) W → PassesOwn (model X.prog X.w) X.A X.env xe → PSs (X.tr pn xe) body (tb W)) (hh : ClOk X (h₀ :: hds) l) :
    PS X (.Try body (h₀ :: hds) [] [] pos) (fun D σ H => tb (wAsAll X.K D l) D σ H) := by
  refine ⟨fun pins s σ H D I h => wpAny_Try_except ?_⟩
  have okX := I.ok
  have frX : X.A.frames = some (X.env :: X.outer) := okX.frames.trans (congrArg some hst)
  refine wpAny_mono ((hb (wAsAll X.K D l) (X.pn ++ pins) (fun e t₁ => wpAny (model X.prog X.w) X.A (noteFrame e X.env) (fun _ t₂ => wpAny (model X.prog X.w) X.A (setFlight e none) (fun _ t₃ => wpAny (model X.prog X.w) X.A (handleBy e X.env (h₀ :: hds)) (SP X pins D) X.xe t₃) X.xe t₂) X.xe t₁) (fun u t xx => ?_) PassesOwn.looking).run [] s σ H D (I.toTry _) h) (fun f t ht => ?_) fun _ _ z => z
  · obtain ⟨a, B, sI, pins1, σ1, H1, cls, d, rfl, J0, nb, up, sky, na, os, ag, w⟩ := xx
    have J : Inv X pins σ1 H1 sI := J0.ofTry okX
    refine Sky.land Zc.steady frX hfm (by rw [← hst] <;> exact sky) fun h3 fl3 up3 => ?_
    have J3 : Inv X pins σ1 H1 { t with heap := h3 } := J.landed nb fl3.1 (up.trans up3) os ag
    obtain ⟨oe, vs, he, hz, hd⟩ := fl3.there
    have nfr : a ∉ frs (X.env :: X.outer) := fun hm => by
      obtain ⟨_, o, eo, no⟩ := fl3.2.2.1.mem hm
      exact no vs ((congrArg Obj.data (Option.some.inj (eo.symm.trans he))).trans hd)
    have nL : a ≠ X.env.locals := fun z => nfr (List.mem_filterMap.mpr ⟨X.env, List.mem_cons_self, hfm.trans (congrArg some z.symm)⟩)
    have nF : a ∉ X.fs := fun hm => let ⟨e, m, q⟩ := List.mem_filterMap.mp hm; nfr (List.mem_filterMap.mpr ⟨e, List.mem_cons_of_mem _ m, q⟩)
    have S3 := J3.suite he hd na nL nF
    have LT : PySem.W.Looks (model X.prog X.w) h3 (typeOf (.ref a)) cls := fun A Q E s k q => wpAny_typeOf_ref (k _ _ he) (hz.1 ▸ q)
    have go : ∀ {hs : List ExceptHandler} {l1 : List Cl}, ClOk X hs l1 → wAsAll X.K D l1 cls d σ1 H1 → wpAny (model X.prog X.w) X.A (handleBy (.ref a) X.env hs) (SP X pins D) X.xe { t with heap := h3 } := by
      intro hs l1 hk
      induction hk with
      | nil => exact fun z => False.elim z
      | @cons x n c i ts b₀ su np p hs2 l2 hc hi hn hsu r ih =>
        rintro ⟨b, hb1, yes, no⟩
        refine wpAny_handleBy_cons (codeAny_handlers_test ?_) (fun q => nomatch q)
        have nm : ∀ {Q : Value → Shared → Prop} {E : Value → Shared → Prop}, Q c { t with heap := h3 } → wpAny (model X.prog X.w) (X.A.mark (some (.ref a))) (eval (.Name x np) X.env) Q E { t with heap := h3 } := fun {Q E} q => match hc with
          | ⟨hg, hdb, .inl hm⟩ => ld_glob (X := X.suite a ((a, oe) :: (X.pn ++ pins))) S3 hg hm q hdb
          | ⟨hg, hdb, .inr ⟨hm, hv, hnn⟩⟩ => ld_blt (X := X.suite a ((a, oe) :: (X.pn ++ pins))) S3 hg hm hv q hnn hdb
        refine nm ((PySem.W.exm_one (M := model X.prog X.w) J3.kIn LT hb1).here ?_)
        cases b with
        | false =>
          show wpAny _ X.A (handleBy (.ref a) X.env hs2) _ _ _
          exact ih (no rfl)
        | true =>
          refine codeAny_handlers_suite_as (HandSPX.lands_againZ fl3 fun h4 fl4 up4 => ?_)
          have J4 : Inv X pins σ1 H1 { t with heap := h4 } := J.landed nb fl4.1 ((up.trans up3).trans up4) os ag
          obtain ⟨oe4, vs4, he4, hz4, hd4⟩ := fl4.there
          refine store_ok (X := X.suite a ((a, oe4) :: (X.pn ++ pins))) (v := .ref a) (J4.suite he4 hd4 na nL nF) hN hi (.inl hn) rfl (fun s5 S5 => ?_) (.inr hn)
          refine wpAny_mono ((hsu a oe4 cls d (X.pn ++ pins) hz4 ⟨_, hd4⟩).run [] s5 _ H1 _ S5 (yes rfl a na)) (fun f s6 hsp => ?_) fun _ _ z => z.elim
          have fin : ∀ {σ6 : L2.St} {H6 : Hp} {Q : Shared → Prop}, Inv (X.suite a ((a, oe4) :: (X.pn ++ pins))) [] σ6 H6 s6 → (∀ s7, Inv X pins (σ6.set i none) H6 s7 → Q s7) → wpAny (model X.prog X.w) X.A (do bindName X.env n .none; unbindBehindTheSuite X.env n p) (fun _ s7 => Q s7) X.xe s6 := fun S6 hq => gone_ok (S6.unsuite okX) hN hi hn hq
          match f, hsp with
          | .next, ⟨_, _, S6, q6⟩ => exact fin S6 fun _ J7 => ⟨_, _, J7, q6⟩
          | .brk, ⟨_, _, S6, q6⟩ => exact fin S6 fun _ J7 => ⟨_, _, J7, q6⟩
          | .cont, ⟨_, _, S6, q6⟩ => exact fin S6 fun _ J7 => ⟨_, _, J7, q6⟩
          | .ret u, ⟨_, _, _, S6, r6, q6⟩ => exact fin S6 fun _ J7 => ⟨_, _, _, J7, r6, q6⟩
    exact go hh w
  · match f, ht with
    | .next, ⟨_, _, J, q⟩ => exact wpAny_execs_nil ⟨_, _, J.ofTry okX, q⟩
    | .brk, ⟨_, _, J, q⟩ => exact ⟨_, _, J.ofTry okX, q⟩
    | .cont, ⟨_, _, J, q⟩ => exact ⟨_, _, J.ofTry okX, q⟩
    | .ret u, ⟨_, _, _, J, r, q⟩ => exact ⟨_, _, _, J.ofTry okX, r, q⟩
end
end KX
set_option Elab.async false
set_option linter.all false
set_option maxRecDepth 100000
set_option maxHeartbeats 4000000
/-! Own error classes: what a law needs of them. -/
namespace KX
open PySem PySem.Spec PyProof.Rows L2 GX KC Evl
/-- what the written part says of an own error class and its fields -/
structure ErrK (K : PySem.W.Frag) (C : Addr) (nm : Str) : Prop where
  oc : OexC K C
  ec : L2.ExcC K C
  nk : NamK K C nm
  f1 : PySem.W.findIn K (.ref C) "place" = some none
  f2 : PySem.W.findIn K (.ref C) "name" = some none
def flds (nm : Str) (i : Int) : List (Str × V) := [("name", .str nm), ("place", .int i)]
def spInit (K : PySem.W.Frag) : Sp := fun vs H Q _ => ∃ (a C : Addr) (i : Int) (nm : Str), vs = [.ref a, .int i] ∧ H a = some (exo a C none) ∧ ErrK K C nm ∧ i.natAbs < 2 ^ 100 ∧
  ∀ dx H2, H dx = none → dx ≠ a → H2 a = some (exo a C (some dx)) → H2 dx = some (exd dx (flds nm i)) → (∀ b, b ≠ a → b ≠ dx → H2 b = H b) → Q .non H2
theorem log_bd {n : Nat} (h : n < 2 ^ 100) : n.log2 < 1920 := by
  by_cases z : n = 0
  · subst z; decide
  · have := (Nat.log2_lt z).mpr h
    omega
theorem ofString_len (s : String) : (Str.ofString s).length = s.length := by
  rw [Str.ofString_eq_toList]
  show (s.toList.map Char.toNat).toArray.size = _
  rw [List.size_toArray, List.length_map, String.length_toList]
theorem text_fits {i : Int} (h : i.natAbs < 2 ^ 100) : (Str.empty ++ Str.ofString "at place " ++ Str.ofString (toString i)).length ≤ sizeLine := by
  have h1 := int_text_length_le (a := i) (k := 1920) (by decide) (log_bd h)
  have h2 := ofString_len (toString i)
  show (((#[] : Array Nat) ++ (Str.ofString "at place ").cps) ++ (Str.ofString (toString i)).cps).size ≤ _
  rw [Array.size_append, Array.size_append]
  have h3 : (Str.ofString (toString i)).cps.size = (toString i).length := h2
  have h4 : (Str.ofString "at place ").cps.size = 9 := by decide
  have h5 : 10000 ≤ sizeLine := by decide
  rw [h3, h4]
  show 0 + 9 + _ ≤ _
  omega
section
variable {P : Program} {w : World} {K : PySem.W.Frag} {mg : Str → Option Value} {base : Heap}
/-- an own error class of the text, its __init__ -/
structure ErrG (P : Program) (w : World) (K : PySem.W.Frag) (mg : Str → Option Value) (base : Heap) (nm : Str) (C fI : Addr) (fd : FuncData) : Prop where
  er : ErrK K C nm
  iC : PySem.W.findIn K (.ref C) "__init__" = some (some (.ref fI))
  tI : PySem.W.typeIn K (.ref fI) = some (.type "function")
  g : mg nm = some (.ref C)
  ok : FnOk P w K mg base CX0 1 fI fd ["self", "place"] (spInit K)
  bd : Binds K fd ["self", "place"] []
def ErrOut (C : Addr) (nm : Str) (i : Int) (H : Hp) (E : XK) : Prop := ∀ (d : Addr) H2, H d = none → Ex H H2 → H2 d = some (.xd (flds nm i)) → E (.ref C) (some d) H2
theorem s_mk {σ : L2.St} {H : Hp} {te : TE} {C : Addr} {nm : Str} {i : Int} {W : XK} (T : ErrK K C nm) (h : Ev te σ H (.int i)) (hi : i.natAbs < 2 ^ 100) (k : ErrOut C nm i H W) : tMkO C (spInit K) [] (tCons te tNil) σ H W :=
  h H (Ex.refl H) _ fun H1 e1 => ⟨by show 1 ≤ 1000; decide, fun a ha => ⟨a, C, i, nm, rfl, upd_same, T, hi, fun dx H2 hdx hne h1 h2 hr => by
    have hd1 : H1 dx = none := by rw [upd_ne hne] at hdx; exact hdx
    refine ⟨rfl, dx, _, h1, h2, hd1, k dx _ (fresh_back e1 hd1) (fun x o hx => ?_) upd_same⟩
    have hx1 := e1 x o hx
    have n1 : x ≠ a := fun z => by rw [z, ha] at hx1; cases hx1
    have n2 : x ≠ dx := fun z => by rw [z, hd1] at hx1; cases hx1
    rw [upd_ne n2, del_ne n1, hr x n1 n2, upd_ne n1]
    exact hx1⟩⟩
structure CalX (P : Program) (w : World) (K : PySem.W.Frag) (mg : Str → Option Value) (base : Heap) (nm : Str) (k : Nat) (ps : List Str) (sp : Sp) : Prop where
  out : ∃ f fd, mg nm = some (.ref f) ∧ PySem.W.keepIn K (.ref f) = true ∧ Binds K fd ps [] ∧ FnOk P w K mg base (L2.CX P w) k f fd ps sp
theorem pe_callX {X : Cx} {nm : Str} {k : Nat} {ps : List Str} {sp : Sp} {E : XK} {p pos : Pos} {e : Expr} {es : List Expr} {t : TA} (C : CalX X.prog X.w X.K X.mg X.base nm k ps sp) (hr : Room k X.A) (hg : Gl X nm) (hx : Passes (L2.CX X.prog X.w) X E) (ha : PA X (e :: es) t)
    (hdb : (nm == ("__debug__" : Str)) = false := by decide) (he : starEach (e :: es) X.env = (false, eval e X.env) :: starEach es X.env := by rfl) (hpl : (backTo pos (starEach es X.env)).any (·.1) = false := by rfl) :
    PE X (.Call (.Name nm p) (e :: es) [] pos) (tCall sp [] E t) := by
  obtain ⟨f, fd, h1, h2, h3, h4⟩ := C.out
  exact pe_call h4 hr hg h1 h2 h3 .nil hx ha hdb he hpl
end
end KX
set_option Elab.async false
set_option linter.all false
set_option maxRecDepth 100000
set_option maxHeartbeats 4000000
/-! Pairs (a key, a symbol) in a list, sorted. -/
namespace KC
open PySem PySem.Spec PyProof.Rows L2 StX GX Evl
def PrG (key : Nat → Int) (H : Hp) (ys : List V) (o : List Nat) : Prop := ys.length = o.length ∧ ∀ (j s : Nat), o[j]? = some s → ∃ t, ys[j]? = some (.ref t) ∧ H t = some (.tup [.int (key s), .int (s : Int)])
section
variable {key : Nat → Int} {H H' : Hp} {ys zs : List V} {o : List Nat}
theorem PrG.nil : PrG key H [] [] := ⟨rfl, fun j s h => by simp at h⟩
theorem PrG.ext (e : Ex H H') (h : PrG key H ys o) : PrG key H' ys o := ⟨h.1, fun j s hj => by
  obtain ⟨t, h1, h2⟩ := h.2 j s hj
  exact ⟨t, h1, e t _ h2⟩⟩
theorem PrG.put {p : Addr} {us ws : List V} (hp : H p = some (.lst us)) (h : PrG key H ys o) : PrG key (upd H p (.lst ws)) ys o := ⟨h.1, fun j s hj => by
  obtain ⟨t, h1, h2⟩ := h.2 j s hj
  exact ⟨t, h1, by rw [upd_ne (fun z => by rw [z, hp] at h2; cases h2)]; exact h2⟩⟩
theorem PrG.add {t : Addr} {s : Nat} (h : PrG key H ys o) (ht : H t = some (.tup [.int (key s), .int (s : Int)])) : PrG key H (ys ++ [.ref t]) (o ++ [s]) := by
  refine ⟨by rw [List.length_append, List.length_append, h.1] <;> rfl, fun j u hj => ?_⟩
  by_cases e : j < o.length
  · rw [List.getElem?_append_left e] at hj
    obtain ⟨w, h1, h2⟩ := h.2 j u hj
    exact ⟨w, by rw [List.getElem?_append_left (by rw [h.1]; exact e)]; exact h1, h2⟩
  · rw [List.getElem?_append_right (by omega)] at hj
    have hj0 : j - o.length = 0 := by
      have := (List.getElem?_eq_some_iff.mp hj).1
      simp at this
      omega
    rw [hj0] at hj
    have hu : s = u := by simpa using hj
    subst hu
    exact ⟨t, by rw [List.getElem?_append_right (by rw [h.1]; omega), h.1, hj0]; rfl, ht⟩
def keyOf (H : Hp) : V → Int × Int
  | .ref t => match H t with
    | some (.tup [.int a, .int b]) => (a, b)
    | _ => (0, 0)
  | _ => (0, 0)
theorem keyOf_tup {t : Addr} {a b : Int} (h : H t = some (.tup [.int a, .int b])) : keyOf H (.ref t) = (a, b) := by
  show (match H t with | some (.tup [.int a, .int b]) => (a, b) | _ => ((0 : Int), (0 : Int))) = _
  rw [h]
def symOf (H : Hp) (z : V) : Nat := (keyOf H z).2.toNat
theorem PrG.mem (h : PrG key H ys o) {z : V} (hz : z ∈ ys) : ∃ s t, s ∈ o ∧ z = .ref t ∧ H t = some (.tup [.int (key s), .int (s : Int)]) ∧ symOf H z = s := by
  obtain ⟨j, hj⟩ := List.mem_iff_getElem?.mp hz
  have hjl : j < o.length := by rw [← h.1]; exact (List.getElem?_eq_some_iff.mp hj).1
  obtain ⟨t, h1, h2⟩ := h.2 j _ (List.getElem?_eq_getElem hjl)
  rw [hj] at h1
  have e := Option.some.inj h1
  subst e
  exact ⟨_, t, List.getElem_mem hjl, rfl, h2, by unfold symOf; rw [keyOf_tup h2]; simp⟩
theorem PrG.syms (h : PrG key H ys o) : ys.map (symOf H) = o := by
  refine List.ext_getElem? fun j => ?_
  rw [List.getElem?_map]
  by_cases hj : j < o.length
  · obtain ⟨t, h1, h2⟩ := h.2 j _ (List.getElem?_eq_getElem hj)
    rw [h1, List.getElem?_eq_getElem hj]
    show some (symOf H (.ref t)) = _
    unfold symOf
    rw [keyOf_tup h2]
    simp
  · rw [List.getElem?_eq_none (by rw [h.1]; omega), List.getElem?_eq_none (by omega)]
    rfl
theorem PrG.sorted (h : PrG key H ys o) (hp : zs.Perm ys) (hs : SrtO.Srtd (ltP (keyOf H)) zs) (hn : o.Nodup) :
    PrG key H zs (zs.map (symOf H)) ∧ (zs.map (symOf H)).Perm o ∧ (zs.map (symOf H)).Pairwise fun a b => key a < key b ∨ (key a = key b ∧ a < b) := by
  have hperm : (zs.map (symOf H)).Perm o := by
    have := hp.map (symOf H)
    rwa [h.syms] at this
  refine ⟨⟨(List.length_map _).symm, fun j s hj => ?_⟩, hperm, ?_⟩
  · rw [List.getElem?_map] at hj
    cases hz : zs[j]? with
    | none => rw [hz] at hj; cases hj
    | some z =>
      rw [hz] at hj
      obtain ⟨s1, t, _, rfl, ht, es⟩ := h.mem (hp.mem_iff.mp (List.mem_of_getElem? hz))
      have e2 : s1 = s := by rw [← es]; exact Option.some.inj hj
      subst e2
      exact ⟨t, rfl, ht⟩
  · have hnd : (zs.map (symOf H)).Nodup := hperm.nodup_iff.mpr hn
    have hnd2 : zs.Pairwise fun a b => symOf H a ≠ symOf H b := List.pairwise_map.mp hnd
    refine List.pairwise_map.mpr ?_
    refine List.Pairwise.imp_of_mem (fun {a b} ha hb hab => ?_) (hs.and hnd2)
    obtain ⟨s1, t1, _, rfl, ht1, es1⟩ := h.mem (hp.mem_iff.mp ha)
    obtain ⟨s2, t2, _, rfl, ht2, es2⟩ := h.mem (hp.mem_iff.mp hb)
    obtain ⟨h4, h5⟩ := hab
    have h6 := SrtO.lexB_no.mp h4
    rw [keyOf_tup ht1, keyOf_tup ht2] at h6
    rw [es1, es2] at h5 ⊢
    simp only at h6
    omega
end
section
variable {K : PySem.W.Frag} {σ : L2.St} {H H' : Hp} {ta tb te : TE} {D : Ends} {tz : TS}
/-- sorted((key, symbol) for symbol, w in enumerate(xs) if ..): what comes of it -/
theorem tSort_use {ys : List V} {key : Nat → Int} {o : List Nat} {H1 : Hp} {R : Addr → Hp → Prop} (h : PrG key H1 ys o) (hn : o.Nodup) (q : ∀ p zs o', H1 p = none → PrG key (upd H1 p (.lst zs)) zs o' → o'.Perm o → (o'.Pairwise fun a b => key a < key b ∨ (key a = key b ∧ a < b)) → R p (upd H1 p (.lst zs))) :
    ∀ p, H1 p = none → rSortPO (.ref p) [] (upd H1 p (.lst ys)) fun _ H2 => R p H2 := fun p hp => by
  have e1 : Ex H1 (upd H1 p (.lst ys)) := Ex.new hp
  refine ⟨p, ys, keyOf H1, rfl, rfl, upd_same, fun y hy => ?_, fun zs hsr hst => ?_⟩
  · obtain ⟨s, t, _, rfl, ht, _⟩ := h.mem hy
    refine ⟨t, rfl, ?_⟩
    rw [keyOf_tup ht]
    exact e1 t _ ht
  · have hov : upd (upd H1 p (.lst ys)) p (.lst zs) = upd H1 p (.lst zs) := by
      funext b
      by_cases e : b = p
      · rw [e, upd_same, upd_same]
      · rw [upd_ne e, upd_ne e, upd_ne e]
    rw [hov]
    obtain ⟨h1, h2, h3⟩ := h.sorted hst.perm hsr hn
    exact q p zs _ hp (h1.ext (Ex.new hp)) h2 h3
/-- xs[i] = a new list -/
theorem s_setLL {l : Addr} {xs ys : List V} {j : Nat} (hl : H l = some (.lst xs)) (h : EvL te σ H ys) (ho : Ev ta σ H (.ref l)) (hi : Ev tb σ H (.int (j : Int))) (hj : j < xs.length) (k : ∀ p H1, H p = none → Ex H H1 → H1 p = some (.lst ys) → D.nx σ (upd H1 l (.lst (xs.set j (.ref p))))) :
    tAsg te (gSub ta tb rSetL) D σ H := h H (Ex.refl H) _ fun p H1 hp e1 h1 => ho H1 e1 _ fun H2 e2 => hi H2 (e1.trans e2) _ fun H3 e3 =>
  ⟨l, xs, (j : Int), j, rfl, rfl, ((e1.trans e2).trans e3) l _ hl, ixN_nat hj, k p H3 hp ((e1.trans e2).trans e3) ((e2.trans e3) p _ h1)⟩
theorem q_setLL {l : Addr} {xs ys : List V} {j : Nat} (hl : H l = some (.lst xs)) (h : EvL te σ H ys) (ho : Ev ta σ H (.ref l)) (hi : Ev tb σ H (.int (j : Int))) (hj : j < xs.length) (k : ∀ p H1, H p = none → Ex H H1 → H1 p = some (.lst ys) → tz D σ (upd H1 l (.lst (xs.set j (.ref p))))) :
    tSeq (tAsg te (gSub ta tb rSetL)) tz D σ H := s_setLL (D := { D with nx := tz D }) hl h ho hi hj k
theorem flat_rep (n : Nat) (v : V) : (List.replicate n [v]).flatten = List.replicate n v := by
  induction n with
  | zero => rfl
  | succ n ih => rw [List.replicate_succ, List.replicate_succ, List.flatten_cons, ih] <;> rfl
end
end KC
set_option Elab.async false
set_option linter.all false
set_option maxRecDepth 100000
set_option maxHeartbeats 4000000
/-! Pairs, calls that may raise, isinstance, a, b = x, y. -/
namespace KQ
open PySem PySem.Spec PyProof.Rows L2 StX GX KC Evl KX
structure Bs2 (mg : Str → Option Value) : Prop where
  str : mg "str" = none
  tuple : mg "tuple" = none
  all : mg "all" = none
/-! ### a, b = x, y with plain local names -/
def tPar2 (i j : Nat) (ta : TA) : TS := fun D σ H => ta σ H fun vs H1 => ∃ u v, vs = [u, v] ∧ D.nx ((σ.set i (some u)).set j (some v)) H1
section
variable {X : Cx}
theorem ps_par2 {i j : Nat} {x y : Str} {a b : Expr} {ta : TA} {px py pt pos : Pos} {kt k2 pt2} (hc : X.calm = true) (hN : X.N.Nodup) (hi : X.N[i]? = some x) (hj : X.N[j]? = some y) (hij : i ≠ j)
    (hx : X.env.scope.names.lookup x = some .local) (hy : X.env.scope.names.lookup y = some .local) (ha : PA X [a, b] ta)
    (hw : swappedStores [.Tuple [.Name x px, .Name y py] kt pt] (.Tuple [a, b] k2 pt2) X.env = pure (some [x, y])) (hs : swapsWithSole [.Tuple [.Name x px, .Name y py] kt pt] (.Tuple [a, b] k2 pt2) pos.line X.env = pure false := by rfl) :
    PS X (.Assign [.Tuple [.Name x px, .Name y py] kt pt] (.Tuple [a, b] k2 pt2) pos) (tPar2 i j ta) := by
  refine ⟨fun pins s σ H D I h => ?_⟩
  refine (exec_Assign_arm .. ▸ wpAny_bind (wpAny_standAt ?_) : _)
  refine hs ▸ wpAny_bind (wpAny_pure ?_)
  refine (if_neg (show ¬ false = true by decide)).symm ▸ ?_
  refine wpAny_bind (Tuple_ (thn (ha.run _ pins s σ H _ I h) fun us s1 w0 => ?_))
  obtain ⟨vs, H1, I1, r1, v1, v2, e1, q1⟩ := w0
  subst e1
  obtain ⟨u1, u2, rfl, ra, rb⟩ := vals2 r1
  refine wpAny_newObj_type ?_ (by show 2 ≤ sizeLine; decide)
  have I2 : Inv X pins σ H1 { s1 with heap := s1.heap.push { cls := .type "tuple", data := .seq [u1, u2].toArray } } := I1.kept (t' := s1.toks) fun b o e => Heap.get?_push_of_some _ e
  refine hw ▸ wpAny_bind (wpAny_pure ?_)
  show wpAny (model X.prog X.w) X.A (rule "assign.swapped-stores" >>= fun _ => unpackItems (.ref s1.heap.objs.size) 2 none >>= fun its => assignInOrder [fun v => bindName X.env y v, fun v => bindName X.env x v] its.reverse >>= fun _ => pure Flow.next) _ _ _
  refine wpAny_bind (wpAny_rule (wpAny_bind (unpackItems_tuple (items := #[u1, u2]) (I.ok.hd hc) (IsTup.new s1.heap _) fun hp hx2 => ?_)))
  have I3 := I2.kept (h' := hp) (t' := s1.toks) fun b o e => hx2 b o (Nat.ne_of_lt (Heap.lt_size e)) e
  show wpAny _ _ (assignInOrder [fun v => bindName X.env y v, fun v => bindName X.env x v] [u2, u1] >>= fun _ => pure Flow.next) _ _ _
  refine wpAny_bind (assignInOrder_cons (wpAny_bindName (store_ok I3 hN hj (.inl hy) rb (fun s2 I4 => ?_) (.inr hy))))
  refine assignInOrder_cons (wpAny_bindName (store_ok I4 hN hi (.inl hx) ra (fun s3 I5 => assignInOrder_nil (wpAny_pure ?_)) (.inr hx)))
  rw [List.set_comm _ _ (Ne.symm hij)] at I5
  exact ⟨_, H1, I5, q1⟩
end
/-! ### calls that may raise -/
theorem ErrOut.mono {C : Addr} {nm : Str} {i : Int} {H H' : Hp} {E : XK} (e : Ex H H') (h : ErrOut C nm i H E) : ErrOut C nm i H' E := fun d H2 hd e2 h2 => h d H2 (fresh_back e hd) (e.trans e2) h2
/-- a new tuple -/
def RetT (xs : List V) (H : Hp) (Q : VK) : Prop := ∀ p H2, H p = none → Ex H H2 → H2 p = some (.tup xs) → Q (.ref p) H2
theorem RetT.mono {xs : List V} {H H' : Hp} {Q : VK} (e : Ex H H') (h : RetT xs H Q) : RetT xs H' Q := fun p H2 hp e2 h2 => h p H2 (fresh_back e hp) (e.trans e2) h2
section
variable {K : PySem.W.Frag} {σ : L2.St} {H H' : Hp} {ta tb tc te tx tl : TE} {D : Ends} {tz : TS} {x y z v : V} {t u : TT}
theorem q_par2 {i j : Nat} {ta : TA} (h : EvA ta σ H [x, y]) (k : ∀ H1, Ex H H1 → tz D ((σ.set i (some x)).set j (some y)) H1) : tSeq (tPar2 i j ta) tz D σ H := h H (Ex.refl H) _ fun H1 e1 => ⟨_, _, rfl, k H1 e1⟩
theorem s_par2 {i j : Nat} {ta : TA} (h : EvA ta σ H [x, y]) (k : ∀ H1, Ex H H1 → D.nx ((σ.set i (some x)).set j (some y)) H1) : tPar2 i j ta D σ H := h H (Ex.refl H) _ fun H1 e1 => ⟨_, _, rfl, k H1 e1⟩
theorem q_asg2 {i j : Nat} {ta : TA} (h : EvA ta σ H [x, y]) (k : ∀ H1, Ex H H1 → tz D ((σ.set i (some x)).set j (some y)) H1) : tSeq (tAsg (tTup ta) (gTup K 2 (gCons (gName i) (gCons (gName j) gNil)))) tz D σ H :=
  h H (Ex.refl H) _ fun H1 e1 => ⟨by show 2 ≤ sizeLine; decide, fun p hp => ⟨p, _, rfl, .inl (.inl upd_same), rfl, _, _, rfl, _, _, rfl, rfl, k _ (e1.trans (Ex.new hp))⟩⟩
theorem g_two {i j : Nat} {p : Addr} {Q : L2.St → Hp → Prop} (hp : SqT K H p [x, y]) (k : Q ((σ.set i (some x)).set j (some y)) H) : gTup K 2 (gCons (gName i) (gCons (gName j) gNil)) (.ref p) σ H Q := ⟨p, _, rfl, hp, rfl, _, _, rfl, _, _, rfl, rfl, k⟩
theorem g_three {i j l : Nat} {p : Addr} {Q : L2.St → Hp → Prop} (hp : SqT K H p [x, y, z]) (k : Q (((σ.set i (some x)).set j (some y)).set l (some z)) H) : gTup K 3 (gCons (gName i) (gCons (gName j) (gCons (gName l) gNil))) (.ref p) σ H Q := ⟨p, _, rfl, hp, rfl, _, _, rfl, _, _, rfl, _, _, rfl, rfl, k⟩
theorem q_unp2 {i j : Nat} {p : Addr} (h : Ev te σ H (.ref p)) (hp : SqT K H p [x, y]) (k : ∀ H1, Ex H H1 → tz D ((σ.set i (some x)).set j (some y)) H1) : tSeq (tAsg te (gTup K 2 (gCons (gName i) (gCons (gName j) gNil)))) tz D σ H :=
  h H (Ex.refl H) _ fun H1 e1 => g_two (ex_t e1 hp) (k H1 e1)
theorem q_unp3' {i j l : Nat} {p : Addr} (h : Ev te σ H (.ref p)) (hp : SqT K H p [x, y, z]) (k : ∀ H1, Ex H H1 → tz D (((σ.set i (some x)).set j (some y)).set l (some z)) H1) : tSeq (tAsg te (gTup K 3 (gCons (gName i) (gCons (gName j) (gCons (gName l) gNil))))) tz D σ H :=
  h H (Ex.refl H) _ fun H1 e1 => g_three (ex_t e1 hp) (k H1 e1)
/-- a, b = f(..) -/
theorem q_unpX {sp : Sp} {E : XK} {vs : List V} {ta : TA} {g : TG} (h : EvA ta σ H vs) (k : ∀ H1, Ex H H1 → sp (vs ++ []) H1 (fun v H2 => g v σ H2 fun σ' H' => tz D σ' H') E) : tSeq (tAsg (tCall sp [] E ta) g) tz D σ H := h H (Ex.refl H) _ fun H1 e1 => k H1 e1
theorem s_unpX {sp : Sp} {E : XK} {vs : List V} {ta : TA} {g : TG} (h : EvA ta σ H vs) (k : ∀ H1, Ex H H1 → sp (vs ++ []) H1 (fun v H2 => g v σ H2 fun σ' H' => D.nx σ' H') E) : tAsg (tCall sp [] E ta) g D σ H := h H (Ex.refl H) _ fun H1 e1 => k H1 e1
theorem s_retX {sp : Sp} {E : XK} {vs : List V} {ta : TA} (h : EvA ta σ H vs) (k : ∀ H1, Ex H H1 → sp (vs ++ []) H1 D.rt E) : tRet (tCall sp [] E ta) D σ H := h H (Ex.refl H) _ fun H1 e1 => k H1 e1
/-- return xs, y with a new list -/
theorem s_retLT {xs : List V} (h : EvL ta σ H xs) (h2 : ∀ H1, Ex H H1 → Ev tb σ H1 y) (k : ∀ b p H2, H b = none → H p = none → Ex H H2 → H2 b = some (.lst xs) → H2 p = some (.tup [.ref b, y]) → D.rt (.ref p) H2) : tRet (tTup (tCons ta (tCons tb tNil))) D σ H :=
  h H (Ex.refl H) _ fun b H1 nb e1 h1 => h2 H1 e1 H1 (Ex.refl H1) _ fun H2 e2 => ⟨by show 2 ≤ sizeLine; decide, fun p hp => k b p _ nb (fresh_back (e1.trans e2) hp) ((e1.trans e2).trans (Ex.new hp)) ((e2.trans (Ex.new hp)) b _ h1) upd_same⟩
/-- return x, ys with a new list -/
theorem s_retTL {xs : List V} (h : Ev ta σ H x) (h2 : ∀ H1, Ex H H1 → EvL tb σ H1 xs) (k : ∀ b p H2, H b = none → H p = none → Ex H H2 → H2 b = some (.lst xs) → H2 p = some (.tup [x, .ref b]) → D.rt (.ref p) H2) : tRet (tTup (tCons ta (tCons tb tNil))) D σ H :=
  h H (Ex.refl H) _ fun H1 e1 => h2 H1 e1 H1 (Ex.refl H1) _ fun b H2 nb e2 hb => ⟨by show 2 ≤ sizeLine; decide, fun p hp => k b p _ (fresh_back e1 nb) (fresh_back (e1.trans e2) hp) ((e1.trans e2).trans (Ex.new hp)) ((Ex.new hp) b _ hb) upd_same⟩
/-- return x, y -/
theorem s_ret2 (h : Ev ta σ H x) (h2 : Ev tb σ H y) (k : RetT [x, y] H D.rt) : tRet (tTup (tCons ta (tCons tb tNil))) D σ H := s_retU (eu_tup (ea2 h h2) (by show 2 ≤ 100000; decide)) k
theorem s_ret3 (h : Ev ta σ H x) (h2 : Ev tb σ H y) (h3 : Ev tc σ H z) (k : RetT [x, y, z] H D.rt) : tRet (tTup (tCons ta (tCons tb (tCons tc tNil)))) D σ H := s_retU (eu_tup (ea3 h h2 h3) (by show 3 ≤ 100000; decide)) k
theorem ep_call {sp : Sp} {dvs vs : List V} {E : XK} {ta : TA} {R : V → Hp → Prop} (h : EvA ta σ H vs) (hs : ∀ H1, Ex H H1 → ∀ Q : VK, (∀ v H2, Ex H1 H2 → R v H2 → Q v H2) → sp (vs ++ dvs) H1 Q E) : EvP (tCall sp dvs E ta) σ H R := fun H1 e Q q =>
  h H1 e _ fun H2 e2 => hs H2 (e.trans e2) Q fun v H3 e3 r => q v H3 (e2.trans e3) r
theorem el_cat3 {xs ys : List V} {a : Addr} (ha : Ev ta σ H (.ref a)) (h0 : H a = some (.lst xs)) (hb : EvL tb σ H ys) (hz : xs.length + ys.length ≤ 100000) : EvL (tOp rCat ta tb) σ H (xs ++ ys) := fun H1 e Q q =>
  ha H1 e _ fun H2 e2 => hb H2 (e.trans e2) _ fun p H3 np e3 hp => ⟨a, p, xs, ys, rfl, rfl, ((e.trans e2).trans e3) a _ h0, hp, sz_of hz, fun p2 hp2 => q p2 _ (fresh_back (e2.trans e3) hp2) ((e2.trans e3).trans (Ex.new hp2)) upd_same⟩
theorem el_catLL {xs ys : List V} (ha : EvL ta σ H xs) (hb : EvL tb σ H ys) (hz : xs.length + ys.length ≤ 100000) : EvL (tOp rCat ta tb) σ H (xs ++ ys) := fun H1 e Q q =>
  ha H1 e _ fun a H2 na e2 h2 => hb H2 (e.trans e2) _ fun p H3 np e3 hp => ⟨a, p, xs, ys, rfl, rfl, e3 a _ h2, hp, sz_of hz, fun p2 hp2 => q p2 _ (fresh_back (e2.trans e3) hp2) ((e2.trans e3).trans (Ex.new hp2)) upd_same⟩
/-- isinstance(x, C) of a value that is at hand -/
theorem ev_isi {c : String} {t : Value} {b : Bool} (h : Ev ta σ H x) (ty : ∀ H1, Ex H H1 → TyX K H1 x t) (hk : PySem.W.kitOne K t (.type c) = some b) : Ev (tCB (rIsi K) (tCons ta (tCons (tC (.ty c)) tNil))) σ H (.bl b) := fun H1 e Q q =>
  h H1 e _ fun H2 e2 => ⟨x, .ty c, t, .type c, b, rfl, .ty c, ty H2 (e.trans e2), hk, q H2 e2⟩
theorem EvP.of_ev (h : Ev te σ H v) : EvP te σ H fun w _ => w = v := fun H1 e Q q => h H1 e Q fun H2 e2 => q _ H2 e2 rfl
theorem dpAll_at {ds : List PyData} {vs : List V} (h : DpAll K H vs ds) {j : Nat} {d : PyData} (hj : ds[j]? = some d) : ∃ v, vs[j]? = some v ∧ Dp K H v d := by
  induction ds generalizing vs j with
  | nil => simp at hj
  | cons d0 r ih =>
    cases h with
    | cons a b =>
      cases j with
      | zero =>
        have : d0 = d := by simpa using hj
        subst this
        exact ⟨_, rfl, a⟩
      | succ j =>
        obtain ⟨v, h1, h2⟩ := ih b (j := j) (by simpa using hj)
        exact ⟨v, by simpa using h1, h2⟩
/-- [a, b, ..][j], data -/
theorem ed_ixNew {ta : TA} {ds : List PyData} {d : PyData} {j : Nat} {i : Int} (h : EvDA K ta σ H ds) (hl : ds.length ≤ 100000) (hb : Ev tb σ H (.int i)) (ei : i = (j : Int)) (hj : ds[j]? = some d) : EvD K (tOp (rIxL K) (tLst ta) tb) σ H d := fun H1 e Q q =>
  h H1 e _ fun vs H2 e2 hvs => ⟨sz_of (by rw [DpAll.len hvs]; exact hl), fun p hp => hb _ ((e.trans e2).trans (Ex.new hp)) _ fun H3 e3 => by
    obtain ⟨v, h1, h2⟩ := dpAll_at hvs hj
    exact ⟨p, vs, i, v, rfl, rfl, sq_of (e3 p _ upd_same), at_of ei h1, q v H3 ((e2.trans (Ex.new hp)).trans e3) (Dp.ext ((Ex.new hp).trans e3) _ _ h2)⟩⟩
end
section
variable {K : PySem.W.Frag} {σ : L2.St} {H H' : Hp} {ta tb tc te tx tl : TE} {D : Ends} {tu tz : TS} {g : TG} {x y z v : V}
/-- for .. in reversed(f(..)): over a list that is made -/
theorem s_forRevP {C : Addr → List V → Hp → Prop} (h : EvP te σ H fun v H1 => ∃ p xs, v = .ref p ∧ H1 p = some (.lst xs) ∧ C p xs H1) (Pv : Addr → List V → Nat → L2.St → Hp → Prop) (h0 : ∀ p xs H1, Ex H H1 → H1 p = some (.lst xs) → C p xs H1 → Pv p xs 0 σ H1) (hl : ∀ p xs i σ' H', i ≤ xs.length → Pv p xs i σ' H' → SqL K H' p xs)
    (hs : ∀ p xs i x σ' H', xs[xs.length - 1 - i]? = some x → i < xs.length → Pv p xs i σ' H' → g x σ' H' fun σ2 H2 => tu { D with nx := Pv p xs (i + 1), ct := Pv p xs (i + 1), bk := D.nx } σ2 H2) (hd : ∀ p xs σ' H', Pv p xs xs.length σ' H' → D.nx σ' H') : tFor (iRev K (tCons te tNil)) g tu D σ H := by
  refine h H (Ex.refl H) _ fun v H1 e1 hv => ?_
  obtain ⟨p, xs, rfl, h1, hc⟩ := hv
  refine ⟨p, xs, rfl, sq_of h1, fun i m σ H => m = xs.length - i ∧ i ≤ xs.length ∧ Pv p xs i σ H, ⟨xs.length, by simp, Nat.zero_le _, h0 p xs H1 e1 h1 hc⟩, ?_⟩
  rintro i m σ H ⟨rfl, hi, pv⟩
  have q := hl p xs i σ H hi pv
  by_cases hlt : i < xs.length
  · have hx : xs[xs.length - 1 - i]? = some (xs[xs.length - 1 - i]'(by omega)) := List.getElem?_eq_getElem (by omega)
    refine .inr ⟨⟨hlt, xs, _, q, hx⟩, Pv p xs (i + 1), fun σ' H' p' => ⟨xs.length - (i + 1), by omega, rfl, hlt, p'⟩, fun x H' y => ?_⟩
    obtain ⟨rfl, hy⟩ := y
    exact hs p xs i x σ _ (hy xs q) hlt pv
  · have : i = xs.length := by omega
    subst this
    exact .inl ⟨Nat.le_refl _, hd p xs σ H pv⟩
theorem q_forRevP {C : Addr → List V → Hp → Prop} (h : EvP te σ H fun v H1 => ∃ p xs, v = .ref p ∧ H1 p = some (.lst xs) ∧ C p xs H1) (Pv : Addr → List V → Nat → L2.St → Hp → Prop) (h0 : ∀ p xs H1, Ex H H1 → H1 p = some (.lst xs) → C p xs H1 → Pv p xs 0 σ H1) (hl : ∀ p xs i σ' H', i ≤ xs.length → Pv p xs i σ' H' → SqL K H' p xs)
    (hs : ∀ p xs i x σ' H', xs[xs.length - 1 - i]? = some x → i < xs.length → Pv p xs i σ' H' → g x σ' H' fun σ2 H2 => tu { D with nx := Pv p xs (i + 1), ct := Pv p xs (i + 1), bk := tz D } σ2 H2) (hd : ∀ p xs σ' H', Pv p xs xs.length σ' H' → tz D σ' H') : tSeq (tFor (iRev K (tCons te tNil)) g tu) tz D σ H :=
  s_forRevP (D := { D with nx := tz D }) h Pv h0 hl hs hd
theorem q_forRevN {xs : List V} (h : EvL te σ H xs) (Pv : Addr → Nat → L2.St → Hp → Prop) (h0 : ∀ p H1, H p = none → Ex H H1 → H1 p = some (.lst xs) → Pv p 0 σ H1) (hl : ∀ p i σ' H', i ≤ xs.length → Pv p i σ' H' → SqL K H' p xs)
    (hs : ∀ p i x σ' H', xs[xs.length - 1 - i]? = some x → i < xs.length → Pv p i σ' H' → g x σ' H' fun σ2 H2 => tu { D with nx := Pv p (i + 1), ct := Pv p (i + 1), bk := tz D } σ2 H2) (hd : ∀ p σ' H', Pv p xs.length σ' H' → tz D σ' H') : tSeq (tFor (iRev K (tCons te tNil)) g tu) tz D σ H :=
  q_forRevP (C := fun p ys H1 => ys = xs ∧ H p = none ∧ H1 p = some (.lst xs)) (fun H1 e Q q => h H1 e Q fun p H2 np e2 h2 => q _ H2 e2 ⟨p, xs, rfl, h2, rfl, fresh_back e np, h2⟩) (fun p ys i σ' H' => ys = xs ∧ Pv p i σ' H') (fun p ys H1 e1 h1 ⟨a, b, c⟩ => ⟨a, h0 p H1 b e1 c⟩) (fun p ys i σ' H' hi ⟨a, b⟩ => by subst a; exact hl p i σ' H' hi b)
    (fun p ys i x σ' H' hx hi ⟨a, b⟩ => by
      subst a
      have key : ∀ σ2 H2, (fun σ H => Pv p (i + 1) σ H) σ2 H2 ↔ (ys = ys ∧ Pv p (i + 1) σ2 H2) := fun σ2 H2 => ⟨fun z => ⟨rfl, z⟩, fun z => z.2⟩
      have e : (fun σ2 H2 => ys = ys ∧ Pv p (i + 1) σ2 H2) = Pv p (i + 1) := by
        funext σ2 H2
        exact propext (key σ2 H2).symm
      rw [e]
      exact hs p i x σ' H' hx hi b) (fun p ys σ' H' ⟨a, b⟩ => by subst a; exact hd p σ' H' b)
/-- xs[i:j] of a new list -/
theorem el_slN {tl th : TO} {xs : List V} {lo hi : Option Int} (h : EvL te σ H xs) (h1 : ∀ H1, Ex H H1 → EvO tl σ H1 lo) (h2 : ∀ H1, Ex H H1 → EvO th σ H1 hi) : EvL (tSl (rSlL K) te tl th) σ H (cutV xs lo hi) := fun H1 e Q q =>
  h H1 e _ fun a H2 na e2 ha => h1 H2 (e.trans e2) H2 (Ex.refl _) _ fun H3 e3 => h2 H3 ((e.trans e2).trans e3) H3 (Ex.refl _) _ fun H4 e4 =>
    ⟨a, xs, rfl, sq_of ((e3.trans e4) a _ ha), fun p hp => q p _ (fresh_back ((e2.trans e3).trans e4) hp) (((e2.trans e3).trans e4).trans (Ex.new hp)) upd_same⟩
theorem cutV_from (xs : List V) (n : Nat) : cutV xs (some (n : Int)) none = xs.drop n := by
  unfold cutV
  rw [HT.sIx_none, HT.sIx_nat]
  by_cases h : n ≤ xs.length
  · rw [Nat.min_eq_left h, List.take_of_length_le (by rw [List.length_drop]; omega)]
  · rw [Nat.min_eq_right (by omega), List.drop_eq_nil_of_le (Nat.le_refl _), List.drop_eq_nil_of_le (by omega), List.take_nil]
theorem ev_bits {i : Int} (h : Ev te σ H (.int i)) : Ev (tBits te) σ H (.int (Builtin.Int.intBits i : Nat)) := fun H1 e Q q => h H1 e _ fun H2 e2 => ⟨i, rfl, q H2 e2⟩
/-- [e for j in range(a, b, -1)] -/
theorem el_lcDown {ta : TA} {te : TE} {j : Nat} {vs : List Nat} {a b : Int} {n : Nat} (v : Nat → V) (h : EvA ta σ H [.int a, .int b, .int (-1)]) (hn : (a - b).toNat = n) (ha : -100000 ≤ a ∧ a ≤ 100000) (hb : -100000 ≤ b ∧ b ≤ 100000) (hn2 : n ≤ 40000)
    (hw : ∀ x, wipe ((wipe σ vs).set j (some x)) vs = wipe σ vs) (he : ∀ (i : Nat) H1, Ex H H1 → i < n → Ev te ((wipe σ vs).set j (some (.int (a + (i : Nat) * (-1))))) H1 (v i)) : EvL (tLc (iRng3 ta) (gName j) tYes te vs) σ H ((List.range n).map v) := fun H1 e Q q =>
  h H1 e _ fun H2 e2 => ⟨a, b, -1, n, rfl, by rw [← hn]; exact RgC.neg (by omega) (by omega) (by omega) (by omega), fun Dl hD =>
    ⟨fun i m H' => m + i = n ∧ H2 Dl = none ∧ Ex H2 H' ∧ H' Dl = some (.lst ((List.range i).map v)), ⟨n, by omega, hD, Ex.new hD, upd_same⟩, fun i m H' hW => by
      obtain ⟨hm, hD2, e3, hl⟩ := hW
      by_cases hi : i < n
      · right
        refine ⟨hi, fun H' => (m - 1) + (i + 1) = n ∧ H2 Dl = none ∧ Ex H2 H' ∧ H' Dl = some (.lst ((List.range (i + 1)).map v)), fun H' q => ⟨m - 1, by omega, q⟩, ?_⟩
        rintro x H5 ⟨rfl, rfl⟩
        refine ⟨hw _, tt_yes ?_⟩
        refine he i _ ((e.trans e2).trans e3) hi _ (Ex.refl _) _ fun H6 e6 => ?_
        refine ⟨_, e6 Dl _ hl, sz_lt (by rw [List.length_map, List.length_range]; omega), by omega, hD2, Ex.mut (e3.trans e6) hD2, ?_⟩
        rw [upd_same, List.range_succ, List.map_append]
        rfl
      · left
        have hin : i = n := by omega
        subst hin
        exact ⟨Nat.le_refl _, q Dl H' (fresh_back e2 hD2) (e2.trans e3) hl⟩⟩⟩
theorem p2_abs (m : Nat) : ((2 : Int) ^ m).natAbs < 2 ^ (m + 1) := by
  rw [Int.natAbs_pow]
  exact Nat.pow_lt_pow_right (by decide) (Nat.lt_succ_self m)
theorem rv_divP {i : Int} {m : Nat} (h : m ≤ 8000) : RV (rI CDivW fun i j => .int (i / j)) (.int i) (.int (2 ^ m)) H (.int (i / 2 ^ m)) := rv_I (wide_div (b := m + 1) (Int.pow_pos (by decide)) (p2_abs m) (by omega) (by omega))
/-- 1 << m -/
theorem ev_shl1 {z : Int} {m : Nat} (h : Ev te σ H (.int z)) (e : z = (m : Int)) (hm : m ≤ 1000000) : Ev (tOp (rI CPow fun i j => .int (i * 2 ^ j.toNat)) (tC (.int 1)) te) σ H (.int (2 ^ m)) := by
  subst e
  refine ev_is (ev_op (ev_c (v := .int 1)) h (rv_shl ⟨by omega, by omega, by decide⟩)) ?_
  rw [Int.toNat_natCast, Int.one_mul]
/-- a list of lists of ints -/
def LL (H : Hp) (p : Addr) (cs : List (List Int)) : Prop := ∃ rs : List Addr, H p = some (.lst (rs.map V.ref)) ∧ rs.length = cs.length ∧ ∀ (j : Nat) (r : Addr) (c : List Int), rs[j]? = some r → cs[j]? = some c → H r = some (.lst (c.map V.int))
theorem LL.ext {p : Addr} {cs : List (List Int)} (e : Ex H H') (h : LL H p cs) : LL H' p cs := by
  obtain ⟨rs, h1, h2, h3⟩ := h
  exact ⟨rs, e _ _ h1, h2, fun j r c a b => e _ _ (h3 j r c a b)⟩
theorem LL.at_ {p : Addr} {cs : List (List Int)} (h : LL H p cs) {j : Nat} {c : List Int} (hc : cs[j]? = some c) : ∃ r, H r = some (.lst (c.map V.int)) ∧ ∀ {te ti : TE} {σ : L2.St} {H' : Hp} {i : Int}, Ex H H' → Ev te σ H' (.ref p) → Ev ti σ H' (.int i) → i = (j : Int) → Ev (tOp (rIxL K) te ti) σ H' (.ref r) := by
  obtain ⟨rs, h1, h2, h3⟩ := h
  obtain ⟨r, hr⟩ : ∃ r, rs[j]? = some r := ⟨_, List.getElem?_eq_getElem (by rw [h2]; exact (List.getElem?_eq_some_iff.mp hc).1)⟩
  refine ⟨r, h3 j r c hr hc, fun e a b ei => ev_op a b (rv_ixL (sq_of (e _ _ h1)) (at_of ei ?_))⟩
  rw [List.getElem?_map, hr]
  rfl
theorem LL.dp {p : Addr} {cs : List (List Int)} (h : LL H p cs) : Dp K H (.ref p) (.list (cs.map fun c => .list (c.map PyData.int))) := by
  obtain ⟨rs, h1, h2, h3⟩ := h
  refine .lst (sq_of h1) ?_
  clear h1
  induction cs generalizing rs with
  | nil =>
    have : rs = [] := List.length_eq_zero_iff.mp h2
    subst this
    exact .nil
  | cons c r ih =>
    match rs, h2, h3 with
    | a :: rs, h2, h3 => exact .cons (dp_listI (sq_of (h3 0 a c rfl rfl))) (ih rs (by simpa using h2) fun j r c a b => h3 (j + 1) r c a b)
theorem ll_eqv (cs : List (List Int)) : PyData.eqv (.list (cs.map fun c => .list (c.map PyData.int))) (.list (cs.map fun c => .list (c.map PyData.int))) = true := eqv_list (fun a => eqv_ints a) cs
theorem ll_shaped (cs : List (List Int)) : SeqAt.shaped (.list (cs.map fun c => .list (c.map PyData.int))) = true := shaped_list (n := 10) (by decide) (fun a => by simp only [PyData.canLay0]; exact canLayAll0_map (fun a => by simp [PyData.canLay0]) a) (fun a => by
  have := depthAll_map (f := PyData.int) (n := 1) (fun a => by simp [PyData.depth]) a
  simp only [PyData.depth]
  omega) cs
/-- [f(..), g(..), h(..), k(..)], four new lists -/
theorem ep_lst4L {t1 t2 t3 t4 : TE} {a b c d : List Int} (h1 : EvL t1 σ H (a.map V.int)) (h2 : EvL t2 σ H (b.map V.int)) (h3 : EvL t3 σ H (c.map V.int)) (h4 : EvL t4 σ H (d.map V.int)) : EvP (tLst (tCons t1 (tCons t2 (tCons t3 (tCons t4 tNil))))) σ H fun v H' => ∃ p, v = .ref p ∧ H p = none ∧ LL H' p [a, b, c, d] := fun H0 e0 Q q =>
  h1 H0 e0 _ fun p1 H1 n1 e1 x1 => h2 H1 (e0.trans e1) _ fun p2 H2 n2 e2 x2 => h3 H2 ((e0.trans e1).trans e2) _ fun p3 H3 n3 e3 x3 => h4 H3 (((e0.trans e1).trans e2).trans e3) _ fun p4 H4 n4 e4 x4 => ⟨by show 4 ≤ sizeLine; decide, fun l hl => by
    have e14 := (e2.trans e3).trans e4
    have e5 : Ex H4 (upd H4 l (.lst [.ref p1, .ref p2, .ref p3, .ref p4])) := Ex.new hl
    refine q _ _ ((e1.trans e14).trans e5) ⟨l, rfl, fresh_back (e0.trans (e1.trans e14)) hl, [p1, p2, p3, p4], upd_same, rfl, fun j r cc hr hc => ?_⟩
    match j, hr, hc with
    | 0, hr, hc =>
      cases hr
      cases hc
      exact (e14.trans e5) _ _ x1
    | 1, hr, hc =>
      cases hr
      cases hc
      exact ((e3.trans e4).trans e5) _ _ x2
    | 2, hr, hc =>
      cases hr
      cases hc
      exact (e4.trans e5) _ _ x3
    | 3, hr, hc =>
      cases hr
      cases hc
      exact e5 _ _ x4⟩
theorem given_all (n : Nat) (v : Nat → V) : given n (fun _ => true) v = (List.range n).map v := by
  unfold given
  rw [List.filter_eq_self.mpr fun _ _ => rfl]
/-- [e for j in range(n)] -/
theorem el_lcN {ta : TA} {te : TE} {j : Nat} {vs : List Nat} {n : Nat} {z : Int} (v : Nat → V) (h : EvA ta σ H [.int z]) (ez : z = (n : Int)) (hn : n ≤ 40000) (hw : ∀ x, wipe ((wipe σ vs).set j (some x)) vs = wipe σ vs) (he : ∀ (i : Nat) H1, Ex H H1 → i < n → Ev te ((wipe σ vs).set j (some (.int (i : Int)))) H1 (v i)) :
    EvL (tLc (iRng1 ta) (gName j) tYes te vs) σ H ((List.range n).map v) := by
  subst ez
  rw [← given_all]
  have := el_lcR1 (σ := σ) (H := H) (te := te) (j := j) (vs := vs) (fun _ => true) v h ⟨by omega, by omega⟩ hw (fun i H1 e hi => et_yes) (fun i H1 e hi _ => he i H1 e (by omega))
  rwa [Int.toNat_natCast] at this
theorem cutV_ints (ns : List Int) (lo hi : Option Int) : ∃ ys : List Int, cutV (ns.map V.int) lo hi = ys.map V.int ∧ ys.length ≤ ns.length ∧ ∀ y ∈ ys, y ∈ ns := by
  refine ⟨(ns.drop (HT.sIx ns.length 0 lo)).take (HT.sIx ns.length ns.length hi - HT.sIx ns.length 0 lo), ?_, ?_, fun y hy => List.mem_of_mem_drop (List.mem_of_mem_take hy)⟩
  · unfold cutV
    rw [List.length_map, List.map_take, List.map_drop]
  · rw [List.length_take, List.length_drop]
    omega
/-- [f(x) for x in xs], xs a new list of ints -/
theorem el_lcMap {tl : TE} {j : Nat} {vs : List Nat} {xs : List Int} (f : Int → Int) (h : EvL tl σ H (xs.map V.int)) (hz : xs.length ≤ 40000) (hw : ∀ x, wipe ((wipe σ vs).set j (some x)) vs = wipe σ vs)
    (he : ∀ (x : Int) H1, x ∈ xs → Ex H H1 → Ev te ((wipe σ vs).set j (some (.int x))) H1 (.int (f x))) : EvL (tLc (iList K tl) (gName j) tYes te vs) σ H ((xs.map f).map V.int) := by
  have e : (xs.map f).map V.int = given (xs.map V.int).length (fun _ => true) (fun i => V.int (f (xs.getD i 0))) := by
    rw [given_all, List.length_map]
    refine List.ext_getElem (by simp) fun i h1 h2 => ?_
    have hi : i < xs.length := by simpa using h1
    simp only [List.getElem_map, List.getElem_range]
    rw [List.getD_eq_getElem?_getD, List.getElem?_eq_getElem hi]
    rfl
  rw [e]
  refine el_lcNL (K := K) _ _ h (by rw [List.length_map]; exact hz) hw (fun i x H1 e1 hx => et_yes) (fun i x H1 e1 hx _ => ?_)
  have hi : i < xs.length := by
    have := (List.getElem?_eq_some_iff.mp hx).1
    rwa [List.length_map] at this
  rw [int_at hi] at hx
  have ex := Option.some.inj hx
  subst ex
  have hmem : xs.getD i 0 ∈ xs := by
    rw [List.getD_eq_getElem?_getD, List.getElem?_eq_getElem hi]
    exact List.getElem_mem hi
  exact he _ H1 hmem e1
theorem s_retXS {sp : Sp} {E : L2.St → XK} {vs : List V} {ta : TA} (h : EvA ta σ H vs) (k : ∀ H1, Ex H H1 → sp vs H1 D.rt (E σ)) : tRet (tCallS sp E ta) D σ H := h H (Ex.refl H) _ fun H1 e1 => k H1 e1
/-- return e.name, e.place -/
theorem s_caught {a C d : Addr} {nm : Str} {i : Int} {j : Nat} (hσ : σ[j]? = some (some (.ref a))) (hd : H d = some (.xd (flds nm i))) (q : RetT [.str nm, .int i] H D.rt) : tRet (tTup (tCons (tXf a (.ref C) (some d) C "name" (tVar j)) (tCons (tXf a (.ref C) (some d) C "place" (tVar j)) tNil))) D σ H :=
  ⟨_, hσ, rfl, rfl, d, _, _, rfl, hd, rfl, _, hσ, rfl, rfl, d, _, _, rfl, hd, rfl, by show 2 ≤ sizeLine; decide, fun p hp => q p _ hp (Ex.new hp) upd_same⟩
end
theorem passE0 {X : Cx} : Passes (L2.CX X.prog X.w) X E0 := fun _ _ _ _ _ _ _ ⟨_, _, _, _, _, _, _, _, _, _, _, _, h⟩ => h.elim
theorem len_seqK {X : Cx} {K : PySem.W.Frag} (h : X.K = K) : CallR X (.builtin "len") (Evl.rLenS K) := by
  subst h
  exact call_len_seq
theorem sl_listK {X : Cx} {K : PySem.W.Frag} (h : X.K = K) : SlR X (rSlL K) := by
  subst h
  exact sl_list
theorem op_eqDK {X : Cx} {K : PySem.W.Frag} (hu : X.A.units + 64 < cLine) (h : X.K = K) : OpR X (compareOp .Eq) (rEqD K) := by
  subst h
  exact op_eqD hu
theorem op_notIn_seqK {X : Cx} {K : PySem.W.Frag} (h : X.K = K) : OpR X (compareOp .NotIn) (rIn K true) := by
  subst h
  exact op_notIn_seq
/-- what is never reached -/
theorem ps_never {X : Cx} {st : Stmt} : PS X st (fun _ _ _ => False) := ⟨fun _ _ _ _ _ _ h => h.elim⟩
/-- a call in a try's body -/
theorem pe_callXS {X : Cx} {nm : Str} {k : Nat} {ps : List Str} {sp : Sp} {E : L2.St → XK} {p pos : Pos} {e : Expr} {es : List Expr} {t : TA} (C : CalX X.prog X.w X.K X.mg X.base nm k ps sp) (hr : Room k X.A) (hg : Gl X nm) (hx : ∀ σ, PassesAt (L2.CX X.prog X.w) X σ (E σ)) (ha : PA X (e :: es) t)
    (hdb : (nm == ("__debug__" : Str)) = false := by decide) (he : starEach (e :: es) X.env = (false, eval e X.env) :: starEach es X.env := by rfl) (hpl : (backTo pos (starEach es X.env)).any (·.1) = false := by rfl) :
    PE X (.Call (.Name nm p) (e :: es) [] pos) (tCallS sp E t) := by
  obtain ⟨f, fd, h1, h2, h3, h4⟩ := C.out
  exact pe_callS h4 hr hg h1 h2 h3 hx ha hdb he hpl
end KQ
set_option Elab.async false
set_option linter.all false
set_option maxRecDepth 100000
set_option maxHeartbeats 4000000
/-! A walk over the keys of a dict with tuple keys. -/
namespace KC
open PySem PySem.Spec PyProof.Rows L2 GX Evl
/-- the key tuples of the dict at d, as long as it stands there as it was -/
def Itx (d : Addr) (ho : HO) (bs : List Addr) : It :=
  ⟨fun i H => H d = some ho ∧ i < bs.length, fun i H x H' => H' = H ∧ ∃ q, bs[i]? = some q ∧ x = .ref q, fun i H => H d = some ho ∧ bs.length ≤ i⟩
section
variable {P : Program} {w : World} {K : PySem.W.Frag} {tg : Expr} {d : Addr} {o : Obj} {es : Array DictEntry} {ep : Nat}
theorem turn_dX {xs : List (List Key × Addr × Value)} (it : Addr) (hod : o.data = .dict es ep) (hen : es.toList = xs.map (entryOfKey (tupleKind (mixKind P w)))) : Turn P w K tg (Itx d (DX P w d xs o) (xs.map fun x => x.2.1)) [it] it (fun i h => h.IsKeyIter it d i xs.length ep) where
  mem := by simp
  obj := fun i h st b hb => by
    have e : b = it := by simpa using hb
    subst e
    obtain ⟨oi, e, c, dd⟩ := st
    exact ⟨oi, e, fun v z => by rw [dd] at z; cases z⟩
  keep := fun i h h' st k => st.at fun oi e => k it (by simp) oi e
  item := by
    intro X hP hw hK hc i pins s σ H E I hf st hg
    subst hP hw hK
    obtain ⟨hd, hi⟩ := hg
    obtain ⟨f0, f1, f2, f3, f4, f5⟩ := hf it (by simp)
    obtain ⟨z, y, es', ep', hgd, hx, hdt, he, hn⟩ := (show DXp X.prog X.w d xs o s.heap from (show ObjOk X.prog X.w H s.heap d (DX X.prog X.w d xs o) from I.hok d _ hd).1)
    obtain ⟨rfl, rfl⟩ := dict_ep hod hdt
    have hsz : es'.size = xs.length := size_of_entries he
    rw [List.length_map] at hi
    have hxi : xs[i]? = some xs[i] := List.getElem?_eq_getElem hi
    generalize xs[i] = x at hxi
    have hei : es'[i]? = some (entryOfKey (tupleKind (mixKind X.prog X.w)) x) := by rw [entry_at he i, hxi]; rfl
    refine next_key_item st hgd hdt hsz hei fun h' st' sb => ?_
    have I1 : Inv X pins σ H { s with heap := h' } := I.turned (t' := s.toks) (fun b ob hb e => (sb.2 b hb).trans e) f0 f1 f3 f4 f5
    obtain ⟨oi, e, c, dd⟩ := id st'
    exact ⟨.ref x.2.1, rfl, go_of (s := { s with heap := h' }) e c dd (by decide) ⟨.ref x.2.1, H, I1, rfl, ⟨rfl, x.2.1, by rw [List.getElem?_map, hxi]; rfl, rfl⟩, st', fun b hb => (hf b hb).1⟩⟩
  done := by
    intro X hP hw hK hc i pins s σ H E I hf st hg
    subst hP hw hK
    obtain ⟨hd, hi⟩ := hg
    obtain ⟨f0, f1, f2, f3, f4, f5⟩ := hf it (by simp)
    obtain ⟨z, y, es', ep', hgd, hx, hdt, he, hn⟩ := (show DXp X.prog X.w d xs o s.heap from (show ObjOk X.prog X.w H s.heap d (DX X.prog X.w d xs o) from I.hok d _ hd).1)
    obtain ⟨rfl, rfl⟩ := dict_ep hod hdt
    have hsz : es'.size = xs.length := size_of_entries he
    rw [List.length_map] at hi
    exact next_key_end (I.ok.hd hc) st hgd hdt hsz hi fun h' eb => ⟨rfl, I.turned (t' := s.toks) (fun b ob hb e => eb b ob hb e) f0 f1 f3 f4 f5⟩
  self := fun A i s Q E st h => by
    refine wpAny_pyIter_slot st.typeIs PySem.F.slot_dict_keyiterator_iter (wpAny_call_entry PySem.F.slot_dict_keyiterator_iter st.typeIs PySem.F.entry_dict_keyiterator_iter ?_ (PySem.F.args_dict_keyiterator_iter_1 _))
    show wpAny _ _ (ret (.ref it)) _ _ s
    exact wpAny_pure ⟨_, rfl, "dict_keyiterator", _, st.typeIs, PySem.F.slot_dict_keyiterator_next.lookup, h⟩
end
def iDX (P : Program) (w : World) (td : TE) : TI := fun σ H R => td σ H fun x H1 => ∃ d xs o, x = .ref d ∧ H1 d = some (DX P w d xs o) ∧ R (Itx d (DX P w d xs o) (xs.map fun x => x.2.1)) H1
section
variable {X : Cx} {P : Program} {w : World} {K : PySem.W.Frag} {tg e : Expr} {td : TE}
theorem pi_dX (hX : X.prog = P ∧ X.w = w ∧ X.K = K) (he : PE X e td) : PI X tg e (iDX P w td) := by
  obtain ⟨rfl, rfl, rfl⟩ := hX
  refine ⟨fun pins s σ H R I h => ?_⟩
  refine thn (he.run pins s σ H _ I h) fun u s1 ⟨x, H1, I1, rx, d, xs, o, ex, hd, q⟩ => ?_
  subst ex
  obtain rfl : u = Value.ref d := rx
  obtain ⟨z, hs, es, ep, hgd, hx, hdt, hent, hn⟩ := (show DXp X.prog X.w d xs o s1.heap from (show ObjOk X.prog X.w H1 s1.heap d (DX X.prog X.w d xs o) from I1.hok d _ hd).1)
  have hsz : es.size = xs.length := size_of_entries hent
  refine iter_keys hs hgd hx hdt (pi_one (tk := s1.toks) I1 _ (turn_dX _ hdt hent) ⟨_, Heap.get?_push_size _ rfl, rfl, ?_⟩ q)
  rw [hsz] <;> rfl
end
end KC
set_option Elab.async false
set_option linter.all false
set_option maxRecDepth 100000
set_option maxHeartbeats 4000000
/-! A dict comprehension whose keys are tuples: it makes a dict of Kt's kind. (The walk through the block follows the order of the kit's rule for flat keys, which can't say what stands at the dict here.) -/
namespace KC
open PySem PySem.Spec PyProof.Rows L2 GX Evl
section
variable {X : Cx} {pins : List (Addr × Obj)} {σ : L2.St} {H : Hp} {s : Shared} {a b : Addr} {kvs : List (List Key × L2.V)} {k : List Key} {v : L2.V} {r : Value} {E : Value → Shared → Prop}
theorem dx_dictSet {Q : Unit → Shared → Prop} (hu : X.A.units < cLine) (I : Inv X pins σ H s) (g : DAt X.prog X.w X.K H a kvs) (hb : SqT X.K H b (k.map kV)) (hl : kvs.length < sizeLine) (rv : RelV v r)
    (h : ∀ H' s', DAt X.prog X.w X.K H' a (putK kvs k v) → (∀ c, c ≠ a → H' c = H c) → Inv X pins σ H' s' → Q () s') : wpAny (model X.prog X.w) X.A (dictSet a (.ref b) r) Q E s := by
  obtain ⟨xs, o, e, rel⟩ := g
  obtain ⟨z, hd, dd⟩ := dx_heap I e rel
  have hl2 := Paired.length rel
  refine wpAny_dictSet_heap (hsz := z) (show (tupleKind (mixKind X.prog X.w)).room X.A from hu) (key_ofX I hb) dd fun h' dd' hs => ?_
  obtain ⟨q, es, ep, hq, h2, h3, h4, _, h5⟩ := dd'
  have rel2 := rel.put k hb rv
  have hl3 : (storedH xs k b r).length ≤ sizeLine := by
    have := Paired.length rel2
    have := length_putK kvs k v
    omega
  refine h (upd H a (DX X.prog X.w a (storedH xs k b r) q)) _ ⟨_, _, upd_same, rel2.keeps fun c ys ec => sqt_ext ec e⟩ (fun c hc => upd_ne hc) ?_
  exact d_write I (by rw [e]; exact True.intro) hs ⟨q, hq⟩ (dx_ok ⟨hl3, hd, es, ep, hq, h2, h3, h4, h5⟩)
end
/-- {key: value for .. in .. if ..} -/
def tDcX (P : Program) (w : World) (K : PySem.W.Frag) (wi : TI) (g : TG) (tt : TT) (tk tv : TE) (vs : List Nat) : TE := fun σ H Q => wi σ H fun J H1 => ∀ D, H1 D = none → ∃ W : Nat → Nat → Hp → Prop, (∃ m, W 0 m (upd H1 D (DX P w D [] newD))) ∧ ∀ i m H, W i m H →
  (J.stop i H ∧ Q (.ref D) H) ∨ (J.go i H ∧ ∃ Nx : Hp → Prop, (∀ H', Nx H' → ∃ m', m' < m ∧ W (i + 1) m' H') ∧ ∀ x H', J.yld i H x H' → g x (wipe σ vs) H' fun σ2 H2 => wipe σ2 vs = wipe σ vs ∧ tt σ2 H2 fun b H3 =>
    if b = true then tk σ2 H3 fun y H4 => tv σ2 H4 fun z H5 => ∃ kvs c k, y = .ref c ∧ DAt P w K H5 D kvs ∧ SqT K H5 c (k.map kV) ∧ kvs.length < sizeLine ∧ ∀ H6, DAt P w K H6 D (putK kvs k z) → (∀ c, c ≠ D → H6 c = H5 c) → Nx H6 else Nx H3)
section
variable {X : Cx}
theorem dcx_core {pins : List (Addr × Obj)} {s : Shared} {σ : L2.St} {H : Hp} {Q : VK} {kx vx tg iter : Expr} {ifs : List Expr} {scope : Scope} {own : List (Str × Nat)} {pos pos' : Pos} {wi : TI} {g : TG} {tt : TT} {tk tv : TE} {use : Option (Value → Sem Unit)} {Qf : Value → Shared → Prop}
    (hu : X.A.units < cLine) (hc : X.calm = true) (hN : X.N.Nodup) (I : Inv X pins σ H s) (hi : PI X tg iter wi) (ok : BlkOk X.N X.env.scope scope own)
    (hg : ∀ (s : Shared) (H : Hp) (C : Addr) (cl : List (Str × Addr)) (fp : List Addr), PG (X.blk s H scope (compEnvC scope cl C X.env) fp) tg g) (ht : ∀ (s : Shared) (H : Hp) (C : Addr) (cl : List (Str × Addr)) (fp : List Addr), PTs (X.blk s H scope (compEnvC scope cl C X.env) fp) ifs tt)
    (hk : ∀ (s : Shared) (H : Hp) (C : Addr) (cl : List (Str × Addr)) (fp : List Addr), PE (X.blk s H scope (compEnvC scope cl C X.env) fp) kx tk)
    (he : ∀ (s : Shared) (H : Hp) (C : Addr) (cl : List (Str × Addr)) (fp : List Addr), PE (X.blk s H scope (compEnvC scope cl C X.env) fp) vx tv) (hs : ∀ x, foldedSetIterable iter X.env x = pure x)
    (h : tDcX X.prog X.w X.K wi g tt tk tv (own.map (·.2)) σ H Q)
    (hRR : ∀ D C s' m H', Inv X pins σ H' s' → Q (.ref D) H' → s'.heap.Ns C m → FpOk X pins H' C → compPost (model X.prog X.w) X.A X.xe use Qf (.ref D) C (.ok .next) s') :
    wpAny (model X.prog X.w) X.A (comprehension (.DictComp kx vx [⟨tg, iter, ifs, 0⟩] scope pos) scope X.env pos' newDict false (eval iter X.env) use) Qf X.xe s := by
  have free : ∀ y ∈ scope.names, y.2 = .free → ∃ c, X.env.cells.lookup y.1 = some c := fun y hy e => (ok.free y hy e).elim (fun k => I.ok.has _ (.inl k)) fun k => I.ok.has _ (.inr k)
  refine wpAny_comprehension_free (use := use) rfl hs (closure_ok free) ok.kind (fun y hy e => by rw [ok.uniq y hy, e]) (thn (hi.run pins s σ H _ I h) fun xv s1 hx => thn hx fun itv s2 h2 => ?_)
  obtain ⟨it, fp, tn, J, H2, rfl, I2, T, st2, f2, q⟩ := h2
  refine wpAny_newObj_type (newEnv_comp ?_)
  generalize hD : s2.heap.objs.size = D
  obtain ⟨W, ⟨m0, w0⟩, turn⟩ := q D (I2.hok.fresh (Nat.le_of_eq hD))
  -- the dict is there
  generalize hs3 : ({ s2 with heap := s2.heap.push { cls := .type "dict", data := .dict #[] } } : Shared) = s3
  have h3 : s3.heap = s2.heap.push { cls := .type "dict", data := .dict #[] } := by rw [← hs3]
  have I3 : Inv X pins σ (upd H2 D (DX X.prog X.w D [] newD)) s3 := by
    subst hs3 hD
    refine I2.laid (t' := s2.toks) (fun b o e => Heap.get?_push_of_some _ e) (Nat.le_refl _) (dx_ok ?_)
    exact ⟨Nat.zero_le _, beq_eq_false_iff_ne.mpr (Ne.symm (Nat.ne_of_lt I2.big)), #[], 0, Heap.get?_push_size _ rfl, ⟨rfl, rfl, rfl⟩, rfl, rfl, List.nodup_nil⟩
  have lt : ∀ b ∈ fp, b < s2.heap.objs.size := fun b hb => let ⟨_, e, _⟩ := T.obj _ _ st2 b hb; Heap.lt_size e
  have f3 : ∀ b ∈ fp, FpOk X pins (upd H2 D (DX X.prog X.w D [] newD)) b ∧ b < s3.heap.objs.size := fun b hb =>
    ⟨⟨by rw [upd_ne (by rw [← hD]; exact Nat.ne_of_lt (lt b hb))]; exact (f2 b hb).1, (f2 b hb).2⟩, by rw [h3, Heap.size_push]; exact Nat.lt_succ_of_lt (lt b hb)⟩
  have I4 := block_start I3 ok hN f3
  generalize hC : s3.heap.objs.size = C at I4 f3
  generalize hcl : cellsFrom (C + 1) scope.names (cloFrom X.env.cells scope.names []) = cl at I4
  show codeAny _ _ (.compStart (.DictComp kx vx [⟨tg, iter, ifs, 0⟩] scope pos) 0 (.ref it) (.ref D) (compEnvC scope cl C X.env)) (compPost (model X.prog X.w) X.A X.xe use Qf (.ref D) C) { s3 with heap := pushCells (s3.heap.push { cls := .type "dict", data := .dict #[] }) scope.names }
  have pg := hg s3 (upd H2 D (DX X.prog X.w D [] newD)) C cl fp
  have pt := ht s3 (upd H2 D (DX X.prog X.w D [] newD)) C cl fp
  have pk := hk s3 (upd H2 D (DX X.prog X.w D [] newD)) C cl fp
  have pe := he s3 (upd H2 D (DX X.prog X.w D [] newD)) C cl fp
  have nf3 : ∀ b ∈ fp, (upd H2 D (DX X.prog X.w D [] newD)) b = none := fun b hb => (f3 b hb).1.1
  generalize hce : compEnvC scope cl C X.env = ce at I4 pg pt pk pe ⊢
  have cL : ce.locals = C := by subst hce; rfl
  generalize upd H2 D (DX X.prog X.w D [] newD) = H3 at I3 I4 pg pt pk pe w0 nf3 f3
  generalize hs4 : ({ s3 with heap := pushCells (s3.heap.push { cls := .type "dict", data := .dict #[] }) scope.names } : Shared) = s4 at I4 ⊢
  have st4 : tn 0 s4.heap := T.keep _ _ _ st2 fun b _ o e => by rw [← hs4]; exact pushCells_keeps _ _ _ _ (Heap.get?_push_of_some _ (by rw [h3]; exact Heap.get?_push_of_some _ e))
  have own' : ∀ {σ' : L2.St} {H' : Hp} {s' : Shared}, Inv (X.blk s3 H3 scope ce fp) [] σ' H' s' → (∀ b ∈ fp, H' b = none) → ∀ b ∈ fp, FpOk (X.blk s3 H3 scope ce fp) [] H' b := fun {σ' H' s'} I' hn b hb =>
    ⟨hn b hb, (I'.ok.exf b hb).1, I'.ok.exfs b hb, .inl hb, fun x c e => (I'.ok.exf b hb).2 x c e, fun p hp => absurd (show p ∈ ([] : List (Addr × Obj)) ++ [] from hp) (by simp)⟩
  have loop : codeAny (model X.prog X.w) X.A (.compLoop (.DictComp kx vx [⟨tg, iter, ifs, 0⟩] scope pos) 0 (.ref it) (.ref D) ce) (compPost (model X.prog X.w) X.A X.xe use Qf (.ref D) C) s4 := by
    refine compLoop_anyD (fun n s' => ∃ i H', Inv (X.blk s3 H3 scope ce fp) [] (wipe σ (own.map (·.2))) H' s' ∧ tn i s'.heap ∧ (∀ b ∈ fp, H' b = none) ∧ W i n H') ?_ m0 ⟨0, H3, I4, st4, nf3, w0⟩
    rintro n s5 ⟨i, H5, I5, st5, n5, w5⟩
    rcases turn i n H5 w5 with ⟨stop, qq⟩ | ⟨go, Nx, hNx, step⟩
    · refine thnF (T.done (X.blk s3 H3 scope ce fp) rfl rfl rfl hc i [] s5 _ H5 (fun _ _ => False) I5 (own' I5 n5) st5 stop) fun r s6 ⟨hr, I6⟩ => ?_
      subst hr
      have I7 : Inv X pins σ H5 s6 := I3.call' (ch := fp) I6.os I6.base I6.hok I6.bare fun b hb => ⟨(f3 b hb).1.2.2.2.1, (f3 b hb).1.2.1, (f3 b hb).1.2.2.2.2.1, (f3 b hb).1.2.2.2.2.2⟩
      have nC : H5 C = none := by
        have z : H5 ce.locals = none := I6.free
        rwa [cL] at z
      obtain ⟨m, hn, _⟩ := I6.loc
      have hn : s6.heap.Ns ce.locals m := hn
      rw [cL] at hn
      exact hRR D C s6 m H5 I7 qq hn (I3.fpOk (Nat.le_of_eq hC) nC)
    · refine thnF (T.item (X.blk s3 H3 scope ce fp) rfl rfl rfl hc i [] s5 _ H5 (fun _ _ => False) I5 (own' I5 n5) st5 go) fun r s6 ⟨u, hr, h6⟩ => ?_
      subst hr
      refine thnF h6 fun _ s7 ⟨x, H7, I7, r7, y7, st7, n7⟩ => ?_
      refine thnF (pg.run _ s7 _ H7 x u _ (I7.pinned (own' I7 n7) (T.obj _ _ st7)) r7 (step x H7 y7)) fun _ s8 ⟨σ8, H8, I8, hw8, q8⟩ => thnF (pt.run _ s8 σ8 H8 _ I8 q8) fun b s9 ⟨H9, I9, q9⟩ => ?_
      have fin : ∀ {s' : Shared} {H' : Hp}, Inv (X.blk s3 H3 scope ce fp) ([] ++ pinsAt fp s7.heap) σ8 H' s' → Nx H' → ∃ m, m < n ∧ ∃ i H', Inv (X.blk s3 H3 scope ce fp) [] (wipe σ (own.map (·.2))) H' s' ∧ tn i s'.heap ∧ (∀ b ∈ fp, H' b = none) ∧ W i m H' := fun {s' H'} I' nx => by
        obtain ⟨m', hm, w'⟩ := hNx H' nx
        have same : ∀ b ∈ fp, ∀ o, s7.heap.get? b = some o → s'.heap.get? b = some o ∧ H' b = none := fun b hb o e =>
          let z := I'.pin (b, o) (List.mem_append_right _ (List.mem_append_right _ (mem_pinsAt hb e)))
          ⟨z.1, z.2.1⟩
        refine ⟨m', hm, i + 1, H', (I'.unpinned (pins := [])).weak (by rw [← hw8, wipe_length]) (fun j v e => ?_), T.keep _ _ _ st7 fun b hb o e => (same b hb o e).1, fun b hb => ?_, w'⟩
        · rw [← hw8] at e
          exact (wipe_some e).1
        · obtain ⟨o, e, _⟩ := T.obj _ _ st7 b hb
          exact (same b hb o e).2
      cases b with
      | false =>
        simp only [Bool.false_eq_true, if_false] at q9 ⊢
        exact fin I9 q9
      | true =>
        simp only [if_true] at q9 ⊢
        refine thnF (pk.run _ s9 σ8 H9 _ I9 q9) fun z s10 ⟨yk, H10, I10, r10, q10⟩ => thnF (pe.run _ s10 σ8 H10 _ I10 q10) fun z2 s11 ⟨yv, H11, I11, r11, kvs, c, k, ek, hD11, hc11, hz11, nx⟩ => ?_
        subst ek
        obtain rfl : z = Value.ref c := r10
        exact dx_dictSet (X := X.blk s3 H3 scope ce fp) hu I11 hD11 hc11 hz11 r11 fun H12 s12 d12 k12 I12 => fin I12 (nx H12 d12 k12)
  exact codeAny_compStart_dict loop (T.self X.A 0 _ _ _ st4 loop)
theorem ps_setDcX {P : Program} {w : World} {K : PySem.W.Frag} {i : Nat} {y : Str} {py : Pos} {kx vx tg iter : Expr} {ifs : List Expr} {scope : Scope} {own : List (Str × Nat)} {pos spos : Pos} {wi : TI} {g : TG} {tt : TT} {tk tv : TE} (hX : X.prog = P ∧ X.w = w ∧ X.K = K) (hu : X.A.units < cLine) (hc : X.calm = true) (hN : X.N.Nodup) (hy : X.N[i]? = some y) (hyl : X.env.scope.names.lookup y = some .local)
    (hsw : swapsWith (.DictComp kx vx [⟨tg, iter, ifs, 0⟩] scope pos) (some (.Name y py)) spos.line X.env = pure true) (hi : PI X tg iter wi) (ok : BlkOk X.N X.env.scope scope own)
    (hg : ∀ (s : Shared) (H : Hp) (C : Addr) (cl : List (Str × Addr)) (fp : List Addr), PG (X.blk s H scope (compEnvC scope cl C X.env) fp) tg g) (ht : ∀ (s : Shared) (H : Hp) (C : Addr) (cl : List (Str × Addr)) (fp : List Addr), PTs (X.blk s H scope (compEnvC scope cl C X.env) fp) ifs tt)
    (hk : ∀ (s : Shared) (H : Hp) (C : Addr) (cl : List (Str × Addr)) (fp : List Addr), PE (X.blk s H scope (compEnvC scope cl C X.env) fp) kx tk)
    (he : ∀ (s : Shared) (H : Hp) (C : Addr) (cl : List (Str × Addr)) (fp : List Addr), PE (X.blk s H scope (compEnvC scope cl C X.env) fp) vx tv) (hs : ∀ x, foldedSetIterable iter X.env x = pure x := by intro _; rfl) :
    PS X (.Assign [.Name y py] (.DictComp kx vx [⟨tg, iter, ifs, 0⟩] scope pos) spos) (tAsg (tDcX P w K wi g tt tk tv (own.map (·.2))) (gName i)) := by
  obtain ⟨rfl, rfl, rfl⟩ := hX
  refine ⟨fun pins s σ H D I h => ?_⟩
  rw [exec_Assign_Name_used _ _ _ _ hsw]
  refine wpAny_bind (wpAny_standAt (wpAny_bind ?_))
  show wpAny _ X.A (do let _ ← comprehension (.DictComp kx vx [⟨tg, iter, ifs, 0⟩] scope pos) scope X.env (firstIterPos [⟨tg, iter, ifs, 0⟩] pos) newDict false (eval iter X.env) (some (assign (.Name y py) X.env))) _ _ s
  have h : tDcX X.prog X.w X.K wi g tt tk tv (own.map (·.2)) σ H (fun x H1 => gName i x σ H1 D.nx) := h
  refine wpAny_bind (thn (dcx_core (Qf := fun _ s' => SP X pins D .next s') hu hc hN I hi ok hg ht hk he hs h fun L C s' m H' I' q hn f => ?_) fun _ s' hq => wpAny_pure (wpAny_pure hq))
  show wpAny _ _ (assign (.Name y py) X.env (.ref L)) _ _ _
  refine wpAny_assign_Name (store_ok2 (v := L2.V.ref L) I' hN hy (.inl hyl) rfl (fun s2 I2 ⟨a, sb, ha⟩ => ?_) (.inr hyl))
  obtain ⟨f0, f1, f2, f3, f4, f5⟩ := f
  have haC : C ≠ a := ha.elim (fun z => by rw [z]; exact f1) fun z e => f4 y a z e.symm
  exact ⟨m, hn.sameBut sb haC, fun h3 sb3 => ⟨_, H', I2.turned (t' := s2.toks) (fun b o hb e => (sb3.2 b hb).trans e) f0 f1 f3 f4 f5, q⟩⟩
theorem sw_dict {kx vx : Expr} {gs : List Comprehension} {scope : Scope} {pos py : Pos} {y : Str} {l : Nat} {env : Env} (hk : env.scope.kind = .function) (hy : env.scope.names.lookup y = some .local) (hl : (py.line == pos.line) = true)
    (ha : (scope.names.any fun (n, k) => n == y && (k == .local || k == .cell)) = false) : swapsWith (.DictComp kx vx gs scope pos) (some (.Name y py)) l env = pure true := by
  have e1 : env.kindOf y = some .local := hy
  have e2 : env.blockKind = .function := by unfold Env.blockKind; rw [hk]; rfl
  unfold swapsWith
  simp only [e1, e2, ha, Expr.pos, hl]
  rfl
end
end KC
set_option Elab.async false
set_option linter.all false
set_option maxRecDepth 100000
set_option maxHeartbeats 4000000
/-! all(..) over a list of ints, and over the keys of a dict with tuple keys. -/
namespace KC
open PySem PySem.Spec PyProof.Rows L2 StX GX Evl
theorem pair_at {α β : Type} {F : α → β → Prop} : ∀ {xs : List α} {ys : List β}, Paired F xs ys → ∀ {i : Nat} {x : α} {y : β}, xs[i]? = some x → ys[i]? = some y → F x y
  | _, _, .nil, i, x, y, h, _ => by simp at h
  | _, _, .cons a _, 0, x, y, h1, h2 => by
    obtain rfl := Option.some.inj (show some _ = some _ from h1)
    obtain rfl := Option.some.inj (show some _ = some _ from h2)
    exact a
  | _, _, .cons _ t, i + 1, x, y, h1, h2 => pair_at t (i := i) (by simpa using h1) (by simpa using h2)
section
variable {P : Program} {w : World} {K : PySem.W.Frag} {σ : L2.St} {H H' : Hp} {ta tb tc te tx tl td : TE} {D : Ends} {tz : TS}
/-- all(b(x) for x in xs) -/
theorem ev_allL {Pt l : Addr} {cm : List (Option Nat)} {own : List Nat} {xs : List Int} (b : Int → Bool) (h : Ev tl σ H (.ref l)) (hx : SqL K H l (xs.map L2.V.int)) (hn : xs.length ≤ 1000) (tab : H Pt = some (TabX Pt))
    (hw : ∀ x, wipe ((captS cm σ).set 0 (some x)) own = captS cm σ) (he : ∀ x ∈ xs, ∀ H1, Ex H H1 → Ev te ((captS cm σ).set 0 (some (.int x))) H1 (.bl (b x))) :
    Ev (tAllG (tGx Pt (iList K tl) (gName 0) tYes te cm own)) σ H (.bl (xs.all b)) := fun H1 e Q q =>
  h H1 e _ fun H3 e13 => by
    have e03 := e.trans e13
    have hxl : (xs.map L2.V.int).length = xs.length := List.length_map _
    refine ⟨l, rfl, ⟨_, ex_l e03 hx⟩, e03 Pt _ tab, fun i m zs H' => m + i = xs.length ∧ Ex H3 H' ∧ zs = (xs.take i).map fun x => L2.V.bl (b x), ⟨xs.length, by omega, Ex.refl _, rfl⟩, ?_⟩
    rintro i m zs H' ⟨hm, e4, rfl⟩
    have e04 := e03.trans e4
    by_cases hi : i < xs.length
    · right
      refine ⟨⟨_, _, ex_l e04 hx, int_at hi⟩, fun zs H5 => (m - 1) + (i + 1) = xs.length ∧ Ex H3 H5 ∧ zs = (xs.take (i + 1)).map fun x => L2.V.bl (b x), fun zs H5 q => ⟨m - 1, by omega, q⟩, ?_⟩
      rintro v H5 ⟨rfl, hx1⟩
      have ex1 := (Option.some.inj ((int_at hi).symm.trans (hx1 _ (ex_l e04 hx)))).symm
      subst ex1
      have hxi : xs.getD i 0 = xs[i] := by rw [List.getD_eq_getElem?_getD, List.getElem?_eq_getElem hi] <;> rfl
      have hmem : xs.getD i 0 ∈ xs := by rw [hxi]; exact List.getElem_mem hi
      have htk : xs.take (i + 1) = xs.take i ++ [xs.getD i 0] := by rw [hxi]; exact (List.take_append_getElem hi).symm
      refine ⟨hw _, tt_yes ?_⟩
      refine he _ hmem _ e04 _ (Ex.refl _) _ fun H7 e7 => ?_
      refine ⟨sz_lt (by rw [List.length_map, List.length_take]; omega), ⟨_, rfl, fun z => ?_⟩, by omega, e4.trans e7, ?_⟩
      · have : xs.all b = false := List.all_eq_false.mpr ⟨_, hmem, by rw [z]; exact Bool.false_ne_true⟩
        rw [← this]
        exact q _ ((e13.trans e4).trans e7)
      · rw [htk, List.map_append]
        rfl
    · left
      have hin : i = xs.length := by omega
      subst hin
      refine ⟨⟨_, ex_l e04 hx, by rw [hxl]; exact Nat.le_refl _⟩, fun hno => ?_⟩
      rw [List.take_length] at hno
      have hr : xs.all b = true := by
        rw [List.all_eq_true]
        intro x hx2
        cases hb : b x with
        | true => rfl
        | false => exact absurd rfl (hno _ (List.mem_map.mpr ⟨x, hx2, by rw [hb]⟩))
      rw [← hr]
      exact q H' (e13.trans e4)
/-- all(b(k) for k in d) -/
theorem ev_allX {Pt d : Addr} {cm : List (Option Nat)} {own : List Nat} {kvs : List (List Key × L2.V)} (b : List Key → Bool) (h : Ev td σ H (.ref d)) (hd : DAt P w K H d kvs) (hn : kvs.length ≤ 90000) (tab : H Pt = some (TabX Pt))
    (hw : ∀ x, wipe ((captS cm σ).set 0 (some x)) own = captS cm σ) (he : ∀ kv ∈ kvs, ∀ q H1, Ex H H1 → SqT K H1 q (kv.1.map kV) → Ev te ((captS cm σ).set 0 (some (.ref q))) H1 (.bl (b kv.1))) :
    Ev (tAllG (tGx Pt (iDX P w td) (gName 0) tYes te cm own)) σ H (.bl (kvs.all fun kv => b kv.1)) := fun H1 e Q q =>
  h H1 e _ fun H3 e13 => by
    have e03 := e.trans e13
    obtain ⟨xs, o, ho, hk⟩ := hd
    have hl : xs.length = kvs.length := (Paired.length hk).symm
    have hks := isKeysX_of hk
    refine ⟨d, xs, o, rfl, e03 _ _ ho, e03 Pt _ tab, fun i m zs H' => m + i = kvs.length ∧ Ex H3 H' ∧ zs = (kvs.take i).map fun kv => L2.V.bl (b kv.1), ⟨kvs.length, by omega, Ex.refl _, rfl⟩, ?_⟩
    rintro i m zs H' ⟨hm, e4, rfl⟩
    have e04 := e03.trans e4
    by_cases hi : i < kvs.length
    · right
      refine ⟨⟨e04 _ _ ho, by rw [List.length_map]; omega⟩, fun zs H5 => (m - 1) + (i + 1) = kvs.length ∧ Ex H3 H5 ∧ zs = (kvs.take (i + 1)).map fun kv => L2.V.bl (b kv.1), fun zs H5 q => ⟨m - 1, by omega, q⟩, ?_⟩
      rintro v H5 ⟨rfl, c, hc, rfl⟩
      have hki : kvs[i]? = some kvs[i] := List.getElem?_eq_getElem hi
      have hmem : kvs[i] ∈ kvs := List.getElem_mem hi
      have hkc : SqT K H c (kvs[i].1.map kV) := pair_at hks hki hc
      have htk : kvs.take (i + 1) = kvs.take i ++ [kvs[i]] := (List.take_append_getElem hi).symm
      refine ⟨hw _, tt_yes ?_⟩
      refine he _ hmem c H5 e04 (ex_t e04 hkc) _ (Ex.refl _) _ fun H7 e7 => ?_
      refine ⟨sz_lt (by rw [List.length_map, List.length_take]; omega), ⟨_, rfl, fun z => ?_⟩, by omega, e4.trans e7, ?_⟩
      · have : (kvs.all fun kv => b kv.1) = false := List.all_eq_false.mpr ⟨_, hmem, by rw [z]; exact Bool.false_ne_true⟩
        rw [← this]
        exact q _ ((e13.trans e4).trans e7)
      · rw [htk, List.map_append]
        rfl
    · left
      have hin : i = kvs.length := by omega
      subst hin
      refine ⟨⟨e04 _ _ ho, by rw [List.length_map]; omega⟩, fun hno => ?_⟩
      rw [List.take_length] at hno
      have hr : (kvs.all fun kv => b kv.1) = true := by
        rw [List.all_eq_true]
        intro x hx2
        cases hb : b x.1 with
        | true => rfl
        | false => exact absurd rfl (hno _ (List.mem_map.mpr ⟨x, hx2, by rw [hb]⟩))
      rw [← hr]
      exact q H' (e13.trans e4)
end
end KC
set_option Elab.async false
set_option linter.all false
set_option maxRecDepth 100000
set_option maxHeartbeats 4000000
/-! {k: f(k) for k in d}, keys that are tuples. -/
namespace KC
open PySem PySem.Spec PyProof.Rows L2 StX GX Evl
theorem val_fresh {f : List Key → L2.V} : ∀ {ps : List (List Key × L2.V)} {k : List Key}, k ∉ ps.map (·.1) → valV (ps.map fun kv => (kv.1, f kv.1)) k = none
  | [], _, _ => rfl
  | p :: ps, k, h => by
    rw [List.map_cons, List.mem_cons] at h
    rw [List.map_cons, valV_neg (p := (p.1, f p.1)) (fun e => h (.inl e.symm))]
    exact val_fresh fun z => h (.inr z)
section
variable {P : Program} {w : World} {K : PySem.W.Frag} {σ : L2.St} {H : Hp} {D : Ends} {tz : TS} {td tk tv : TE}
theorem q_dcX {i j : Nat} {d : Addr} {vs : List Nat} {kvs : List (List Key × L2.V)} (f : List Key → L2.V) (h : Ev td σ H (.ref d)) (hd : DAt P w K H d kvs) (hn : kvs.length ≤ 90000) (hnd : (kvs.map (·.1)).Nodup)
    (hw : ∀ x, wipe ((wipe σ vs).set j (some x)) vs = wipe σ vs) (hk : ∀ q H1, Ex H H1 → Ev tk ((wipe σ vs).set j (some (.ref q))) H1 (.ref q))
    (he : ∀ kv ∈ kvs, ∀ q H1, Ex H H1 → SqT K H1 q (kv.1.map kV) → Ev tv ((wipe σ vs).set j (some (.ref q))) H1 (f kv.1))
    (k : ∀ p H1, H p = none → Ex H H1 → DAt P w K H1 p (kvs.map fun kv => (kv.1, f kv.1)) → tz D (σ.set i (some (.ref p))) H1) : tSeq (tAsg (tDcX P w K (iDX P w td) (gName j) tYes tk tv vs) (gName i)) tz D σ H := by
  refine h H (Ex.refl H) _ fun H1 e1 => ?_
  have hd1 := hd.ext e1
  obtain ⟨xs, o, ho, hkx⟩ := hd1
  have hl : xs.length = kvs.length := (Paired.length hkx).symm
  refine ⟨d, xs, o, rfl, ho, fun Dl hD => ⟨fun i m H' => m + i = kvs.length ∧ Ex H1 H' ∧ DAt P w K H' Dl ((kvs.take i).map fun kv => (kv.1, f kv.1)), ⟨kvs.length, by omega, Ex.new hD, ⟨[], newD, upd_same, .nil⟩⟩, ?_⟩⟩
  rintro i' m H' ⟨hm, e2, hda⟩
  by_cases hi : i' < kvs.length
  · right
    refine ⟨⟨e2 _ _ ho, by rw [List.length_map]; omega⟩, fun H5 => (m - 1) + (i' + 1) = kvs.length ∧ Ex H1 H5 ∧ DAt P w K H5 Dl ((kvs.take (i' + 1)).map fun kv => (kv.1, f kv.1)), fun H5 q => ⟨m - 1, by omega, q⟩, ?_⟩
    rintro v H5 ⟨rfl, c, hc, rfl⟩
    have hki : kvs[i']? = some kvs[i'] := List.getElem?_eq_getElem hi
    have hkc : SqT K H5 c (kvs[i'].1.map kV) := ex_t e2 (pair_at (isKeysX_of hkx) hki hc)
    have htk : kvs.take (i' + 1) = kvs.take i' ++ [kvs[i']] := (List.take_append_getElem hi).symm
    refine ⟨hw _, tt_yes (hk c H5 (e1.trans e2) H5 (Ex.refl _) _ fun H6 e6 => he _ (List.getElem_mem hi) c H5 (e1.trans e2) hkc H6 e6 _ fun H7 e7 => ?_)⟩
    have hfr : kvs[i'].1 ∉ (kvs.take i').map (·.1) := fun z => by
      have h2 := hnd
      rw [← List.take_append_drop i' kvs, List.drop_eq_getElem_cons hi, List.map_append, List.map_cons, List.nodup_append] at h2
      exact h2.2.2 _ z _ List.mem_cons_self rfl
    refine ⟨_, c, kvs[i'].1, rfl, hda.ext (e6.trans e7), ex_t (e6.trans e7) hkc, sz_lt (by rw [List.length_map, List.length_take]; omega), fun H8 d8 k8 => ⟨by omega, ex_but ((e2.trans e6).trans e7) hD k8, ?_⟩⟩
    rw [putK_new _ (val_fresh hfr)] at d8
    rw [htk, List.map_append]
    exact d8
  · left
    have hin : i' = kvs.length := by omega
    subst hin
    rw [List.take_length] at hda
    exact ⟨⟨e2 _ _ ho, by rw [List.length_map]; omega⟩, k Dl H' (fresh_back e1 hD) (e1.trans e2) hda⟩
end
end KC
set_option Elab.async false
set_option linter.all false
set_option maxRecDepth 100000
set_option maxHeartbeats 4000000
/-! [y for x in xs for y in f(x)], where f makes a new list of ints. -/
namespace KW
open PySem PySem.Spec PyProof.Rows L2 StX GX KC KQ Evl
section
variable {K : PySem.W.Frag} {σ : L2.St} {H : Hp} {tl ti : TE}
theorem el_lc2F {l : Addr} {j j1 : Nat} {vs vs1 : List Nat} {xs : List Int} (f : Int → List Int) (h : Ev tl σ H (.ref l)) (hx : SqL K H l (xs.map L2.V.int)) (hn : (xs.flatMap f).length ≤ 40000)
    (hw1 : ∀ x, wipe ((wipe σ vs).set j (some x)) vs = wipe σ vs) (hw2 : ∀ x y, wipe ((wipe ((wipe σ vs).set j (some x)) vs1).set j1 (some y)) vs1 = wipe ((wipe σ vs).set j (some x)) vs1)
    (hv : ∀ x y, ((wipe ((wipe σ vs).set j (some x)) vs1).set j1 (some y))[j1]? = some (some y)) (he : ∀ x ∈ xs, ∀ H1, Ex H H1 → EvL ti ((wipe σ vs).set j (some (.int x))) H1 ((f x).map L2.V.int)) :
    EvL (tLc2 (iList K tl) (gName j) tYes (iList K ti) (gName j1) tYes (tVar j1) vs vs1) σ H ((xs.flatMap f).map L2.V.int) := fun H0 e Q q => h H0 e _ fun Ht e1 => by
  have et := e.trans e1
  have hx' := ex_l et hx
  refine ⟨l, rfl, ⟨_, hx'⟩, fun D hD => ⟨fun i m H' => m + i = xs.length ∧ Ex Ht H' ∧ H' D = some (.lst (((xs.take i).flatMap f).map L2.V.int)), ⟨xs.length, by omega, Ex.new hD, upd_same⟩, ?_⟩⟩
  rintro i m H' ⟨hm, e3, hl⟩
  by_cases hi : i < xs.length
  · right
    have hat : (xs.map L2.V.int)[i]? = some (.int xs[i]) := by rw [List.getElem?_map, List.getElem?_eq_getElem hi]; rfl
    have htk : xs.take (i + 1) = xs.take i ++ [xs[i]] := (List.take_append_getElem hi).symm
    have hmem : xs[i] ∈ xs := List.getElem_mem hi
    have hsub : ((xs.take i).flatMap f).length + (f xs[i]).length ≤ 40000 := by
      have e : xs.flatMap f = (xs.take (i + 1)).flatMap f ++ (xs.drop (i + 1)).flatMap f := by rw [← List.flatMap_append, List.take_append_drop]
      rw [e, List.length_append, htk, List.flatMap_append, List.length_append] at hn
      simp only [List.flatMap_cons, List.flatMap_nil, List.append_nil] at hn
      omega
    generalize xs[i] = x0 at hat htk hmem hsub
    refine ⟨⟨_, _, ex_l e3 hx', hat⟩, fun H' => (m - 1) + (i + 1) = xs.length ∧ Ex Ht H' ∧ H' D = some (.lst (((xs.take (i + 1)).flatMap f).map L2.V.int)), fun H' q => ⟨m - 1, by omega, q⟩, ?_⟩
    rintro x H5 ⟨rfl, hxx⟩
    have ex1 := (Option.some.inj (hat.symm.trans (hxx _ (ex_l e3 hx')))).symm
    subst ex1
    refine ⟨hw1 _, tt_yes (he x0 hmem H5 (et.trans e3) H5 (Ex.refl _) _ fun r H6 hr e6 hrl => ?_)⟩
    have hrD : r ≠ D := fun z => by rw [z, hl] at hr; cases hr
    refine ⟨r, rfl, ⟨_, sq_of hrl⟩, fun j' k H' => k + j' = (f x0).length ∧ Ex Ht H' ∧ H' D = some (.lst (((xs.take i).flatMap f ++ (f x0).take j').map L2.V.int)) ∧ H' r = some (.lst ((f x0).map L2.V.int)), ⟨(f x0).length, by omega, e3.trans e6, by rw [List.take_zero, List.append_nil]; exact e6 _ _ hl, hrl⟩, ?_⟩
    rintro j' kk H7 ⟨hkk, e7, hl7, hr7⟩
    by_cases hj : j' < (f x0).length
    · right
      have hat2 : ((f x0).map L2.V.int)[j']? = some (.int (f x0)[j']) := by rw [List.getElem?_map, List.getElem?_eq_getElem hj]; rfl
      have htj : (f x0).take (j' + 1) = (f x0).take j' ++ [(f x0)[j']] := (List.take_append_getElem hj).symm
      refine ⟨⟨_, _, sq_of hr7, hat2⟩, fun H' => (kk - 1) + (j' + 1) = (f x0).length ∧ Ex Ht H' ∧ H' D = some (.lst (((xs.take i).flatMap f ++ (f x0).take (j' + 1)).map L2.V.int)) ∧ H' r = some (.lst ((f x0).map L2.V.int)), fun H' q => ⟨kk - 1, by omega, q⟩, ?_⟩
      rintro y H8 ⟨rfl, hxy⟩
      have ex2 := (Option.some.inj (hat2.symm.trans (hxy _ (sq_of hr7)))).symm
      subst ex2
      refine ⟨hw2 _ _, tt_yes ⟨_, hv _ _, _, hl7, sz_lt (by rw [List.length_map, List.length_append, List.length_take]; omega), by omega, Ex.mut e7 hD, ?_, by rw [upd_ne hrD]; exact hr7⟩⟩
      rw [upd_same, htj, ← List.append_assoc, List.map_append (l₁ := (xs.take i).flatMap f ++ (f x0).take j')]
      rfl
    · left
      have hjw : j' = (f x0).length := by omega
      subst hjw
      refine ⟨⟨_, sq_of hr7, by rw [List.length_map]; exact Nat.le_refl _⟩, by omega, e7, ?_⟩
      rw [List.take_length] at hl7
      rw [htk, List.flatMap_append]
      simp only [List.flatMap_cons, List.flatMap_nil, List.append_nil]
      exact hl7
  · left
    have hin : i = xs.length := by omega
    subst hin
    rw [List.take_length] at hl
    exact ⟨⟨_, ex_l e3 hx', by rw [List.length_map]; exact Nat.le_refl _⟩, q D H' (fresh_back e1 hD) (e1.trans e3) hl⟩
end
end KW
set_option Elab.async false
set_option linter.all false
set_option maxRecDepth 100000
set_option maxHeartbeats 4000000
/-! A list comprehension over enumerate(xs); a loop over zip(xs, ys). -/
namespace KW
open PySem PySem.Spec PyProof.Rows L2 StX GX KC KQ Evl
section
variable {K : PySem.W.Frag} {σ : L2.St} {H : Hp} {ta tb te : TE} {t : TT} {D : Ends} {tu tz : TS}
theorem el_lcEn {a : Addr} {xs : List L2.V} {j k : Nat} {vs : List Nat} (f : Nat → Bool) (v : Nat → L2.V) (h : Ev ta σ H (.ref a)) (hx : SqL K H a xs) (hz : xs.length ≤ 40000) (hw : ∀ x y, wipe (((wipe σ vs).set j (some x)).set k (some y)) vs = wipe σ vs)
    (ht : ∀ (i : Nat) (x : L2.V) H1, Ex H H1 → xs[i]? = some x → EvT t (((wipe σ vs).set j (some (.int (i : Int)))).set k (some x)) H1 (f i)) (he : ∀ (i : Nat) (x : L2.V) H1, Ex H H1 → xs[i]? = some x → f i = true → Ev te (((wipe σ vs).set j (some (.int (i : Int)))).set k (some x)) H1 (v i)) :
    EvL (tLc (iEnum K (tCons ta tNil)) (gTup K 2 (gCons (gName j) (gCons (gName k) gNil))) t te vs) σ H (given xs.length f v) := fun H0 e Q q => h H0 e _ fun H1 e1 => by
  have hx1 := ex_l (e.trans e1) hx
  refine ⟨a, xs, rfl, hx1, fun Dl hD => ⟨fun i m H' => m + i = xs.length ∧ Cw H1 f v Dl i H', ⟨xs.length, by omega, hD, Ex.new hD, upd_same⟩, ?_⟩⟩
  rintro i m H' ⟨hm, p⟩
  by_cases hi : i < xs.length
  · right
    have hat : xs[i]? = some xs[i] := List.getElem?_eq_getElem hi
    refine ⟨⟨xs, xs[i], ex_l p.2.1 hx1, hat⟩, fun H' => (m - 1) + (i + 1) = xs.length ∧ Cw H1 f v Dl (i + 1) H', fun H' q => ⟨m - 1, by omega, q⟩, ?_⟩
    rintro x H5 ⟨T, y, rfl, hT, rfl, hy⟩
    have ey := hy xs (ex_l p.2.1 hx1)
    have hne : Dl ≠ T := fun z => by rw [← z, p.2.2] at hT; cases hT
    have p2 : Cw H1 f v Dl i (upd H' T (.tup [.int (i : Nat), y])) := ⟨p.1, p.2.1.trans (Ex.new hT), by rw [upd_ne hne]; exact p.2.2⟩
    refine ⟨T, _, rfl, .inl (.inl upd_same), rfl, _, _, rfl, _, _, rfl, rfl, ?_⟩
    refine ⟨hw _ _, ?_⟩
    have c := cw_turn p2 (by omega) (ht i y H1 (e.trans e1) ey) (fun hf => he i y H1 (e.trans e1) ey hf)
    have hmm : (m - 1) + (i + 1) = xs.length := by omega
    simp only [hmm, true_and]
    exact c
  · left
    have hin : i = xs.length := by omega
    subst hin
    exact ⟨⟨xs, ex_l p.2.1 hx1, Nat.le_refl _⟩, q Dl H' (fresh_back e1 p.1) (e1.trans p.2.1) p.2.2⟩
theorem s_forZ {a b : Addr} {xs ys : List L2.V} {j k : Nat} (h : Ev ta σ H (.ref a)) (h2 : Ev tb σ H (.ref b)) (hx : SqL K H a xs) (hy : SqL K H b ys) (hl : xs.length = ys.length) (Pv : Nat → L2.St → Hp → Prop) (h0 : ∀ H1, Ex H H1 → Pv 0 σ H1) (hq : ∀ i σ' H', Pv i σ' H' → SqL K H' a xs ∧ SqL K H' b ys)
    (hs : ∀ i x y σ' H' H2, xs[i]? = some x → ys[i]? = some y → Pv i σ' H' → Ex H' H2 → tu { D with nx := Pv (i + 1), ct := Pv (i + 1), bk := D.nx } ((σ'.set j (some x)).set k (some y)) H2) (hd : ∀ σ' H', Pv xs.length σ' H' → D.nx σ' H') :
    tFor (iZip K (tCons ta (tCons tb tNil))) (gTup K 2 (gCons (gName j) (gCons (gName k) gNil))) tu D σ H :=
  h H (Ex.refl H) _ fun H1 e1 => h2 H1 e1 _ fun H2 e2 => ⟨a, b, xs, ys, rfl, ex_l (e1.trans e2) hx, ex_l (e1.trans e2) hy, _root_.RZ.for_zipL hl Pv (h0 H2 (e1.trans e2)) (fun i σ' H' p => hq i σ' H' p) (fun i x y T σ' H' g1 g2 p hT => ⟨T, _, rfl, .inl (.inl upd_same), rfl, _, _, rfl, _, _, rfl, rfl, hs i x y σ' H' _ g1 g2 p (Ex.new hT)⟩) hd⟩
theorem q_forZ {a b : Addr} {xs ys : List L2.V} {j k : Nat} (h : Ev ta σ H (.ref a)) (h2 : Ev tb σ H (.ref b)) (hx : SqL K H a xs) (hy : SqL K H b ys) (hl : xs.length = ys.length) (Pv : Nat → L2.St → Hp → Prop) (h0 : ∀ H1, Ex H H1 → Pv 0 σ H1) (hq : ∀ i σ' H', Pv i σ' H' → SqL K H' a xs ∧ SqL K H' b ys)
    (hs : ∀ i x y σ' H' H2, xs[i]? = some x → ys[i]? = some y → Pv i σ' H' → Ex H' H2 → tu { D with nx := Pv (i + 1), ct := Pv (i + 1), bk := tz D } ((σ'.set j (some x)).set k (some y)) H2) (hd : ∀ σ' H', Pv xs.length σ' H' → tz D σ' H') :
    tSeq (tFor (iZip K (tCons ta (tCons tb tNil))) (gTup K 2 (gCons (gName j) (gCons (gName k) gNil))) tu) tz D σ H := s_forZ (D := { D with nx := tz D }) h h2 hx hy hl Pv h0 hq hs hd
end
end KW
set_option Elab.async false
set_option linter.all false
set_option maxRecDepth 100000
set_option maxHeartbeats 4000000
/-! A call of a local name that holds one of several defs; a list of new lists; min and index of a list of ints. -/
namespace KW
open PySem PySem.Spec PyProof.Rows L2 StX GX KC KQ Evl
structure HeldX (CX : CXT) (P : Program) (w : World) (K : PySem.W.Frag) (mg : Str → Option Value) (base : Heap) (k : Nat) (f : Addr) (sp : Sp) : Prop where
  ex : ∃ (fd : FuncData) (ps : List Str), FnOk P w K mg base CX k f fd ps sp ∧ PySem.W.keepIn K (.ref f) = true ∧ Binds K fd ps []
/-- the i-th slot holds a def; S tells its promise -/
def tCallR (i : Nat) (S : Addr → Sp → Prop) (E : XK) (t : TA) : TE := fun σ H Q => ∃ f sp, σ[i]? = some (some (.ref f)) ∧ S f sp ∧ t σ H fun vs H1 => sp (vs ++ []) H1 Q E
theorem pe_callR {X : Cx} {CX : CXT} {k i : Nat} {x : Str} {p pos : Pos} {e : Expr} {es : List Expr} {t : TA} {E : XK} {S : Addr → Sp → Prop} (A : ∀ f sp, S f sp → HeldX CX X.prog X.w X.K X.mg X.base k f sp) (hr : Room k X.A) (hx : Passes CX X E) (ha : PA X (e :: es) t)
    (hN : X.N[i]? = some x := by rfl) (hv : Vis X.env.scope x := by first | exact Or.inl rfl | exact Or.inr (Or.inl rfl) | exact Or.inr (Or.inr rfl))
    (hdb : (x == ("__debug__" : Str)) = false := by decide) (hcd : (x == ("__classdict__" : Str)) = false := by decide)
    (he : starEach (e :: es) X.env = (false, eval e X.env) :: starEach es X.env := by rfl) (hpl : (backTo pos (starEach es X.env)).any (·.1) = false := by rfl) : PE X (.Call (.Name x p) (e :: es) [] pos) (tCallR i S E t) := by
  refine ⟨fun pins s σ H Q I h => ?_⟩
  obtain ⟨f, sp, hs, hS, ht⟩ := h
  obtain ⟨fd, ps, F, hk, hb⟩ := (A f sp hS).ex
  exact (pe_callL (i := i) (f := f) (sp := sp) (dvs := []) (E := E) F hr hN hv hk hb .nil hx ha hdb hcd he hpl).run pins s σ H Q I ⟨hs, ht⟩
theorem pi_listK {X : Cx} {K : PySem.W.Frag} {tg l : Expr} {tl : TE} (h : X.K = K) (hl : PE X l tl) : PI X tg l (iList K tl) := by
  subst h
  exact pi_list hl
section
variable {K : PySem.W.Frag} {σ : L2.St} {H H' : Hp} {ta tb te : TE}
theorem el_callR {i : Nat} {S : Addr → Sp → Prop} {E : XK} {t : TA} {f : Addr} {sp : Sp} {vs zs : List V} (hs : σ[i]? = some (some (.ref f))) (hS : S f sp) (h : EvA t σ H vs) (hp : SpL sp (vs ++ []) H zs) : EvL (tCallR i S E t) σ H zs := fun H1 e Q q =>
  ⟨f, sp, hs, hS, h H1 e _ fun H2 e2 => hp H2 (e.trans e2) Q (fun p H3 hp3 e3 h3 => q p H3 (fresh_back e2 hp3) (e2.trans e3) h3) E⟩
theorem ev_lenT {p : Addr} {xs : List V} (ha : Ev ta σ H (.ref p)) (h : SqT K H p xs) : Ev (tCB (rLenS K) (tCons ta tNil)) σ H (.int (xs.length : Int)) := fun H1 e Q q =>
  ha H1 e _ fun H2 e2 => ⟨p, xs, rfl, .inr (ex_t (e.trans e2) h), q H2 e2⟩
/-- [f(i) for i in range(n)], where f makes a new list of ints -/
theorem ep_lcLL {ta : TA} {j n : Nat} {vs : List Nat} (c : Nat → List Int) (h : EvA ta σ H [.int (n : Int)]) (hn : n ≤ 40000) (hw : ∀ x, wipe ((wipe σ vs).set j (some x)) vs = wipe σ vs)
    (he : ∀ (i : Nat) H1, Ex H H1 → i < n → EvL te ((wipe σ vs).set j (some (.int (i : Int)))) H1 ((c i).map V.int)) : EvP (tLc (iRng1 ta) (gName j) tYes te vs) σ H fun v H' => ∃ p, v = .ref p ∧ H p = none ∧ LL H' p ((List.range n).map c) :=
  ep_lcR1 h hn hw (fun H1 Dl i H' => H Dl = none ∧ Ex H1 H' ∧ LL H' Dl ((List.range i).map c)) (fun H1 Dl e hD => ⟨fresh_back e hD, Ex.new hD, [], upd_same, rfl, fun j r c hr => by simp at hr⟩)
    (fun H1 Dl i H' e hD hi ⟨h0, e1, rs, h1, h2, h3⟩ => he i H' (e.trans e1) hi H' (Ex.refl _) _ fun r H4 hr e4 h4 => by
      have hrD : r ≠ Dl := fun z => by rw [z, h1] at hr; cases hr
      rw [List.length_map, List.length_range] at h2
      refine ⟨rs.map V.ref, e4 _ _ h1, sz_lt (by rw [List.length_map]; omega), h0, Ex.mut (e1.trans e4) hD, rs ++ [r], by rw [upd_same, List.map_append] <;> rfl, by rw [List.length_append, List.length_map, List.length_range, h2] <;> rfl, fun j r2 c2 hr2 hc2 => ?_⟩
      rw [List.range_succ, List.map_append] at hc2
      by_cases z : j < i
      · rw [List.getElem?_append_left (by omega)] at hr2
        rw [List.getElem?_append_left (by rw [List.length_map, List.length_range]; exact z)] at hc2
        have h5 := e4 _ _ (h3 j r2 c2 hr2 hc2)
        have hne : r2 ≠ Dl := fun y => by
          have h6 := h3 j r2 c2 hr2 hc2
          rw [y, h1] at h6
          have h7 := (Option.some.inj h6)
          injection h7 with h7
          cases rs with
          | nil => simp at hr2
          | cons a rs =>
            cases c2 with
            | nil => simp at h7
            | cons b c2 => simp at h7
        rw [upd_ne hne]
        exact h5
      · have hj : j = i := by
          have := (List.getElem?_eq_some_iff.mp hr2).1
          rw [List.length_append] at this
          simp at this
          omega
        subst hj
        rw [List.getElem?_append_right (by omega), h2, Nat.sub_self] at hr2
        rw [List.getElem?_append_right (by rw [List.length_map, List.length_range]; omega), List.length_map, List.length_range, Nat.sub_self] at hc2
        cases hr2
        cases hc2
        rw [upd_ne hrD]
        exact h4) (fun H1 Dl H' e hD ⟨h0, e1, h2⟩ => ⟨e1, Dl, rfl, h0, h2⟩)
theorem ev_minL {l : Addr} {ls : List Int} {m : Int} (h : Ev ta σ H (.ref l)) (hs : SqL K H l (ls.map V.int)) (hm : m ∈ ls) (hall : ∀ y ∈ ls, m ≤ y) : Ev (tCB (rMin K) (tCons ta tNil)) σ H (.int m) := fun H1 e Q q =>
  h H1 e _ fun H2 e2 => ⟨l, ls, rfl, ex_l (e.trans e2) hs, List.length_pos_of_mem hm, fun n hn hal => by
    have h1 := hal m hm
    have h2 := hall n hn
    have : n = m := by omega
    subst this
    exact q H2 e2⟩
theorem ev_idxI {l : Addr} {ls : List Int} {m : Int} {j : Nat} (h : Ev ta σ H (.ref l)) (hs : SqL K H l (ls.map V.int)) (h2 : Ev tb σ H (.int m)) (hj : ls[j]? = some m) (hno : ∀ i x, i < j → ls[i]? = some x → x ≠ m) : Ev (tBM K "list" (rIndex K) ta (tCons tb tNil)) σ H (.int (j : Int)) := fun H1 e Q q =>
  h H1 e _ fun H2 e2 => ⟨Or.inl ⟨rfl, _, ex_l (e.trans e2) hs⟩, h2 H2 (e.trans e2) _ fun H3 e3 => ⟨l, ls.map V.int, .int m, j, .int m, rfl, rfl, ex_l ((e.trans e2).trans e3) hs, rfl, by rw [List.all_map]; exact List.all_eq_true.mpr fun x _ => rfl, by rw [List.getElem?_map, hj]; rfl, by simp [eqV], fun i z hi hz => by
    rw [List.getElem?_map] at hz
    cases hx : ls[i]? with
    | none => rw [hx] at hz; cases hz
    | some x =>
      rw [hx] at hz
      cases hz
      have := hno i x hi hx
      simp [eqV, this], q H3 (e2.trans e3)⟩⟩
end
end KW
set_option Elab.async false
set_option linter.all false
set_option maxRecDepth 100000
set_option maxHeartbeats 4000000
/-! dicts whose keys are made on the spot; a dict over a range; list < list. -/
namespace KC
open PySem PySem.Spec PyProof.Rows L2 StX GX Evl
section
variable {P : Program} {w : World} {K : PySem.W.Frag} {σ : L2.St} {H H' : Hp} {td ty tv tk ta tb te tl : TE} {D : Ends} {tz tu : TS} {a b : Addr} {kvs ls : List (List Key × L2.V)} {k : List Key} {v : L2.V}
theorem ev_dgxU {ys : List L2.V} (h1 : Ev td σ H (.ref a)) (h2 : EvU ty σ H ys) (ek : ys = k.map kV) (g : DAt P w K H a kvs) (l : valV kvs k = some v) : Ev (tDGetX P w K td ty) σ H v := fun H1 e Q q => by
  subst ek
  exact h1 H1 e _ fun H2 e2 => h2 H2 (e.trans e2) _ fun p H3 _ e3 hx => ⟨a, kvs, p, k, v, rfl, rfl, g.ext ((e.trans e2).trans e3), st_of hx, l, q H3 (e2.trans e3)⟩
theorem s_dputU {ys : List L2.V} (h : Ev tv σ H v) (h1 : Ev td σ H (.ref a)) (h2 : EvU ty σ H ys) (ek : ys = k.map kV) (g : DAt P w K H a kvs) (hl : kvs.length < 100000)
    (q : ∀ H1 H2, Ex H H1 → DAt P w K H2 a (putK kvs k v) → (∀ c, c ≠ a → H2 c = H1 c) → D.nx σ H2) : sDPutX P w K td ty tv D σ H := by
  subst ek
  exact h H (Ex.refl H) _ fun H1 e1 => h1 H1 e1 _ fun H2 e2 => h2 H2 (e1.trans e2) _ fun p H3 _ e3 hx => ⟨a, kvs, p, k, rfl, rfl, g.ext ((e1.trans e2).trans e3), st_of hx, sz_lt hl, fun H4 hd hk => q H3 H4 ((e1.trans e2).trans e3) hd hk⟩
theorem q_dputU {ys : List L2.V} (h : Ev tv σ H v) (h1 : Ev td σ H (.ref a)) (h2 : EvU ty σ H ys) (ek : ys = k.map kV) (g : DAt P w K H a kvs) (hl : kvs.length < 100000)
    (q : ∀ H1 H2, Ex H H1 → DAt P w K H2 a (putK kvs k v) → (∀ c, c ≠ a → H2 c = H1 c) → tz D σ H2) : tSeq (sDPutX P w K td ty tv) tz D σ H := s_dputU (D := { D with nx := tz D }) h h1 h2 ek g hl q
theorem q_dcR {i j : Nat} {vs : List Nat} {ta : TA} {n : Nat} {z : Int} (key : Nat → List Key) (val : Nat → L2.V) (h : EvA ta σ H [.int z]) (ez : z = (n : Int)) (hn : n ≤ 40000) (hinj : ∀ a b, a < n → b < n → key a = key b → a = b)
    (hw : ∀ x, wipe ((wipe σ vs).set j (some x)) vs = wipe σ vs) (hk : ∀ (i : Nat) H1, Ex H H1 → i < n → EvU tk ((wipe σ vs).set j (some (.int (i : Int)))) H1 ((key i).map kV)) (he : ∀ (i : Nat) H1, Ex H H1 → i < n → Ev tv ((wipe σ vs).set j (some (.int (i : Int)))) H1 (val i))
    (k : ∀ p H1, H p = none → Ex H H1 → DAt P w K H1 p ((List.range n).map fun i => (key i, val i)) → tz D (σ.set i (some (.ref p))) H1) : tSeq (tAsg (tDcX P w K (iRng1 ta) (gName j) tYes tk tv vs) (gName i)) tz D σ H := by
  subst ez
  refine h H (Ex.refl H) _ fun H1 e1 => ?_
  refine ⟨(n : Int), rfl, by omega, by omega, fun Dl hD => ⟨fun i m H' => m + i = n ∧ Ex H1 H' ∧ DAt P w K H' Dl ((List.range i).map fun i => (key i, val i)), ⟨n, by omega, Ex.new hD, ⟨[], newD, upd_same, .nil⟩⟩, ?_⟩⟩
  rintro i' m H' ⟨hm, e2, hda⟩
  by_cases hi : i' < n
  · right
    refine ⟨by show i' < ((n : Int)).toNat; omega, fun H5 => (m - 1) + (i' + 1) = n ∧ Ex H1 H5 ∧ DAt P w K H5 Dl ((List.range (i' + 1)).map fun i => (key i, val i)), fun H5 q => ⟨m - 1, by omega, q⟩, ?_⟩
    rintro v H5 ⟨rfl, rfl⟩
    have e0 : (0 : Int) + (i' : Int) = (i' : Int) := Int.zero_add _
    rw [e0]
    refine ⟨hw _, tt_yes (hk i' H5 (e1.trans e2) hi H5 (Ex.refl _) _ fun p H6 hp e6 h6 => he i' H5 (e1.trans e2) hi H6 e6 _ fun H7 e7 => ?_)⟩
    have hfr : valV ((List.range i').map fun i => (key i, val i)) (key i') = none := by
      rw [valV, List.find?_eq_none.mpr]
      · rfl
      · intro x hx
        obtain ⟨a, ha, rfl⟩ := List.mem_map.mp hx
        have ha2 := List.mem_range.mp ha
        simp only [decide_eq_true_eq]
        intro z
        have := hinj a i' (by omega) hi z
        omega
    refine ⟨_, p, key i', rfl, hda.ext (e6.trans e7), st_of (e7 _ _ h6), sz_lt (by rw [List.length_map, List.length_range]; omega), fun H8 d8 k8 => ⟨by omega, ex_but ((e2.trans e6).trans e7) hD k8, ?_⟩⟩
    rw [putK_new _ hfr] at d8
    rw [List.range_succ, List.map_append]
    exact d8
  · left
    have hin : i' = n := by omega
    subst hin
    exact ⟨by show ((i' : Int)).toNat ≤ i'; omega, k Dl H' (fresh_back e1 hD) (e1.trans e2) hda⟩
end
/-! list < list -/
def rLtL (K : PySem.W.Frag) : R2 := fun x y H Q => ∃ a b ns ms, x = .ref a ∧ y = .ref b ∧ SqL K H a (ns.map V.int) ∧ SqL K H b (ms.map V.int) ∧ Q (.bl (HT.lexLt ns ms)) H
theorem lex_first : ∀ (ns ms : List Int), PySem.SeqAt.firstLt (fun j => decide (ns.getD j 0 = ms.getD j 0)) (fun j => decide (ns.getD j 0 < ms.getD j 0)) (decide (ns.length < ms.length)) (List.range (min ns.length ms.length)) = HT.lexLt ns ms := by
  have gen : ∀ (k : Nat) (ns ms : List Int) (i : Nat), min ns.length ms.length - i = k → i ≤ min ns.length ms.length → PySem.SeqAt.firstLt (fun j => decide (ns.getD j 0 = ms.getD j 0)) (fun j => decide (ns.getD j 0 < ms.getD j 0)) (decide (ns.length < ms.length)) ((List.range (min ns.length ms.length)).drop i) = HT.lexLt (ns.drop i) (ms.drop i) := by
    intro k
    induction k with
    | zero =>
      intro ns ms i h1 h2
      have hi : i = min ns.length ms.length := by omega
      rw [List.drop_of_length_le (by rw [List.length_range]; omega)]
      show decide (ns.length < ms.length) = _
      by_cases z : ns.length < ms.length
      · rw [decide_eq_true z, List.drop_of_length_le (show ns.length ≤ i by omega), List.drop_eq_getElem_cons (show i < ms.length by omega)]
        rfl
      · rw [decide_eq_false z, List.drop_of_length_le (show ms.length ≤ i by omega)]
        cases ns.drop i <;> rfl
    | succ k ih =>
      intro ns ms i h1 h2
      have hm : i < min ns.length ms.length := by omega
      have ha : i < ns.length := by omega
      have hb : i < ms.length := by omega
      have hd : (List.range (min ns.length ms.length)).drop i = i :: (List.range (min ns.length ms.length)).drop (i + 1) := by simp [List.drop_eq_getElem_cons, hm]
      have ga : ns.getD i 0 = ns[i] := by rw [List.getD_eq_getElem?_getD, List.getElem?_eq_getElem ha] <;> rfl
      have gb : ms.getD i 0 = ms[i] := by rw [List.getD_eq_getElem?_getD, List.getElem?_eq_getElem hb] <;> rfl
      rw [hd, List.drop_eq_getElem_cons ha, List.drop_eq_getElem_cons hb, HT.lexLt_cons]
      by_cases z : ns[i] = ms[i]
      · rw [if_pos z, PySem.SeqAt.firstLt_yes (by show decide (ns.getD i 0 = ms.getD i 0) = true; rw [ga, gb]; exact decide_eq_true z)]
        exact ih ns ms (i + 1) (by omega) (by omega)
      · rw [if_neg z, PySem.SeqAt.firstLt_no (by show decide (ns.getD i 0 = ms.getD i 0) = false; rw [ga, gb]; exact decide_eq_false z)]
        show decide (ns.getD i 0 < ms.getD i 0) = _
        rw [ga, gb]
  intro ns ms
  have := gen _ ns ms 0 rfl (Nat.zero_le _)
  rwa [List.drop_zero, List.drop_zero, List.drop_zero] at this
theorem ints_get {vs : List Value} {ns : List Int} (h : IntsAre vs ns) : ∀ j, (hj : j < vs.length) → ∃ t, vs[j] = .int (ns.getD j 0) t := by
  induction h with
  | nil => intro j hj; cases hj
  | cons a t r ih =>
    intro j hj
    cases j with
    | zero => exact ⟨t, rfl⟩
    | succ j => exact ih j (by simpa using hj)
section
variable {X : Cx}
theorem op_ltL (hu : X.A.units < cLine) : OpR X (compareOp .Lt) (rLtL X.K) := by
  intro pins s σ H x y v u Q I rx ry h
  obtain ⟨a, b, ns, ms, rfl, rfl, ha, hb, q⟩ := h
  cases rx
  cases ry
  obtain ⟨its, r1, ⟨o1, n1, g1, c1, _, d1⟩, _⟩ := I.list ha
  obtain ⟨its2, r2, ⟨o2, n2, g2, c2, _, d2⟩, _⟩ := I.list hb
  have i1 : IntsAre its ns := by have := intsAre_of r1; exact this
  have i2 : IntsAre its2 ms := by have := intsAre_of r2; exact this
  have l1 := i1.length
  have l2 := i2.length
  have hr := PySem.SeqAt.RcLt.lists (A := X.A) (s := s) (l := a) (b := b) (items := its.toArray) (items2 := its2.toArray) (e := fun j => decide (ns.getD j 0 = ms.getD j 0)) (r := fun j => decide (ns.getD j 0 < ms.getD j 0)) ⟨o1, g1, c1, n1, d1⟩ ⟨o2, g2, c2, n2, d2⟩ hu
    (fun j h1 h2 => by
      obtain ⟨t1, e1⟩ := ints_get i1 j (by simpa using h1)
      obtain ⟨t2, e2⟩ := ints_get i2 j (by simpa using h2)
      have f1 : its.toArray[j] = .int (ns.getD j 0) t1 := by simpa using e1
      have f2 : its2.toArray[j] = .int (ms.getD j 0) t2 := by simpa using e2
      rw [f1, f2]
      obtain ⟨e, he, hiff⟩ := HT.eqAt_int X.A.in1 s (ns.getD j 0) t1 (ms.getD j 0) t2
      have : e = decide (ns.getD j 0 = ms.getD j 0) := by
        rw [Bool.eq_iff_iff, hiff, decide_eq_true_iff]
      rwa [← this])
    (fun j h1 h2 _ => by
      obtain ⟨t1, e1⟩ := ints_get i1 j (by simpa using h1)
      obtain ⟨t2, e2⟩ := ints_get i2 j (by simpa using h2)
      have f1 : its.toArray[j] = .int (ns.getD j 0) t1 := by simpa using e1
      have f2 : its2.toArray[j] = .int (ms.getD j 0) t2 := by simpa using e2
      rw [f1, f2]
      exact fun prog w E Q h => HT.rcLt_int X.A.in1 s (ns.getD j 0) t1 (ms.getD j 0) t2 prog w E Q h)
  refine hr _ _ _ _ ?_
  have e1 : its.toArray.size = ns.length := by simpa using l1
  have e2 : its2.toArray.size = ms.length := by simpa using l2
  rw [e1, e2, lex_first]
  exact ⟨.bl (HT.lexLt ns ms), H, I, rfl, q⟩
end
section
variable {K : PySem.W.Frag} {σ : L2.St} {H : Hp} {ta tb : TE}
theorem rv_ltL {a b : Addr} {ns ms : List Int} (ha : SqL K H a (ns.map V.int)) (hb : SqL K H b (ms.map V.int)) : RV (rLtL K) (.ref a) (.ref b) H (.bl (HT.lexLt ns ms)) := fun H1 e _ q => ⟨a, b, ns, ms, rfl, rfl, ex_l e ha, ex_l e hb, q H1 (Ex.refl H1)⟩
end
end KC
set_option linter.all false
/-! Packages: the first 2n - 2 items of the last row are a code of least cost. -/
namespace M05
open M04
abbrev Pkg := Int × List Int
def wt (xs : List Pkg) : Int := (xs.map (·.1)).sum
def Asc (xs : List Pkg) : Prop := xs.Pairwise fun a b => a.1 ≤ b.1
def pk : List Pkg → List Pkg
  | x :: y :: r => (x.1 + y.1, x.2 ++ y.2) :: pk r
  | _ => []
def coin (ws : List Int) (i : Nat) : Pkg := (ws.getD i 0, [(i : Int)])
def coins (ws : List Int) : List Pkg := (List.range ws.length).map (coin ws)
inductive Row (ws : List Int) : Nat → List Pkg → Prop
  | zero : Row ws 0 []
  | more {k : Nat} {R ys : List Pkg} : Row ws k R → ys.Perm (coins ws ++ pk R) → Asc ys → Row ws (k + 1) ys
theorem wt_cons (x : Pkg) (xs : List Pkg) : wt (x :: xs) = x.1 + wt xs := by
  unfold wt; rw [List.map_cons, List.sum_cons]
theorem wt_app (a b : List Pkg) : wt (a ++ b) = wt a + wt b := by
  unfold wt; rw [List.map_append, List.sum_append]
theorem wt_perm {a b : List Pkg} (h : a.Perm b) : wt a = wt b := sum_perm (h.map _)
theorem wt_nn : ∀ {xs : List Pkg}, (∀ x ∈ xs, 0 ≤ x.1) → 0 ≤ wt xs
  | [], _ => by simp [wt]
  | x :: xs, h => by
    rw [wt_cons]
    have := wt_nn (xs := xs) fun y hy => h y (List.mem_cons_of_mem _ hy)
    have := h x List.mem_cons_self
    omega
theorem perm_split {x : Pkg} {l : List Pkg} (h : x ∈ l) : ∃ r, l.Perm (x :: r) := by
  obtain ⟨s, t, e⟩ := List.append_of_mem h
  exact ⟨s ++ t, by rw [e]; exact List.perm_middle⟩
/-- the first items of an ascending list weigh least -/
theorem pre_le : ∀ (ys zs r : List Pkg), Asc ys → (zs ++ r).Perm ys → wt (ys.take zs.length) ≤ wt zs
  | ys, [], r, _, _ => by simp [wt]
  | [], z :: zs, r, _, hp => by
    have := hp.length_eq
    simp at this
  | y :: ys, z :: zs, r, ha, hp => by
    have ha' := List.pairwise_cons.mp ha
    have hy : y ∈ (z :: zs) ++ r := hp.mem_iff.mpr List.mem_cons_self
    rcases List.mem_append.mp hy with h | h
    · obtain ⟨q, hq⟩ := perm_split h
      have h1 : (y :: (q ++ r)).Perm (y :: ys) := ((hq.append_right r).symm).trans hp
      have h2 := pre_le ys q r ha'.2 (List.Perm.cons_inv h1)
      have h3 := hq.length_eq
      rw [h3, List.length_cons, List.take_succ_cons, wt_cons, wt_perm hq, wt_cons]
      omega
    · obtain ⟨q, hq⟩ := perm_split h
      have h1 : (y :: (z :: zs ++ q)).Perm (y :: ys) := ((List.perm_middle).symm.trans ((List.Perm.append_left (z :: zs) hq).symm)).trans hp
      have h4 := List.Perm.cons_inv h1
      have h5 : (zs ++ z :: q).Perm ys := List.perm_middle.trans h4
      have h2 := pre_le ys zs (z :: q) ha'.2 h5
      have hz : z ∈ y :: ys := hp.mem_iff.mp (by simp)
      have h6 : y.1 ≤ z.1 := by
        rcases List.mem_cons.mp hz with e | e
        · rw [e]; exact Int.le_refl _
        · exact ha'.1 z e
      rw [List.length_cons, List.take_succ_cons, wt_cons, wt_cons]
      omega
theorem pk_len : ∀ R : List Pkg, (pk R).length = R.length / 2
  | [] => rfl
  | [_] => by simp [pk]
  | x :: y :: r => by
    have := pk_len r
    unfold pk
    simp only [List.length_cons]
    omega
theorem pk_take : ∀ (R : List Pkg) (p : Nat), 2 * p ≤ R.length → pk (R.take (2 * p)) = (pk R).take p
  | R, 0, _ => by simp [pk]
  | [], p + 1, h => by simp at h
  | [_], p + 1, h => by simp at h; omega
  | x :: y :: r, p + 1, h => by
    simp only [List.length_cons] at h
    have := pk_take r p (by omega)
    rw [show 2 * (p + 1) = 2 * p + 1 + 1 by omega, List.take_succ_cons, List.take_succ_cons]
    show (x.1 + y.1, x.2 ++ y.2) :: pk (r.take (2 * p)) = ((x.1 + y.1, x.2 ++ y.2) :: pk r).take (p + 1)
    rw [this, List.take_succ_cons]
theorem pk_wt : ∀ (R : List Pkg), R.length % 2 = 0 → wt (pk R) = wt R
  | [], _ => rfl
  | [_], h => by simp at h
  | x :: y :: r, h => by
    have := pk_wt r (by simp only [List.length_cons] at h; omega)
    show wt ((x.1 + y.1, x.2 ++ y.2) :: pk r) = _
    rw [wt_cons, wt_cons, wt_cons, this]
    show x.1 + y.1 + wt r = _
    omega
theorem pk_nn : ∀ (R : List Pkg), (∀ x ∈ R, 0 ≤ x.1) → ∀ x ∈ pk R, 0 ≤ x.1
  | [], _, x, hx => by simp [pk] at hx
  | [_], _, x, hx => by simp [pk] at hx
  | a :: b :: r, h, x, hx => by
    rcases List.mem_cons.mp hx with e | e
    · rw [e]
      have h1 := h a (by simp)
      have h2 := h b (by simp)
      show 0 ≤ a.1 + b.1
      omega
    · exact pk_nn r (fun y hy => h y (by simp [hy])) x e
theorem row_len {ws : List Int} {k : Nat} {R : List Pkg} (h : Row ws k R) : k = 0 ∧ R = [] ∨ ∃ k' R', k = k' + 1 ∧ Row ws k' R' ∧ R.length = ws.length + R'.length / 2 := by
  cases h with
  | zero => exact .inl ⟨rfl, rfl⟩
  | more h1 h2 h3 =>
    refine .inr ⟨_, _, rfl, h1, ?_⟩
    rw [h2.length_eq, List.length_append, pk_len]
    unfold coins
    rw [List.length_map, List.length_range]
theorem row_nn {ws : List Int} (h0 : ∀ i, 0 ≤ ws.getD i 0) {k : Nat} {R : List Pkg} (h : Row ws k R) : ∀ x ∈ R, 0 ≤ x.1 := by
  induction h with
  | zero => intro x hx; simp at hx
  | more _ h2 _ ih =>
    intro x hx
    rcases List.mem_append.mp (h2.mem_iff.mp hx) with z | z
    · obtain ⟨i, _, e⟩ := List.mem_map.mp z
      rw [← e]
      exact h0 i
    · exact pk_nn _ ih x z
theorem take_le {R : List Pkg} (h : ∀ x ∈ R, 0 ≤ x.1) {a b : Nat} (hab : a ≤ b) : wt (R.take a) ≤ wt (R.take b) := by
  have e : (R.take b) = R.take a ++ (R.take b).drop a := by
    have h1 := List.take_append_drop a (R.take b)
    rw [List.take_take, Nat.min_eq_left hab] at h1
    exact h1.symm
  rw [e, wt_app]
  have := wt_nn (xs := (R.take b).drop a) fun x hx => h x (List.mem_of_mem_take (List.mem_of_mem_drop hx))
  omega
/-! ### any code costs at least as much -/
def sI (n : Nat) (f : Nat → Int) : Int := ((List.range n).map f).sum
def sN (n : Nat) (f : Nat → Nat) : Nat := ((List.range n).map f).sum
theorem sI_succ (n : Nat) (f : Nat → Int) : sI (n + 1) f = sI n f + f n := by
  unfold sI; rw [List.range_succ, List.map_append, List.sum_append]; simp
theorem sN_succ (n : Nat) (f : Nat → Nat) : sN (n + 1) f = sN n f + f n := by
  unfold sN; rw [List.range_succ, List.map_append, List.sum_append]; simp
theorem sI_add (f g : Nat → Int) : ∀ n, sI n (fun i => f i + g i) = sI n f + sI n g
  | 0 => rfl
  | n + 1 => by rw [sI_succ, sI_succ, sI_succ, sI_add f g n]; omega
theorem sN_add (f g : Nat → Nat) : ∀ n, sN n (fun i => f i + g i) = sN n f + sN n g
  | 0 => rfl
  | n + 1 => by rw [sN_succ, sN_succ, sN_succ, sN_add f g n]; omega
theorem sN_mul (c : Nat) (f : Nat → Nat) : ∀ n, sN n (fun i => f i * c) = sN n f * c
  | 0 => by simp [sN]
  | n + 1 => by rw [sN_succ, sN_succ, sN_mul c f n, Nat.add_mul]
theorem sN_le {f g : Nat → Nat} : ∀ n, (∀ i, i < n → f i ≤ g i) → sN n f ≤ sN n g
  | 0, _ => Nat.le_refl _
  | n + 1, h => by
    rw [sN_succ, sN_succ]
    have := sN_le n fun i hi => h i (by omega)
    have := h n (by omega)
    omega
theorem sI_congr {f g : Nat → Int} : ∀ n, (∀ i, i < n → f i = g i) → sI n f = sI n g
  | 0, _ => rfl
  | n + 1, h => by rw [sI_succ, sI_succ, sI_congr n fun i hi => h i (by omega), h n (by omega)]
theorem sN_congr {f g : Nat → Nat} : ∀ n, (∀ i, i < n → f i = g i) → sN n f = sN n g
  | 0, _ => rfl
  | n + 1, h => by rw [sN_succ, sN_succ, sN_congr n fun i hi => h i (by omega), h n (by omega)]
theorem sN_const (c : Nat) : ∀ n, sN n (fun _ => c) = n * c
  | 0 => by simp [sN]
  | n + 1 => by rw [sN_succ, sN_const c n, Nat.add_mul]; omega
/-- one more of the items of a depth -/
def on (c : Nat → Nat) (d i : Nat) : Bool := decide (d ≤ c i)
theorem filt_wt (ws : List Int) (p : Nat → Bool) : ∀ n, wt (((List.range n).filter p).map (coin ws)) = sI n fun i => if p i then ws.getD i 0 else 0
  | 0 => rfl
  | n + 1 => by
    rw [List.range_succ, List.filter_append, List.map_append, wt_app, filt_wt ws p n, sI_succ]
    congr 1
    by_cases h : p n
    · rw [List.filter_cons_of_pos h, if_pos h]
      show wt [coin ws n] = _
      rw [wt_cons]
      show ws.getD n 0 + wt [] = _
      simp [wt]
    · rw [List.filter_cons_of_neg h, if_neg h]
      rfl
theorem filt_len (p : Nat → Bool) : ∀ n, ((List.range n).filter p).length = sN n fun i => if p i then 1 else 0
  | 0 => rfl
  | n + 1 => by
    rw [List.range_succ, List.filter_append, List.length_append, filt_len p n, sN_succ]
    congr 1
    by_cases h : p n
    · rw [List.filter_cons_of_pos h, if_pos h]
      rfl
    · rw [List.filter_cons_of_neg h, if_neg h]
      rfl
/-- what the depths below the last k cost, and how wide they are -/
def cst (ws : List Int) (L : Nat) (c : Nat → Nat) (k : Nat) : Int := sI ws.length fun i => ws.getD i 0 * ((c i - (L - k) : Nat) : Int)
def wid (L : Nat) (c : Nat → Nat) (n k : Nat) : Nat := sN n fun i => 2 ^ k - 2 ^ (k - (c i - (L - k)))
theorem low {ws : List Int} {L : Nat} {c : Nat → Nat} (h0 : ∀ i, 0 ≤ ws.getD i 0) (hc : ∀ i, i < ws.length → c i ≤ L) {k : Nat} {R : List Pkg} (h : Row ws k R) (hk : k ≤ L) : ∃ m, m ≤ R.length ∧ wt (R.take m) ≤ cst ws L c k ∧ 2 * wid L c ws.length k < (m + 1) * 2 ^ k := by
  induction h with
  | zero =>
    refine ⟨0, Nat.le_refl _, ?_, ?_⟩
    · have : cst ws L c 0 = sI ws.length fun _ => 0 := sI_congr _ fun i hi => by
        have := hc i hi
        rw [show c i - (L - 0) = 0 by omega]
        simp
      rw [this]
      have : ∀ n, sI n (fun _ => 0) = 0 := fun n => by
        induction n with
        | zero => rfl
        | succ n ih => rw [sI_succ, ih]; rfl
      rw [this]
      simp [wt]
    · have : wid L c ws.length 0 = sN ws.length fun _ => 0 := sN_congr _ fun i hi => by
        have := hc i hi
        rw [show c i - (L - 0) = 0 by omega]
      rw [this, sN_const]
      omega
  | @more k R ys hR h2 h3 ih =>
    obtain ⟨m, m1, m2, m3⟩ := ih (by omega)
    -- the coins of the depth L - k
    let p : Nat → Bool := fun i => decide (L - k ≤ c i)
    let A := ((List.range ws.length).filter p).map (coin ws)
    let A' := ((List.range ws.length).filter fun i => !p i).map (coin ws)
    have hA : (A ++ A').Perm (coins ws) := by
      have := (List.filter_append_perm p (List.range ws.length)).map (coin ws)
      rw [List.map_append] at this
      exact this
    have hpk := pk_take R (m / 2) (by omega)
    let B := pk (R.take (2 * (m / 2)))
    have hB : (B ++ (pk R).drop (m / 2)) = pk R := by
      show pk (R.take (2 * (m / 2))) ++ _ = _
      rw [hpk]; exact List.take_append_drop _ _
    have hBl : B.length = m / 2 := by
      show (pk (R.take (2 * (m / 2)))).length = _
      rw [pk_len, List.length_take]; omega
    have hper : ((A ++ B) ++ (A' ++ (pk R).drop (m / 2))).Perm ys := by
      refine List.Perm.trans ?_ h2.symm
      refine List.Perm.trans ?_ (hA.append (List.Perm.of_eq hB))
      generalize (pk R).drop (m / 2) = D
      rw [List.append_assoc, List.append_assoc]
      refine List.Perm.append_left A ?_
      rw [← List.append_assoc, ← List.append_assoc]
      exact List.Perm.append_right D List.perm_append_comm
    have h4 := pre_le ys (A ++ B) _ h3 hper
    have hl := hper.length_eq
    have hwB : wt B ≤ cst ws L c k := by
      show wt (pk (R.take (2 * (m / 2)))) ≤ _
      rw [pk_wt _ (by rw [List.length_take]; omega)]
      have := take_le (R := R) (row_nn h0 hR) (show 2 * (m / 2) ≤ m by omega)
      omega
    have hAl : A.length = sN ws.length fun i => if p i then 1 else 0 := by
      show (((List.range ws.length).filter p).map (coin ws)).length = _
      rw [List.length_map, filt_len]
    have hAw : wt A = sI ws.length fun i => if p i then ws.getD i 0 else 0 := filt_wt ws p _
    have hcs : cst ws L c (k + 1) = cst ws L c k + wt A := by
      rw [hAw]
      unfold cst
      rw [← sI_add]
      refine sI_congr _ fun i hi => ?_
      by_cases z : L - k ≤ c i
      · rw [if_pos (show p i = true from decide_eq_true z)]
        have : c i - (L - (k + 1)) = c i - (L - k) + 1 := by omega
        rw [this]
        push_cast
        rw [Int.mul_add]
        omega
      · rw [if_neg (by show ¬ (decide (L - k ≤ c i)) = true; simpa using z)]
        have : c i - (L - (k + 1)) = c i - (L - k) := by omega
        rw [this]
        omega
    have hwd : wid L c ws.length (k + 1) = wid L c ws.length k + A.length * 2 ^ k := by
      rw [hAl, ← sN_mul]
      unfold wid
      rw [← sN_add]
      refine sN_congr _ fun i hi => ?_
      have hci := hc i hi
      have hp2 : (2 : Nat) ^ (k + 1) = 2 ^ k + 2 ^ k := by rw [Nat.pow_succ]; omega
      by_cases z : L - k ≤ c i
      · rw [if_pos (show p i = true from decide_eq_true z)]
        have e1 : c i - (L - (k + 1)) = c i - (L - k) + 1 := by omega
        rw [e1, show k + 1 - (c i - (L - k) + 1) = k - (c i - (L - k)) by omega, hp2]
        have : 2 ^ (k - (c i - (L - k))) ≤ 2 ^ k := Nat.pow_le_pow_right (by decide) (by omega)
        omega
      · rw [if_neg (by show ¬ (decide (L - k ≤ c i)) = true; simpa using z)]
        rw [show c i - (L - (k + 1)) = 0 by omega, show c i - (L - k) = 0 by omega]
        simp
    refine ⟨(A ++ B).length, ?_, ?_, ?_⟩
    · rw [← hl, List.length_append (as := A ++ B)]; omega
    · rw [wt_app] at h4
      omega
    · rw [hwd, List.length_append, hBl, Nat.pow_succ]
      have : 2 ^ k * (m + 1) ≤ 2 ^ k * (2 * (m / 2) + 2) := Nat.mul_le_mul_left _ (by omega)
      generalize 2 ^ k = X at *
      have e1 : (A.length + m / 2 + 1) * (X * 2) = 2 * (A.length * X) + X * (2 * (m / 2) + 2) := by grind
      have e2 : (m + 1) * X = X * (m + 1) := Nat.mul_comm _ _
      omega
theorem tot_sum (L : Nat) : ∀ F : List Nat, tot L F = sN F.length fun i => 2 ^ (L - F.getD i 0) := fun F => by
  conv => lhs; rw [← map_get F, tot_map]
  rfl
/-- the first 2n - 2 items cost no more than any code -/
theorem least {ws : List Int} {L : Nat} {F : List Nat} {R : List Pkg} (h0 : ∀ i, 0 ≤ ws.getD i 0) (hne : 1 ≤ ws.length) (hF : F.length = ws.length) (hc : ∀ l ∈ F, l ≤ L) (ht : tot L F ≤ 2 ^ L) (h : Row ws L R) : 2 * ws.length - 2 ≤ R.length ∧ wt (R.take (2 * ws.length - 2)) ≤ costI ws (asI F) := by
  have hc' : ∀ i, i < ws.length → F.getD i 0 ≤ L := fun i hi => by
    rw [List.getD_eq_getElem?_getD, List.getElem?_eq_getElem (by omega)]
    exact hc _ (List.getElem_mem _)
  obtain ⟨m, m1, m2, m3⟩ := low (c := fun i => F.getD i 0) h0 hc' h (Nat.le_refl _)
  have e1 : cst ws L (fun i => F.getD i 0) L = costI ws (asI F) := by
    unfold cst costI
    refine sI_congr _ fun i hi => ?_
    rw [asI_get, Nat.sub_self, Nat.sub_zero]
  have e2 : wid L (fun i => F.getD i 0) ws.length L + tot L F = ws.length * 2 ^ L := by
    rw [tot_sum, hF]
    unfold wid
    rw [← sN_add, ← sN_const]
    refine sN_congr _ fun i hi => ?_
    rw [Nat.sub_self, Nat.sub_zero]
    have : 2 ^ (L - F.getD i 0) ≤ 2 ^ L := Nat.pow_le_pow_right (by decide) (by omega)
    show 2 ^ L - 2 ^ (L - F.getD i 0) + _ = _
    omega
  have hm : 2 * ws.length - 2 ≤ m := by
    obtain ⟨n, hn⟩ : ∃ n, ws.length = n + 1 := ⟨ws.length - 1, by omega⟩
    rw [hn] at e2 m3 ⊢
    have hx : 0 < 2 ^ L := Nat.pow_pos (by decide)
    generalize 2 ^ L = X at *
    rw [Nat.add_mul] at e2
    have : (2 * n) * X < (m + 1) * X := by
      have : 2 * n * X = 2 * (n * X) := Nat.mul_assoc _ _ _
      omega
    have := Nat.lt_of_mul_lt_mul_right this
    omega
  refine ⟨by omega, ?_⟩
  have := take_le (R := R) (row_nn h0 h) hm
  omega
/-! ### the items are a code -/
def cnt (zs : List Pkg) (i : Nat) : Nat := (zs.flatMap (·.2)).count (i : Int)
theorem cnt_app (a b : List Pkg) (i : Nat) : cnt (a ++ b) i = cnt a i + cnt b i := by
  unfold cnt
  rw [List.flatMap_append, List.count_append]
theorem cnt_cons (a : Pkg) (b : List Pkg) (i : Nat) : cnt (a :: b) i = a.2.count (i : Int) + cnt b i := by
  unfold cnt
  rw [List.flatMap_cons, List.count_append]
theorem cnt_perm {a b : List Pkg} (h : a.Perm b) (i : Nat) : cnt a i = cnt b i := by
  induction h with
  | nil => rfl
  | cons x _ ih => rw [cnt_cons, cnt_cons, ih]
  | swap x y l => rw [cnt_cons, cnt_cons, cnt_cons, cnt_cons]; omega
  | trans _ _ ih1 ih2 => rw [ih1, ih2]
/-- a part of two lists together -/
theorem part2 : ∀ (zs r C D : List Pkg), (zs ++ r).Perm (C ++ D) → ∃ A A' Q Q', zs.Perm (A ++ Q) ∧ (A ++ A').Perm C ∧ (Q ++ Q').Perm D
  | [], r, C, D, h => ⟨[], C, [], D, by simp, by simp, by simp⟩
  | z :: zs, r, C, D, h => by
    have hz : z ∈ C ++ D := h.mem_iff.mp (by simp)
    rcases List.mem_append.mp hz with hz | hz
    · obtain ⟨C', hC⟩ := perm_split hz
      have h1 : (z :: (zs ++ r)).Perm (z :: (C' ++ D)) := h.trans (hC.append_right D)
      obtain ⟨A, A', Q, Q', a1, a2, a3⟩ := part2 zs r C' D (List.Perm.cons_inv h1)
      exact ⟨z :: A, A', Q, Q', a1.cons z, (a2.cons z).trans hC.symm, a3⟩
    · obtain ⟨D', hD⟩ := perm_split hz
      have h1 : (z :: (zs ++ r)).Perm (z :: (C ++ D')) := (h.trans (List.Perm.append_left C hD)).trans List.perm_middle
      obtain ⟨A, A', Q, Q', a1, a2, a3⟩ := part2 zs r C D' (List.Perm.cons_inv h1)
      exact ⟨A, A', z :: Q, Q', (a1.cons z).trans List.perm_middle.symm, a2, (a3.cons z).trans hD.symm⟩
/-- a part of the packages is a part of the row -/
theorem part_pk : ∀ (R Q Q' : List Pkg), (Q ++ Q').Perm (pk R) → ∃ U U', (U ++ U').Perm R ∧ U.length = 2 * Q.length ∧ ∀ i, cnt U i = cnt Q i
  | [], Q, Q', h => by
    have := h.length_eq
    have e : Q = [] := by
      have : (Q ++ Q').length = 0 := this
      rw [List.length_append] at this
      exact List.length_eq_zero_iff.mp (by omega)
    subst e
    exact ⟨[], [], by simp, rfl, fun _ => rfl⟩
  | [x], Q, Q', h => by
    have := h.length_eq
    have e : Q = [] := by
      have : (Q ++ Q').length = 0 := this
      rw [List.length_append] at this
      exact List.length_eq_zero_iff.mp (by omega)
    subst e
    exact ⟨[], [x], by simp, rfl, fun _ => rfl⟩
  | x :: y :: r, Q, Q', h => by
    have h : (Q ++ Q').Perm ((x.1 + y.1, x.2 ++ y.2) :: pk r) := h
    have hp : (x.1 + y.1, x.2 ++ y.2) ∈ Q ++ Q' := h.mem_iff.mpr (by simp)
    rcases List.mem_append.mp hp with hp | hp
    · obtain ⟨q, hq⟩ := perm_split hp
      have h1 := List.Perm.cons_inv (((hq.append_right Q').symm).trans h)
      obtain ⟨U, U', u1, u2, u3⟩ := part_pk r q Q' h1
      refine ⟨x :: y :: U, U', (u1.cons y).cons x, ?_, fun i => ?_⟩
      · rw [hq.length_eq, List.length_cons, List.length_cons, List.length_cons]; omega
      · rw [cnt_perm hq, cnt_cons, cnt_cons, cnt_cons, u3, List.count_append]; omega
    · obtain ⟨q, hq⟩ := perm_split hp
      have h1 := List.Perm.cons_inv ((List.perm_middle.symm.trans ((List.Perm.append_left Q hq).symm)).trans h)
      obtain ⟨U, U', u1, u2, u3⟩ := part_pk r Q q h1
      refine ⟨U, x :: y :: U', ?_, u2, u3⟩
      refine List.perm_middle.trans (List.Perm.cons x ?_)
      exact List.perm_middle.trans (u1.cons y)
theorem cnt1 (x y : Int) : [x].count y = if x = y then 1 else 0 := by
  by_cases h : x = y
  · simp [h]
  · simp [h]
theorem coins_cnt (ws : List Int) : ∀ n i, cnt ((List.range n).map (coin ws)) i = if i < n then 1 else 0
  | 0, i => rfl
  | n + 1, i => by
    rw [List.range_succ, List.map_append, cnt_app, coins_cnt ws n]
    show _ + cnt [coin ws n] i = _
    rw [cnt_cons]
    show _ + ([(n : Int)].count (i : Int) + 0) = _
    rw [cnt1]
    split <;> split <;> split <;> omega
/-- what items of coins and packages are -/
structure ItOk (ws : List Int) (x : Pkg) : Prop where
  rg : ∀ s ∈ x.2, 0 ≤ s ∧ s < ws.length
  w : x.1 = (x.2.map fun s => ws.getD s.toNat 0).sum
theorem coin_ok {ws : List Int} {i : Nat} (h : i < ws.length) : ItOk ws (coin ws i) := ⟨fun s hs => by
  have : s = (i : Int) := List.mem_singleton.mp hs
  omega, by simp [coin]⟩
theorem pk_ok {ws : List Int} : ∀ R : List Pkg, (∀ x ∈ R, ItOk ws x) → ∀ x ∈ pk R, ItOk ws x
  | [], _, x, hx => by simp [pk] at hx
  | [_], _, x, hx => by simp [pk] at hx
  | a :: b :: r, h, x, hx => by
    rcases List.mem_cons.mp hx with e | e
    · rw [e]
      have h1 := h a (by simp)
      have h2 := h b (by simp)
      refine ⟨fun s hs => ?_, ?_⟩
      · rcases List.mem_append.mp hs with z | z
        · exact h1.rg s z
        · exact h2.rg s z
      · show a.1 + b.1 = _
        rw [h1.w, h2.w, ← List.sum_append, ← List.map_append]
    · exact pk_ok r (fun y hy => h y (by simp [hy])) x e
theorem row_ok {ws : List Int} {k : Nat} {R : List Pkg} (h : Row ws k R) : ∀ x ∈ R, ItOk ws x := by
  induction h with
  | zero => intro x hx; simp at hx
  | more _ h2 _ ih =>
    intro x hx
    rcases List.mem_append.mp (h2.mem_iff.mp hx) with z | z
    · obtain ⟨i, hi, e⟩ := List.mem_map.mp z
      rw [← e]
      exact coin_ok (List.mem_range.mp hi)
    · exact pk_ok _ ih x z
theorem one_cnt (n : Nat) (x : Int) (h : 0 ≤ x ∧ x < n) (w : Nat → Int) : sI n (fun i => w i * (([x].count (i : Int) : Nat) : Int)) = w x.toNat ∧ sN n (fun i => [x].count (i : Int)) = 1 := by
  have key : ∀ m : Nat, sI m (fun i => w i * (([x].count (i : Int) : Nat) : Int)) = (if x.toNat < m then w x.toNat else 0) ∧ sN m (fun i => [x].count (i : Int)) = if x.toNat < m then 1 else 0 := by
    intro m
    induction m with
    | zero => exact ⟨rfl, rfl⟩
    | succ m ih =>
      rw [sI_succ, sN_succ, ih.1, ih.2, cnt1]
      by_cases e : x = (m : Int)
      · subst e
        have e1 : ¬ (m : Int).toNat < m := by omega
        have e2 : (m : Int).toNat < m + 1 := by omega
        simp [e1, e2]
      · have e0 : (x.toNat < m + 1) = (x.toNat < m) := propext ⟨fun _ => by omega, fun _ => by omega⟩
        simp [e, e0]
  have := key n
  rw [if_pos (by omega), if_pos (by omega)] at this
  exact this
theorem syms_sum {n : Nat} (w : Nat → Int) : ∀ l : List Int, (∀ s ∈ l, 0 ≤ s ∧ s < n) → sI n (fun i => w i * ((l.count (i : Int) : Nat) : Int)) = (l.map fun s => w s.toNat).sum ∧ sN n (fun i => l.count (i : Int)) = l.length
  | [], _ => by
    have h1 : ∀ m : Nat, sI m (fun i => w i * ((([] : List Int).count (i : Int) : Nat) : Int)) = 0 := fun m => by
      induction m with
      | zero => rfl
      | succ m ih => rw [sI_succ, ih]; simp
    refine ⟨h1 n, ?_⟩
    have := sN_const 0 n
    simpa using this
  | x :: l, h => by
    obtain ⟨i1, i2⟩ := syms_sum w l fun s hs => h s (by simp [hs])
    obtain ⟨j1, j2⟩ := one_cnt n x (h x (by simp)) w
    have e : ∀ i : Nat, (x :: l).count (i : Int) = [x].count (i : Int) + l.count (i : Int) := fun i => by
      rw [← List.count_append]; rfl
    constructor
    · have : (fun i : Nat => w i * (((x :: l).count (i : Int) : Nat) : Int)) = fun i => w i * (([x].count (i : Int) : Nat) : Int) + w i * ((l.count (i : Int) : Nat) : Int) := by
        funext i
        rw [e]
        push_cast
        rw [Int.mul_add]
      rw [this, sI_add, i1, j1, List.map_cons, List.sum_cons]
    · have e2 : sN n (fun i => (x :: l).count (i : Int)) = sN n (fun i => [x].count (i : Int) + l.count (i : Int)) := sN_congr _ fun i _ => e i
      rw [e2, sN_add, i2, j2, List.length_cons]
      omega
/-- the cost of the counts is the weight of the items -/
theorem cnt_wt {ws : List Int} : ∀ zs : List Pkg, (∀ x ∈ zs, ItOk ws x) → sI ws.length (fun i => ws.getD i 0 * ((cnt zs i : Nat) : Int)) = wt zs := fun zs h => by
  have h1 := (syms_sum (n := ws.length) (fun i => ws.getD i 0) (zs.flatMap (·.2)) fun s hs => by
    obtain ⟨x, hx, hs⟩ := List.mem_flatMap.mp hs
    exact (h x hx).rg s hs).1
  unfold cnt
  rw [h1]
  clear h1
  induction zs with
  | nil => rfl
  | cons x zs ih =>
    rw [List.flatMap_cons, List.map_append, List.sum_append, wt_cons, ih fun y hy => h y (by simp [hy]), (h x (by simp)).w]
theorem fits {ws : List Int} {k : Nat} {R : List Pkg} (h : Row ws k R) : ∀ zs r : List Pkg, (zs ++ r).Perm R → ∃ b : Nat → Nat, (∀ i, i < ws.length → cnt zs i ≤ k ∧ b i + 2 ^ (k - cnt zs i) ≤ 2 ^ k) ∧ sN ws.length b * 2 = zs.length * 2 ^ k := by
  induction h with
  | zero =>
    intro zs r hp
    have := hp.length_eq
    have e : zs = [] := by
      rw [List.length_append] at this
      exact List.length_eq_zero_iff.mp (by simp only [List.length_nil] at this; omega)
    subst e
    refine ⟨fun _ => 0, fun i hi => ⟨Nat.le_refl _, by simp [cnt]⟩, ?_⟩
    rw [sN_const]
    simp
  | @more k R ys hR h2 h3 ih =>
    intro zs r hp
    obtain ⟨A, A', Q, Q', a1, a2, a3⟩ := part2 zs r _ _ (hp.trans h2)
    obtain ⟨U, U', u1, u2, u3⟩ := part_pk R Q Q' a3
    obtain ⟨b, b1, b2⟩ := ih U U' u1
    have hcz : ∀ i, cnt zs i = cnt A i + cnt U i := fun i => by rw [cnt_perm a1, cnt_app, u3]
    have hA1 : ∀ i, cnt A i ≤ 1 := fun i => by
      have h1 : cnt (A ++ A') i = _ := cnt_perm a2 i
      unfold coins at h1
      rw [coins_cnt, cnt_app] at h1
      split at h1 <;> omega
    have hAr : ∀ x ∈ A, ∃ j, j < ws.length ∧ x = coin ws j := fun x hx => by
      have : x ∈ coins ws := a2.mem_iff.mp (by simp [hx])
      obtain ⟨i, hi, e⟩ := List.mem_map.mp this
      exact ⟨i, List.mem_range.mp hi, e.symm⟩
    have hAs : sN ws.length (fun i => cnt A i) = A.length := by
      have h1 := (syms_sum (n := ws.length) (fun i => 0) (A.flatMap (·.2)) fun s hs => by
        obtain ⟨x, hx, hs⟩ := List.mem_flatMap.mp hs
        obtain ⟨j, hj, e⟩ := hAr x hx
        subst e
        exact (coin_ok hj).rg s hs).2
      unfold cnt
      rw [h1]
      clear h1 hcz hA1 a1 a2
      induction A with
      | nil => rfl
      | cons x A ih =>
        obtain ⟨j, hj, e⟩ := hAr x (by simp)
        rw [List.flatMap_cons, List.length_append, ih fun y hy => hAr y (by simp [hy]), e, List.length_cons]
        show 1 + _ = _
        omega
    refine ⟨fun i => b i + cnt A i * 2 ^ k, fun i hi => ?_, ?_⟩
    · obtain ⟨c1, c2⟩ := b1 i hi
      have c3 := hA1 i
      have hp2 : (2 : Nat) ^ (k + 1) = 2 ^ k + 2 ^ k := by rw [Nat.pow_succ]; omega
      rw [hcz]
      refine ⟨by omega, ?_⟩
      show b i + cnt A i * 2 ^ k + 2 ^ (k + 1 - (cnt A i + cnt U i)) ≤ 2 ^ (k + 1)
      rcases Nat.lt_or_ge (cnt A i) 1 with z | z
      · have z : cnt A i = 0 := by omega
        rw [z, Nat.zero_mul, Nat.zero_add, Nat.add_zero, show k + 1 - cnt U i = (k - cnt U i) + 1 by omega, Nat.pow_succ]
        have : 2 ^ (k - cnt U i) ≤ 2 ^ k := Nat.pow_le_pow_right (by decide) (by omega)
        omega
      · have z : cnt A i = 1 := by omega
        rw [z, Nat.one_mul, show k + 1 - (1 + cnt U i) = k - cnt U i by omega]
        omega
    · rw [sN_add, sN_mul, hAs, a1.length_eq, List.length_append, Nat.add_mul, b2, u2, Nat.pow_succ]
      generalize 2 ^ k = X
      grind
/-- the counts of the first 2n - 2 items are a code that keeps the limit -/
structure Code (n L : Nat) (F : List Nat) : Prop where
  len : F.length = n
  bd : ∀ l ∈ F, 1 ≤ l ∧ l ≤ L
  kr : tot L F ≤ 2 ^ L
def fnd (n : Nat) (zs : List Pkg) : List Nat := (List.range n).map (cnt zs)
theorem fnd_get {n : Nat} {zs : List Pkg} {i : Nat} (h : i < n) : (fnd n zs).getD i 0 = cnt zs i := by
  unfold fnd
  rw [List.getD_eq_getElem?_getD, List.getElem?_map, List.getElem?_range h]
  rfl
theorem fnd_code {ws : List Int} {L : Nat} {R : List Pkg} (hn : 2 ≤ ws.length) (h : Row ws L R) (hR : 2 * ws.length - 2 ≤ R.length) : Code ws.length L (fnd ws.length (R.take (2 * ws.length - 2))) ∧ costI ws (asI (fnd ws.length (R.take (2 * ws.length - 2)))) = wt (R.take (2 * ws.length - 2)) := by
  obtain ⟨b, b1, b2⟩ := fits h (R.take (2 * ws.length - 2)) (R.drop (2 * ws.length - 2)) (by rw [List.take_append_drop])
  rw [List.length_take, Nat.min_eq_left hR] at b2
  have hl : (fnd ws.length (R.take (2 * ws.length - 2))).length = ws.length := by simp [fnd]
  have hco : costI ws (asI (fnd ws.length (R.take (2 * ws.length - 2)))) = wt (R.take (2 * ws.length - 2)) := by
    rw [← cnt_wt (ws := ws) _ fun x hx => row_ok h x (List.mem_of_mem_take hx)]
    refine sI_congr _ fun i hi => ?_
    rw [asI_get, fnd_get hi]
  generalize hz : R.take (2 * ws.length - 2) = zs at *
  have ht : tot L (fnd ws.length zs) = sN ws.length fun i => 2 ^ (L - cnt zs i) := by
    rw [tot_sum, hl]
    exact sN_congr _ fun i hi => by rw [fnd_get hi]
  have hs : sN ws.length b + sN ws.length (fun i => 2 ^ (L - cnt zs i)) ≤ ws.length * 2 ^ L := by
    rw [← sN_add, ← sN_const]
    exact sN_le _ fun i hi => (b1 i hi).2
  have hb : sN ws.length b + 2 ^ L = ws.length * 2 ^ L := by
    obtain ⟨n, hn⟩ : ∃ n, ws.length = n + 1 := ⟨ws.length - 1, by omega⟩
    rw [hn] at b2 ⊢
    generalize 2 ^ L = X at *
    rw [Nat.add_mul]
    have : (2 * (n + 1) - 2) * X = 2 * (n * X) := by
      rw [show 2 * (n + 1) - 2 = 2 * n by omega, Nat.mul_assoc]
    omega
  have hk : sN ws.length (fun i => 2 ^ (L - cnt zs i)) ≤ 2 ^ L := by omega
  refine ⟨⟨hl, fun l hl => ?_, by rw [ht]; exact hk⟩, hco⟩
  obtain ⟨i, hi, e⟩ := List.mem_map.mp hl
  have hi := List.mem_range.mp hi
  have h1 := (b1 i hi).1
  subst e
  refine ⟨?_, h1⟩
  rcases Nat.eq_zero_or_pos (cnt zs i) with z | z
  · exfalso
    have key : ∀ m : Nat, m ≤ ws.length → (m ≤ i → m ≤ sN m (fun i => 2 ^ (L - cnt zs i))) ∧ (i < m → 2 ^ L + (m - 1) ≤ sN m (fun i => 2 ^ (L - cnt zs i))) := by
      intro m
      induction m with
      | zero => intro _; exact ⟨fun _ => Nat.zero_le _, fun h => absurd h (Nat.not_lt_zero _)⟩
      | succ m ih =>
        intro hm
        have ih := ih (by omega)
        rw [sN_succ]
        have hpos : 0 < 2 ^ (L - cnt zs m) := Nat.pow_pos (by decide)
        refine ⟨fun hmi => ?_, fun hmi => ?_⟩
        · have := ih.1 (by omega)
          omega
        · rcases Nat.lt_or_ge i m with y | y
          · have := ih.2 y
            omega
          · have e : m = i := by omega
            have := ih.1 (by omega)
            subst e
            rw [z, Nat.sub_zero]
            omega
    have := (key ws.length (Nat.le_refl _)).2 hi
    omega
  · exact z
end M05
set_option linter.all false
/-! Joining the two least weights again and again: no code undercuts it, and it is the cost of a code with short words. -/
namespace M05
open M04
def leI (a b : Int) : Bool := decide (a ≤ b)
def srt (l : List Int) : List Int := l.mergeSort leI
theorem srt_perm (l : List Int) : (srt l).Perm l := List.mergeSort_perm _ _
theorem srt_asc (l : List Int) : (srt l).Pairwise fun a b => a ≤ b := by
  have h : (srt l).Pairwise fun a b => leI a b = true := List.pairwise_mergeSort (fun a b c => by unfold leI; simp only [decide_eq_true_eq]; omega) (fun a b => by unfold leI; simp only [Bool.or_eq_true, decide_eq_true_eq]; omega) _
  exact h.imp fun {a b} h => of_decide_eq_true h
def J : Nat → List Int → Int
  | f + 1, x :: y :: r => x + y + J f (srt (r ++ [x + y]))
  | _, _ => 0
theorem J_succ (f : Nat) (x y : Int) (r : List Int) : J (f + 1) (x :: y :: r) = x + y + J f (srt (r ++ [x + y])) := rfl
/-! ### pairs of a weight and a length -/
abbrev WL := Int × Nat
def cs (P : List WL) : Int := (P.map fun p => p.1 * (p.2 : Int)).sum
def kr (N : Nat) (P : List WL) : Nat := (P.map fun p => 2 ^ (N - p.2)).sum
theorem cs_cons (p : WL) (P : List WL) : cs (p :: P) = p.1 * (p.2 : Int) + cs P := by unfold cs; rw [List.map_cons, List.sum_cons]
theorem kr_cons (N : Nat) (p : WL) (P : List WL) : kr N (p :: P) = 2 ^ (N - p.2) + kr N P := by unfold kr; rw [List.map_cons, List.sum_cons]
theorem cs_perm {P Q : List WL} (h : P.Perm Q) : cs P = cs Q := sum_perm (h.map _)
theorem kr_perm {P Q : List WL} (N : Nat) (h : P.Perm Q) : kr N P = kr N Q := nsum_perm (h.map _)
theorem split {α : Type} {x : α} {l : List α} (h : x ∈ l) : ∃ r, l.Perm (x :: r) := by
  obtain ⟨s, t, e⟩ := List.append_of_mem h
  exact ⟨s ++ t, by rw [e]; exact List.perm_middle⟩
/-- a list whose images are those of another list in some order -/
theorem lift {α β : Type} (f : α → β) : ∀ (bs : List β) (P : List α), (P.map f).Perm bs → ∃ Q : List α, Q.Perm P ∧ Q.map f = bs
  | [], P, h => by
    have := h.length_eq
    rw [List.length_map] at this
    have e : P = [] := List.length_eq_zero_iff.mp this
    subst e
    exact ⟨[], .nil, rfl⟩
  | b :: bs, P, h => by
    have hb : b ∈ P.map f := h.mem_iff.mpr List.mem_cons_self
    obtain ⟨p, hp, e⟩ := List.mem_map.mp hb
    obtain ⟨r, hr⟩ := split hp
    have h1 := (hr.map f).symm.trans h
    rw [List.map_cons, e] at h1
    obtain ⟨Q, hQ, eQ⟩ := lift f bs r (List.Perm.cons_inv h1)
    exact ⟨p :: Q, (hQ.cons p).trans hr.symm, by rw [List.map_cons, e, eQ]⟩
/-- the least weight gets the greatest length -/
theorem swap (N : Nat) (w : Int) : ∀ (R : List WL) (l : Nat), (∀ p ∈ R, w ≤ p.1) → l ≤ N → (∀ p ∈ R, p.2 ≤ N) → ∃ (l' : Nat) (R' : List WL), R'.map (·.1) = R.map (·.1) ∧ (∀ p ∈ R', p.2 ≤ l') ∧ l ≤ l' ∧ l' ≤ N ∧ (∀ b, l ≤ b → (∀ p ∈ R, p.2 ≤ b) → l' ≤ b ∧ ∀ p ∈ R', p.2 ≤ b) ∧ w * (l' : Int) + cs R' ≤ w * (l : Int) + cs R ∧ 2 ^ (N - l') + kr N R' = 2 ^ (N - l) + kr N R
  | [], l, _, hl, _ => ⟨l, [], rfl, fun p hp => by simp at hp, Nat.le_refl _, hl, fun b hb _ => ⟨hb, fun p hp => by simp at hp⟩, Int.le_refl _, rfl⟩
  | p :: R, l, hw, hl, hN => by
    by_cases h : l < p.2
    · obtain ⟨l', R', e1, e2, e3, e4, e5, e6, e7⟩ := swap N w R p.2 (fun q hq => hw q (by simp [hq])) (hN p (by simp)) (fun q hq => hN q (by simp [hq]))
      refine ⟨l', (p.1, l) :: R', by rw [List.map_cons, List.map_cons, e1], fun q hq => ?_, by omega, e4, fun b hb hR => ?_, ?_, ?_⟩
      · rcases List.mem_cons.mp hq with z | z
        · rw [z]; show l ≤ l'; omega
        · exact e2 q z
      · have h1 := e5 b (hR p (by simp)) fun q hq => hR q (by simp [hq])
        refine ⟨h1.1, fun q hq => ?_⟩
        rcases List.mem_cons.mp hq with z | z
        · rw [z]; exact hb
        · exact h1.2 q z
      · rw [cs_cons, cs_cons]
        show w * (l' : Int) + (p.1 * (l : Int) + cs R') ≤ w * (l : Int) + (p.1 * (p.2 : Int) + cs R)
        have h1 := hw p (by simp)
        have h2 : 0 ≤ (p.1 - w) * ((p.2 : Int) - (l : Int)) := Int.mul_nonneg (by omega) (by omega)
        have h3 : (p.1 - w) * ((p.2 : Int) - (l : Int)) = p.1 * (p.2 : Int) - p.1 * (l : Int) - w * (p.2 : Int) + w * (l : Int) := by grind
        omega
      · rw [kr_cons, kr_cons]
        show 2 ^ (N - l') + (2 ^ (N - l) + kr N R') = _
        omega
    · obtain ⟨l', R', e1, e2, e3, e4, e5, e6, e7⟩ := swap N w R l (fun q hq => hw q (by simp [hq])) hl (fun q hq => hN q (by simp [hq]))
      refine ⟨l', p :: R', by rw [List.map_cons, List.map_cons, e1], fun q hq => ?_, e3, e4, fun b hb hR => ?_, ?_, ?_⟩
      · rcases List.mem_cons.mp hq with z | z
        · rw [z]; omega
        · exact e2 q z
      · have h1 := e5 b hb fun q hq => hR q (by simp [hq])
        refine ⟨h1.1, fun q hq => ?_⟩
        rcases List.mem_cons.mp hq with z | z
        · rw [z]; exact hR p (by simp)
        · exact h1.2 q z
      · rw [cs_cons, cs_cons]; omega
      · rw [kr_cons, kr_cons]; omega
theorem kr_mul {N l : Nat} : ∀ {R : List WL}, (∀ p ∈ R, p.2 ≤ l) → l ≤ N → ∃ t, kr N R = 2 ^ (N - l) * t
  | [], _, _ => ⟨0, rfl⟩
  | p :: R, h, hl => by
    obtain ⟨t, e⟩ := kr_mul (R := R) (fun q hq => h q (by simp [hq])) hl
    refine ⟨2 ^ (l - p.2) + t, ?_⟩
    have := h p (by simp)
    rw [kr_cons, e, Nat.mul_add, ← Nat.pow_add, show N - l + (l - p.2) = N - p.2 by omega]
theorem cs_nn : ∀ {P : List WL}, (∀ p ∈ P, 0 ≤ p.1) → 0 ≤ cs P
  | [], _ => by simp [cs]
  | p :: P, h => by
    have h1 := cs_nn (P := P) fun q hq => h q (by simp [hq])
    have h2 := Int.mul_nonneg (h p (by simp)) (Int.natCast_nonneg p.2)
    rw [cs_cons]
    omega
/-- no code costs less than joining -/
theorem J_le (N : Nat) : ∀ (f : Nat) (l : List Int) (P : List WL), l.length = f + 1 → l.Pairwise (fun a b => a ≤ b) → (∀ x ∈ l, 0 ≤ x) → (P.map (·.1)).Perm l → (∀ p ∈ P, p.2 ≤ N) → kr N P ≤ 2 ^ N → J f l ≤ cs P
  | 0, l, P, hl, _, h0, hp, _, _ => by
    have e : J 0 l = 0 := by
      unfold J
      rfl
    rw [e]
    exact cs_nn fun p hq => h0 _ (hp.mem_iff.mp (List.mem_map.mpr ⟨p, hq, rfl⟩))
  | f + 1, [], P, hl, _, _, _, _, _ => by simp at hl
  | f + 1, [_], P, hl, _, _, _, _, _ => by simp at hl
  | f + 1, x :: y :: r, P, hl, ha, h0, hp, hN, hk => by
    obtain ⟨Q, hQ, eQ⟩ := lift (·.1) _ P hp
    rw [← cs_perm hQ]
    rw [← kr_perm N hQ] at hk
    have hN2 : ∀ p ∈ Q, p.2 ≤ N := fun p hp => hN p (hQ.mem_iff.mp hp)
    clear hN
    have hN := hN2
    clear hN2 hQ hp P
    have ha1 := List.pairwise_cons.mp ha
    have ha2 := List.pairwise_cons.mp ha1.2
    match Q, eQ, hk, hN with
    | [], eQ, _, _ => simp at eQ
    | [_], eQ, _, _ => simp at eQ
    | (x', l1) :: (y', l2) :: R, eQ, hk, hN =>
      rw [List.map_cons, List.map_cons] at eQ
      injection eQ with ex eQ
      injection eQ with ey eR
      have ex : x' = x := ex
      have ey : y' = y := ey
      subst ex ey
      have hx0 := h0 x' (by simp)
      have hy0 := h0 y' (by simp)
      have hR : ∀ p ∈ R, y' ≤ p.1 := fun p hp => ha2.1 _ (by rw [← eR]; exact List.mem_map.mpr ⟨p, hp, rfl⟩)
      have hxy : x' ≤ y' := ha1.1 _ (by simp)
      -- the least one is longest
      obtain ⟨m1, S, s1, s2, s3, s4, s5, s6, s7⟩ := swap N x' ((y', l2) :: R) l1 (fun p hp => by
        rcases List.mem_cons.mp hp with z | z
        · rw [z]; exact hxy
        · have := hR p z; omega) (hN (x', l1) (by simp)) (fun p hp => hN p (List.mem_cons_of_mem _ hp))
      match S, s1, s2, s5, s6, s7 with
      | [], s1, _, _, _, _ => simp at s1
      | (y2, l3) :: R2, s1, s2, s5, s6, s7 =>
        rw [List.map_cons, List.map_cons] at s1
        have e1 : y2 = y' := (List.cons.inj s1).1
        have s8 : R2.map (·.1) = R.map (·.1) := (List.cons.inj s1).2
        subst e1
        have l3m : l3 ≤ m1 := s2 (y2, l3) (by simp)
        -- the next one is next
        obtain ⟨m2, R3, t1, t2, t3, t4, t5, t6, t7⟩ := swap N y2 R2 l3 (fun p hp => by
          have : p.1 ∈ R2.map (·.1) := List.mem_map.mpr ⟨p, hp, rfl⟩
          rw [s8] at this
          obtain ⟨q, hq, e⟩ := List.mem_map.mp this
          rw [← e]
          exact hR q hq) (by omega) (fun p hp => by have := s2 p (by simp [hp]); omega)
        have hm : m2 ≤ m1 := (t5 m1 l3m fun p hp => s2 p (by simp [hp])).1
        rw [kr_cons, kr_cons] at hk
        rw [kr_cons, kr_cons] at s7
        rw [cs_cons, cs_cons] at s6 ⊢
        have hk : 2 ^ (N - l1) + (2 ^ (N - l2) + kr N R) ≤ 2 ^ N := hk
        have s7 : 2 ^ (N - m1) + (2 ^ (N - l3) + kr N R2) = 2 ^ (N - l1) + (2 ^ (N - l2) + kr N R) := s7
        have s6 : x' * (m1 : Int) + (y2 * (l3 : Int) + cs R2) ≤ x' * (l1 : Int) + (y2 * (l2 : Int) + cs R) := s6
        have hk2 : 2 ^ (N - m1) + (2 ^ (N - m2) + kr N R3) ≤ 2 ^ N := by omega
        have hc2 : x' * (m1 : Int) + (y2 * (m2 : Int) + cs R3) ≤ x' * (l1 : Int) + (y2 * (l2 : Int) + cs R) := by omega
        obtain ⟨t, ht⟩ := kr_mul (N := N) (l := m2) t2 (by omega)
        have hq : 2 ^ N = 2 ^ (N - m2) * 2 ^ m2 := by rw [← Nat.pow_add]; congr 1; omega
        have hp1 : 0 < 2 ^ (N - m1) := Nat.pow_pos (by decide)
        have hp2 : 0 < 2 ^ (N - m2) := Nat.pow_pos (by decide)
        have hfit : 2 + t ≤ 2 ^ m2 := by
          rw [ht, hq] at hk2
          generalize 2 ^ (N - m2) = X at *
          have : X * (1 + t) < X * 2 ^ m2 := by
            rw [Nat.mul_add, Nat.mul_one]; omega
          have := Nat.lt_of_mul_lt_mul_left this
          omega
        have hm2 : 1 ≤ m2 := by
          rcases Nat.eq_zero_or_pos m2 with z | z
          · rw [z] at hfit; simp at hfit; omega
          · exact z
        -- the joined one
        have hperm : (((x' + y2, m2 - 1) :: R3).map (·.1)).Perm (srt (r ++ [x' + y2])) := by
          rw [List.map_cons, t1, s8, eR]
          refine List.Perm.trans ?_ (srt_perm _).symm
          exact (List.perm_append_singleton _ _).symm
        have ih := J_le N f (srt (r ++ [x' + y2])) ((x' + y2, m2 - 1) :: R3) (by
            rw [(srt_perm _).length_eq, List.length_append]
            simp only [List.length_cons, List.length_nil] at hl ⊢
            omega) (srt_asc _) (fun z hz => by
            rcases List.mem_append.mp ((srt_perm _).mem_iff.mp hz) with q | q
            · exact h0 z (by simp [q])
            · rw [List.mem_singleton.mp q]; omega) hperm (fun p hp => by
            rcases List.mem_cons.mp hp with z | z
            · rw [z]; show m2 - 1 ≤ N; omega
            · have := t2 p z; omega) (by
            rw [kr_cons, ht, hq]
            show 2 ^ (N - (m2 - 1)) + _ ≤ _
            rw [show N - (m2 - 1) = N - m2 + 1 by omega, Nat.pow_succ]
            generalize 2 ^ (N - m2) = X at *
            have := Nat.mul_le_mul_left X hfit
            rw [Nat.mul_add] at this
            exact this)
        rw [J_succ]
        rw [cs_cons] at ih
        have ih : J f (srt (r ++ [x' + y2])) ≤ (x' + y2) * ((m2 - 1 : Nat) : Int) + cs R3 := ih
        have e5 : ((m2 - 1 : Nat) : Int) = (m2 : Int) - 1 := by omega
        rw [e5] at ih
        have h6 : x' * (m2 : Int) ≤ x' * (m1 : Int) := Int.mul_le_mul_of_nonneg_left (by omega) hx0
        have h7 : (x' + y2) * ((m2 : Int) - 1) = x' * (m2 : Int) + y2 * (m2 : Int) - x' - y2 := by grind
        show _ ≤ x' * (l1 : Int) + (y2 * (l2 : Int) + cs R)
        omega
/-! ### the words of joining are short -/
def fb : Nat → Int
  | 0 => 1
  | 1 => 1
  | n + 2 => fb (n + 1) + fb n
theorem fb_pos : ∀ n, 1 ≤ fb n
  | 0 => by decide
  | 1 => by decide
  | n + 2 => by
    have h1 := fb_pos (n + 1)
    have h2 := fb_pos n
    show 1 ≤ fb (n + 1) + fb n
    omega
theorem fb_step (n : Nat) : fb n ≤ fb (n + 1) := by
  cases n with
  | zero => decide
  | succ n =>
    have h2 := fb_pos n
    show fb (n + 1) ≤ fb (n + 1) + fb n
    omega
theorem fb_mono {a b : Nat} (h : a ≤ b) : fb a ≤ fb b := by
  induction h with
  | refl => exact Int.le_refl _
  | step _ ih => exact Int.le_trans ih (fb_step _)
structure HOk (M : Int) (H : List WL) : Prop where
  w : ∀ p ∈ H, fb (p.2 + 1) ≤ p.1
  m : ∀ p ∈ H, fb p.2 ≤ M
  ge : ∀ p ∈ H, M ≤ p.1
/-- heights, and the depths that joining gives -/
theorem J_code : ∀ (f : Nat) (l : List Int) (H : List WL) (M T : Int), l.length = f + 1 → l.Pairwise (fun a b => a ≤ b) → H.map (·.1) = l → HOk M H → l.sum = T →
    ∃ Q : List (WL × Nat), (Q.map (·.1)).Perm H ∧ cs (Q.map fun q => (q.1.1, q.2)) = J f l ∧ (∀ q ∈ Q, fb (q.1.2 + q.2 + 1) ≤ T) ∧ ∀ N, (∀ q ∈ Q, q.2 ≤ N) → kr N (Q.map fun q => (q.1.1, q.2)) = 2 ^ N
  | 0, l, H, M, T, hl, _, e, hk, hT => by
    match l, H, hl, e with
    | [], _, hl, _ => simp at hl
    | _ :: _ :: _, _, hl, _ => simp at hl
    | [x], [], _, e => simp at e
    | [x], _ :: _ :: _, _, e => simp at e
    | [x], [(w, h)], _, e =>
      have e : [w] = [x] := e
      injection e with e
      subst e
      refine ⟨[((w, h), 0)], .refl _, ?_, fun q hq => ?_, fun N _ => ?_⟩
      · show cs [(w, 0)] = 0
        simp [cs]
      · rw [List.mem_singleton.mp hq]
        have := hk.w (w, h) (by simp)
        have hT : w + 0 = T := by simpa using hT
        show fb (h + 0 + 1) ≤ T
        have : fb (h + 1) ≤ w := this
        rw [Nat.add_zero]
        omega
      · show kr N [(w, 0)] = _
        simp [kr]
  | f + 1, l, H, M, T, hl, ha, e, hk, hT => by
    match l, H, hl, ha, e, hT, hk with
    | [], _, hl, _, _, _, _ => simp at hl
    | [_], _, hl, _, _, _, _ => simp at hl
    | x :: y :: r, [], _, _, e, _, _ => simp at e
    | x :: y :: r, [_], _, _, e, _, _ => simp at e
    | x :: y :: r, (x', hx) :: (y', hy) :: R, hl, ha, e, hT, hk =>
      rw [List.map_cons, List.map_cons] at e
      injection e with e1 e
      injection e with e2 e3
      have e1 : x' = x := e1
      have e2 : y' = y := e2
      subst e1 e2
      have ha1 := List.pairwise_cons.mp ha
      have ha2 := List.pairwise_cons.mp ha1.2
      have hxy : x' ≤ y' := ha1.1 _ (by simp)
      have wx := hk.w (x', hx) (by simp)
      have wy := hk.w (y', hy) (by simp)
      have gx := hk.ge (x', hx) (by simp)
      have gy := hk.ge (y', hy) (by simp)
      have mx := hk.m (x', hx) (by simp)
      have my := hk.m (y', hy) (by simp)
      simp only at wx wy gx gy mx my
      have px := fb_pos (hx + 1)
      obtain ⟨g, hg1, hg2, hg3⟩ : ∃ g, hx ≤ g ∧ hy ≤ g ∧ (g = hx ∨ g = hy) := by
        by_cases z : hx ≤ hy
        · exact ⟨hy, z, Nat.le_refl _, .inr rfl⟩
        · exact ⟨hx, Nat.le_refl _, by omega, .inl rfl⟩
      have hnew : fb (g + 1 + 1) ≤ x' + y' := by
        show fb (g + 1) + fb g ≤ _
        rcases hg3 with z | z
        · subst z; omega
        · subst z; omega
      have hmg : fb (g + 1) ≤ y' := by
        rcases hg3 with z | z
        · subst z; omega
        · subst z; omega
      obtain ⟨H', hH', eH'⟩ := lift (·.1) (srt (r ++ [x' + y'])) ((x' + y', g + 1) :: R) (by
        rw [List.map_cons, e3]
        refine List.Perm.trans ?_ (srt_perm _).symm
        exact (List.perm_append_singleton _ _).symm)
      have hk' : HOk y' H' := by
        refine ⟨fun p hp => ?_, fun p hp => ?_, fun p hp => ?_⟩ <;> rcases List.mem_cons.mp (hH'.mem_iff.mp hp) with z | z
        · rw [z]; exact hnew
        · exact hk.w p (by simp [z])
        · rw [z]; exact hmg
        · have h1 := hk.m p (by simp [z])
          omega
        · rw [z]; show y' ≤ x' + y'; omega
        · exact ha2.1 p.1 (by rw [← e3]; exact List.mem_map.mpr ⟨p, z, rfl⟩)
      have hsum : (srt (r ++ [x' + y'])).sum = T := by
        rw [sum_perm (srt_perm _), List.sum_append, ← hT]
        simp only [List.sum_cons, List.sum_nil]
        omega
      obtain ⟨Q, q1, q2, q3, q4⟩ := J_code f (srt (r ++ [x' + y'])) H' y' T (by
            rw [(srt_perm _).length_eq, List.length_append]
            simp only [List.length_cons, List.length_nil] at hl ⊢
            omega) (srt_asc _) eH' hk' hsum
      -- the new one among them
      obtain ⟨Q', p1, p2⟩ := lift (·.1) _ Q (q1.trans hH')
      match Q', p2, p1 with
      | [], p2, _ => simp at p2
      | (z, d) :: Q2, p2, p1 =>
        rw [List.map_cons] at p2
        injection p2 with z1 z2
        have z1 : z = (x' + y', g + 1) := z1
        subst z1
        have q2 : cs (((x' + y', d) : WL) :: Q2.map fun q => (q.1.1, q.2)) = J f (srt (r ++ [x' + y'])) := by
          rw [← q2]
          exact cs_perm (p1.map fun q : WL × Nat => ((q.1.1, q.2) : WL))
        have q4 : ∀ N, d ≤ N → (∀ q ∈ Q2, q.2 ≤ N) → kr N (((x' + y', d) : WL) :: Q2.map fun q => (q.1.1, q.2)) = 2 ^ N := fun N hd hN => by
          rw [← q4 N fun q hq => ?_]
          · exact kr_perm N (p1.map fun q : WL × Nat => ((q.1.1, q.2) : WL))
          · rcases List.mem_cons.mp (p1.mem_iff.mpr hq) with y | y
            · rw [y]; exact hd
            · exact hN q y
        have q3n := q3 ((x' + y', g + 1), d) (p1.mem_iff.mp (by simp))
        refine ⟨((x', hx), d + 1) :: ((y', hy), d + 1) :: Q2, ?_, ?_, fun q hq => ?_, fun N hN => ?_⟩
        · rw [List.map_cons, List.map_cons, z2]
        · rw [J_succ, ← q2, List.map_cons, List.map_cons, cs_cons, cs_cons, cs_cons]
          show x' * ((d + 1 : Nat) : Int) + (y' * ((d + 1 : Nat) : Int) + _) = x' + y' + ((x' + y') * (d : Int) + _)
          push_cast
          rw [Int.mul_add, Int.mul_add, Int.add_mul]
          omega
        · rcases List.mem_cons.mp hq with y | y
          · rw [y]
            exact Int.le_trans (fb_mono (by show hx + (d + 1) + 1 ≤ g + 1 + d + 1; omega)) q3n
          · rcases List.mem_cons.mp y with y | y
            · rw [y]
              exact Int.le_trans (fb_mono (by show hy + (d + 1) + 1 ≤ g + 1 + d + 1; omega)) q3n
            · exact q3 q (p1.mem_iff.mp (by simp [y]))
        · have hd := hN ((x', hx), d + 1) (by simp)
          have hd : d + 1 ≤ N := hd
          have h5 := q4 N (by omega) fun q hq => hN q (by simp [hq])
          rw [kr_cons] at h5
          rw [List.map_cons, List.map_cons, kr_cons, kr_cons]
          show 2 ^ (N - (d + 1)) + (2 ^ (N - (d + 1)) + _) = _
          have h5 : 2 ^ (N - d) + kr N (Q2.map fun q => (q.1.1, q.2)) = 2 ^ N := h5
          rw [show N - d = N - (d + 1) + 1 by omega, Nat.pow_succ] at h5
          omega
/-! ### joining costs what the first items of the last row weigh -/
theorem zip_cs (ws : List Int) (F : List Nat) (h : F.length = ws.length) : cs (ws.zip F) = costI ws (asI F) := by
  unfold costI
  induction ws generalizing F with
  | nil => simp [cs]
  | cons w ws ih =>
    match F, h with
    | [], h => simp at h
    | l :: F, h =>
      have ih := ih F (by simpa using h)
      rw [List.zip_cons_cons, cs_cons, ih, List.length_cons, List.range_succ_eq_map, List.map_cons, List.sum_cons, List.map_map]
      rfl
theorem zip_kr (N : Nat) : ∀ (ws : List Int) (F : List Nat), F.length = ws.length → kr N (ws.zip F) = tot N F
  | [], [], _ => rfl
  | [], _ :: _, h => by simp at h
  | _ :: _, [], h => by simp at h
  | w :: ws, l :: F, h => by
    rw [List.zip_cons_cons, kr_cons, zip_kr N ws F (by simpa using h)]
    rfl
theorem zip_fst : ∀ (ws : List Int) (F : List Nat), F.length = ws.length → (ws.zip F).map (·.1) = ws
  | [], [], _ => rfl
  | [], _ :: _, h => by simp at h
  | _ :: _, [], h => by simp at h
  | w :: ws, l :: F, h => by rw [List.zip_cons_cons, List.map_cons, zip_fst ws F (by simpa using h)]
theorem zip_snd : ∀ (ws : List Int) (F : List Nat), ∀ p ∈ ws.zip F, p.2 ∈ F := fun ws F p hp => (List.of_mem_zip hp).2
theorem unzip_fst (P : List WL) : (P.map (·.1)).zip (P.map (·.2)) = P := by
  induction P with
  | nil => rfl
  | cons p P ih => rw [List.map_cons, List.map_cons, List.zip_cons_cons, ih]
theorem joined {ws : List Int} {R : List Pkg} (h1 : 2 ≤ ws.length) (hw : ∀ w ∈ ws, 1 ≤ w) (hs : ws.sum ≤ 8000) (h : Row ws 20 R) : 2 * ws.length - 2 ≤ R.length ∧ wt (R.take (2 * ws.length - 2)) = J (ws.length - 1) (srt ws) := by
  have h0 : ∀ i, 0 ≤ ws.getD i 0 := fun i => by
    rw [List.getD_eq_getElem?_getD]
    by_cases hi : i < ws.length
    · rw [List.getElem?_eq_getElem hi]
      have := hw _ (List.getElem_mem hi)
      show 0 ≤ ws[i]
      omega
    · rw [List.getElem?_eq_none (by omega)]
      decide
  have hl : (srt ws).length = ws.length - 1 + 1 := by rw [(srt_perm _).length_eq]; omega
  -- the code of joining
  obtain ⟨Q, q1, q2, q3, q4⟩ := J_code (ws.length - 1) (srt ws) ((srt ws).map fun w => (w, 0)) 1 (srt ws).sum hl (srt_asc _) (by
      rw [List.map_map]
      exact List.map_id _) ⟨fun p hp => by
      obtain ⟨w, hm, e⟩ := List.mem_map.mp hp
      rw [← e]
      exact hw w ((srt_perm _).mem_iff.mp hm), fun p hp => by
      obtain ⟨w, hm, e⟩ := List.mem_map.mp hp
      rw [← e]
      exact Int.le_refl _, fun p hp => by
      obtain ⟨w, hm, e⟩ := List.mem_map.mp hp
      rw [← e]
      exact hw w ((srt_perm _).mem_iff.mp hm)⟩ rfl
  have hd : ∀ q ∈ Q, q.2 ≤ 20 := fun q hq => by
    have h2 := q3 q hq
    rw [sum_perm (srt_perm ws)] at h2
    rcases Nat.lt_or_ge 20 q.2 with z | z
    · exfalso
      have h3 : fb 21 ≤ fb (q.1.2 + q.2 + 1) := fb_mono (by omega)
      have h4 : fb 21 = 17711 := by decide +kernel
      omega
    · exact z
  have hk := q4 20 hd
  have hpw : ((Q.map fun q : WL × Nat => ((q.1.1, q.2) : WL)).map (·.1)).Perm ws := by
    rw [List.map_map]
    have h2 := q1.map (fun p : WL => p.1)
    rw [List.map_map, List.map_map] at h2
    have e : ((fun p : WL => p.1) ∘ fun w : Int => ((w, 0) : WL)) = id := rfl
    rw [e, List.map_id] at h2
    exact h2.trans (srt_perm ws)
  obtain ⟨P, p1, p2⟩ := lift (fun p : WL => p.1) ws _ hpw
  have hP2 : ∀ p ∈ P, p.2 ≤ 20 := fun p hp => by
    obtain ⟨q, hq, e⟩ := List.mem_map.mp (p1.mem_iff.mp hp)
    rw [← e]
    exact hd q hq
  have hPl : (P.map (·.2)).length = ws.length := by rw [List.length_map, ← p2, List.length_map]
  have hzip : ws.zip (P.map (·.2)) = P := by
    conv => lhs; rw [← p2]
    exact unzip_fst P
  have hcost : costI ws (asI (P.map (·.2))) = J (ws.length - 1) (srt ws) := by
    rw [← zip_cs _ _ hPl, hzip, cs_perm p1, q2]
  have htot : tot 20 (P.map (·.2)) ≤ 2 ^ 20 := by
    rw [← zip_kr 20 ws _ hPl, hzip, kr_perm 20 p1, hk]
    exact Nat.le_refl _
  obtain ⟨g1, g2⟩ := least h0 (by omega) hPl (fun l hl => by
    obtain ⟨p, hp, e⟩ := List.mem_map.mp hl
    rw [← e]
    exact hP2 p hp) htot h
  refine ⟨g1, ?_⟩
  obtain ⟨c1, c2⟩ := fnd_code h1 h g1
  have h5 := J_le 20 (ws.length - 1) (srt ws) (ws.zip (fnd ws.length (R.take (2 * ws.length - 2)))) hl (srt_asc _) (fun x hx => by
    have := hw x ((srt_perm _).mem_iff.mp hx)
    omega) (by rw [zip_fst _ _ c1.len]; exact (srt_perm _).symm) (fun p hp => (c1.bd _ (zip_snd _ _ p hp)).2) (by rw [zip_kr _ _ _ c1.len]; exact c1.kr)
  rw [zip_cs _ _ c1.len, c2] at h5
  rw [hcost] at g2
  omega
end M05
set_option Elab.async false
set_option linter.all false
set_option maxRecDepth 100000
set_option maxHeartbeats 4000000
/-! Rows of packages: lists of tuples of a weight and a list of symbols; their sorting; every second item of a list; pairs of neighbours. -/
namespace KP
open PySem PySem.Spec PyProof.Rows L2 GX KC Evl M05
structure Rw (H : Hp) (vs : List V) (R : List Pkg) : Prop where
  len : vs.length = R.length
  at_ : ∀ (i : Nat) (x : Pkg), R[i]? = some x → ∃ t s : Addr, vs[i]? = some (V.ref t) ∧ H t = some (.tup [.int x.1, .ref s]) ∧ H s = some (.lst (x.2.map V.int))
def RowP (H : Hp) (p : Addr) (R : List Pkg) : Prop := ∃ vs, H p = some (.lst vs) ∧ Rw H vs R
theorem Rw.ext {H H' : Hp} {vs : List V} {R : List Pkg} (e : Ex H H') (h : Rw H vs R) : Rw H' vs R := ⟨h.len, fun i x hx => by
  obtain ⟨t, s, h1, h2, h3⟩ := h.at_ i x hx
  exact ⟨t, s, h1, e _ _ h2, e _ _ h3⟩⟩
theorem RowP.ext {H H' : Hp} {p : Addr} {R : List Pkg} (e : Ex H H') (h : RowP H p R) : RowP H' p R := by
  obtain ⟨vs, h1, h2⟩ := h
  exact ⟨vs, e _ _ h1, h2.ext e⟩
theorem Rw.nil {H : Hp} : Rw H [] [] := ⟨rfl, fun i x hx => by simp at hx⟩
theorem Rw.app {H : Hp} {vs ws : List V} {R S : List Pkg} (h : Rw H vs R) (h2 : Rw H ws S) : Rw H (vs ++ ws) (R ++ S) := by
  refine ⟨by rw [List.length_append, List.length_append, h.len, h2.len], fun i x hx => ?_⟩
  by_cases hi : i < R.length
  · rw [List.getElem?_append_left hi] at hx
    obtain ⟨t, s, a, b, c⟩ := h.at_ i x hx
    exact ⟨t, s, by rw [List.getElem?_append_left (by rw [h.len]; exact hi)]; exact a, b, c⟩
  · rw [List.getElem?_append_right (by omega)] at hx
    obtain ⟨t, s, a, b, c⟩ := h2.at_ _ x hx
    exact ⟨t, s, by rw [List.getElem?_append_right (by rw [h.len]; omega), h.len]; exact a, b, c⟩
theorem Rw.one {H : Hp} {t s : Addr} {x : Pkg} (h1 : H t = some (.tup [.int x.1, .ref s])) (h2 : H s = some (.lst (x.2.map V.int))) : Rw H [.ref t] [x] := ⟨rfl, fun i y hy => by
  cases i with
  | zero =>
    have : x = y := by simpa using hy
    subst this
    exact ⟨t, s, rfl, h1, h2⟩
  | succ i => simp at hy⟩
theorem Rw.take {H : Hp} {vs : List V} {R : List Pkg} (h : Rw H vs R) (n : Nat) : Rw H (vs.take n) (R.take n) := ⟨by rw [List.length_take, List.length_take, h.len], fun i x hx => by
  rw [List.getElem?_take] at hx
  split at hx
  · rename_i hi
    obtain ⟨t, s, a, b, c⟩ := h.at_ i x hx
    exact ⟨t, s, by rw [List.getElem?_take, if_pos hi]; exact a, b, c⟩
  · cases hx⟩
/-! ### sorting -/
def enc (x : Pkg) : PyData := .tuple [.int x.1, .list (x.2.map PyData.int)]
def Rel (H : Hp) (u : Value) (x : Pkg) : Prop := ∃ t s, u = .ref t ∧ H t = some (.tup [.int x.1, .ref s]) ∧ H s = some (.lst (x.2.map V.int))
theorem enc_alike (b b' : Pkg) : PySem.W.alike (enc b) (enc b') = true := by
  unfold enc
  simp only [PySem.W.alike, PySem.W.alikeAll, PySem.W.alike_ints, Bool.and_self]
theorem enc_depth (b : Pkg) : (enc b).depth ≤ 2 := by
  unfold enc
  simp only [PyData.depth, PyData.depthAll, PySem.W.depth_ints]
  decide
theorem enc_lt {a b : Pkg} (h : PySem.W.dataLt (enc b) (enc a) = false) : a.1 ≤ b.1 := by
  unfold enc at h
  rw [PySem.W.dataLt_pair (by simp [PySem.W.alike]) (by simp only [PySem.W.alike, PySem.W.alike_ints])] at h
  split at h
  · rename_i e
    have : b.1 = a.1 := by simpa [PyData.eqv] using e
    omega
  · rw [PySem.W.dataLt_int] at h
    have := of_decide_eq_false h
    omega
theorem reads_ints {h : Heap} : ∀ {ns : List Int} {us : List Value}, Vals (ns.map V.int) us → ReadsAll h us (ns.map PyData.int) []
  | [], _, r => by cases r; exact .nil
  | n :: ns, _, r => by
    cases r with
    | cons a b =>
      obtain ⟨t, rfl⟩ := a
      exact ReadsAll.cons (as := []) (bs := []) (.int n t) (reads_ints b)
section
variable {X : Cx} {pins : List (Addr × Obj)} {σ : L2.St} {H : Hp} {s : Shared}
theorem reads_it (I : Inv X pins σ H s) {u : Value} {x : Pkg} (h : Rel H u x) : ∃ sd, H sd = some (.lst (x.2.map V.int)) ∧ Reads s.heap u (enc x) [sd] := by
  obtain ⟨t, sd, rfl, h1, h2⟩ := h
  refine ⟨sd, h2, ?_⟩
  obtain ⟨_, its2, r2, o, ho, hc, n, hd⟩ := I.hok _ _ h1
  obtain ⟨u1, u2, rfl, ri, rj⟩ := vals2 r2
  obtain ⟨t1, rfl⟩ := ri
  cases rj
  obtain ⟨hz, its, n3, rv, hob⟩ := I.hok _ _ h2
  have hl : Reads s.heap (.ref sd) (.list (x.2.map PyData.int)) [sd] := Reads.list hob rfl rfl (by simpa using reads_ints rv)
  exact Reads.tuple ho hc hd (ReadsAll.cons (as := []) (bs := [sd]) (.int x.1 t1) (ReadsAll.cons (as := [sd]) (bs := []) hl .nil))
theorem each_of {R : List Pkg} {vs : List V} {its : List Value} (h : Rw H vs R) (rv : Vals vs its) : PySem.W.EachIs (Rel H) its R := by
  refine PySem.W.EachIs.of_zip (by rw [← rv.length, h.len]) fun p hp => ?_
  obtain ⟨i, hi, e⟩ := List.mem_iff_getElem.mp hp
  have e2 : (its.zip R)[i]? = some p := by rw [List.getElem?_eq_getElem hi, e]
  rw [List.getElem?_zip_eq_some] at e2
  obtain ⟨e3, e4⟩ := e2
  obtain ⟨t, sd, a, b, c⟩ := h.at_ i _ e4
  obtain ⟨u, hu, ru⟩ := rv.get a
  rw [e3] at hu
  have hu := Option.some.inj hu
  have ru : u = Value.ref t := by cases ru; rfl
  exact ⟨t, sd, hu.trans ru, b, c⟩
theorem rw_of : ∀ {R : List Pkg} {out : List Value}, PySem.W.EachIs (Rel H) out R → Rw H (out.map backV) R ∧ ∀ u ∈ out, ∃ a, u = Value.ref a
  | _, _, .nil => ⟨.nil, fun u hu => by simp at hu⟩
  | _, _, .cons (as := as) (bs := bs) ⟨t, sd, e, h1, h2⟩ r => by
    subst e
    obtain ⟨g1, g2⟩ := rw_of r
    refine ⟨(Rw.one h1 h2).app g1, fun u hu => ?_⟩
    rcases List.mem_cons.mp hu with z | z
    · exact ⟨t, z⟩
    · exact g2 u z
theorem each_reads (I : Inv X pins σ H s) {R : List Pkg} {its : List Value} {a : Addr} (h : PySem.W.EachIs (Rel H) its R) (ha : ∀ ns : List Int, H a ≠ some (.lst (ns.map V.int))) : PySem.W.EachIs (fun v b => ∃ as, Reads s.heap v (enc b) as ∧ a ∉ as) its R :=
  h.mono fun v b hb => by
    obtain ⟨sd, h1, h2⟩ := reads_it I hb
    refine ⟨[sd], h2, fun z => ?_⟩
    have := List.mem_singleton.mp z
    subst this
    exact ha _ h1
theorem sorted_asc (R : List Pkg) : Asc (R.mergeSort (PySem.W.dataLe false enc)) := by
  have h := PySem.W.sort_pairwise (PySem.W.sortLe_total (PyProof.Rows.listOrd PyProof.Rows.itemOrd) false fun b => PySem.W.keyToks (enc b)) R
  refine List.Pairwise.imp (fun {a b} hab => ?_) h
  refine enc_lt ?_
  have hab : PySem.W.dataLe false enc a b = true := hab
  rw [PySem.W.dataLe_eq] at hab
  simpa using hab
end
theorem row_ne {H : Hp} {a : Addr} {vs : List V} {R : List Pkg} (ha : H a = some (.lst vs)) (h : Rw H vs R) (hR : R ≠ []) (ns : List Int) : H a ≠ some (.lst (ns.map V.int)) := fun z => by
  obtain ⟨x, r, rfl⟩ := List.exists_cons_of_ne_nil hR
  obtain ⟨t, sd, h1, _, _⟩ := h.at_ 0 x rfl
  rw [ha] at z
  have z := HO.lst.inj (Option.some.inj z)
  subst z
  rw [List.getElem?_map] at h1
  cases e : ns[0]? with
  | none => rw [e] at h1; cases h1
  | some n => rw [e] at h1; cases h1
/-- xs.sort() of a row -/
def rSortR : V → List V → Hp → VK → Prop := fun x xs H Q => ∃ (a : Addr) (vs : List V) (R : List Pkg), x = .ref a ∧ xs = [] ∧ H a = some (.lst vs) ∧ Rw H vs R ∧ R ≠ [] ∧ ∀ ws R', Rw (upd H a (.lst ws)) ws R' → R'.Perm R → Asc R' → Q .non (upd H a (.lst ws))
theorem rw_put {H : Hp} {a : Addr} {vs ws zs : List V} {R : List Pkg} (ha : H a = some (.lst vs)) (hn : ∀ ns : List Int, H a ≠ some (.lst (ns.map V.int))) (h : Rw H ws R) : Rw (upd H a (.lst zs)) ws R := ⟨h.len, fun i x hx => by
  obtain ⟨t, s, h1, h2, h3⟩ := h.at_ i x hx
  refine ⟨t, s, h1, ?_, ?_⟩
  · rw [upd_ne (fun e => by rw [e, ha] at h2; cases h2)]; exact h2
  · rw [upd_ne (fun e => by rw [e] at h3; exact hn _ h3)]; exact h3⟩
section
variable {X : Cx}
theorem mt_sortR (hu : X.A.units + 64 < cLine) : MtR X "list.sort" rSortR := by
  intro pins s σ H x xs v us Q I rx rxs h
  obtain ⟨a, vs, R, rfl, rfl, ha, hR, hne, q⟩ := h
  cases rx
  cases rxs
  obtain ⟨hz, its, n, rv, hob⟩ := I.hok a _ ha
  have hn := row_ne ha hR hne
  have e := each_of hR rv
  refine PySem.W.list_sort_data hob e (each_reads I e hn) (PySem.W.AllAlike.of enc_alike) (PySem.W.Sortable.tuples (enc := enc) fun b => ⟨_, _, rfl⟩) (by rw [← hR.len]; exact hz) (fun b _ => by have h2 := enc_depth b; show X.A.units + _ + (enc b).depth < _; omega) fun out ho eo => ?_
  obtain ⟨w1, w2⟩ := rw_of eo
  obtain ⟨ep, he'⟩ := PyProof.Rows.sortedHeap_at (vs := its) (out := out.toArray) hob
  have hlen : (out.map backV).length ≤ sizeLine := by
    rw [List.length_map, ho, ← hR.len]
    exact hz
  refine ⟨.non, upd H a (.lst (out.map backV)), I.write (e := a) (t' := s.toks) (by rw [ha]; trivial) (.inl rfl) (fun b u hb hu => ?_) ⟨_, he'⟩ ⟨hlen, out, ep, vals_back w2, he'⟩, rfl, q _ _ (rw_put ha hn w1) (List.mergeSort_perm _ _) (sorted_asc R)⟩
  rw [PyProof.Rows.sortedHeap_old hb (Heap.lt_size hu)]; exact hu
/-- sorted(xs) of a row -/
def rSortedR : List V → Hp → VK → Prop := fun xs H Q => ∃ (a : Addr) (vs : List V) (R : List Pkg), xs = [.ref a] ∧ H a = some (.lst vs) ∧ Rw H vs R ∧ ∀ p ws R', H p = none → Rw (upd H p (.lst ws)) ws R' → R'.Perm R → Asc R' → Q (.ref p) (upd H p (.lst ws))
theorem cr_sortedR (hu : X.A.units + 64 < cLine) : CallR X (.builtin "sorted") rSortedR := by
  intro pins s σ H xs us Q I r h
  obtain ⟨a, vs, R, rfl, ha, hR, q⟩ := h
  rw [Vals.ref1 r]
  obtain ⟨hz, its, n, rv, hob⟩ := I.hok a _ ha
  have e := each_of hR rv
  refine PySem.W.sorted_data (s := s) (l := a) (vs := its) ⟨_, hob, rfl, n, rfl⟩ e (e.mono fun v b hb => by
    obtain ⟨sd, _, h2⟩ := reads_it I hb
    exact ⟨_, h2⟩) (PySem.W.AllAlike.of enc_alike) (PySem.W.Sortable.tuples (enc := enc) fun b => ⟨_, _, rfl⟩) (by rw [← hR.len]; exact hz) (fun b _ => by have h2 := enc_depth b; show X.A.units + _ + (enc b).depth < _; omega) fun out ho eo => ?_
  obtain ⟨w1, w2⟩ := rw_of eo
  obtain ⟨ep, he'⟩ := PyProof.Rows.sortedAll_at s.heap its out.toArray
  have hlen : (out.map backV).length ≤ sizeLine := by
    rw [List.length_map, ho, ← hR.len]
    exact hz
  have hf := I.hok.fresh (Nat.le_succ s.heap.objs.size)
  exact ⟨.ref _, upd H (s.heap.objs.size + 1) (.lst (out.map backV)), I.laid (t' := s.toks) (fun _ _ => PyProof.Rows.sortedAll_old) (Nat.le_succ _) ⟨hlen, out, ep, vals_back w2, he'⟩, rfl, q _ _ _ hf (w1.ext (Ex.new hf)) (List.mergeSort_perm _ _) (sorted_asc R)⟩
end
section
variable {X : Cx} {p pos : Pos} {e : Expr} {tg : TGx} {k : Nat}
theorem pe_sortedG2 (h : PGx X k e tg) (hr : Room (k + 5) X.A) (hg : Gl X "sorted") (hm : X.mg "sorted" = none)
    (he : starEach [e] X.env = (false, eval e X.env) :: starEach [] X.env := by rfl) : PE X (.Call (.Name "sorted" p) [e] [] pos) (tSortedG tg rSortR) := by
  have hs : MtR { X with A := X.A.in1 } "list.sort" rSortR := mt_sortR (by have := hr.un; show X.A.units + 1 + 64 < _; omega)
  refine ⟨fun pins s σ H Q I hq => ?_⟩
  refine wpAny_Call_Name_kw (ld_blt I hg hm boot_sorted' ?_)
  refine PyProof.Rows.callWith_builtin1 ?_ he (by rfl)
  rw [he]
  show wpAny _ _ (spliced ((false, eval e X.env) :: backTo pos (starEach [] X.env))) _ _ s
  refine Calls.spliced_cons (thn (h.run pins s σ H _ _ I hq) fun u s1 hG => ?_)
  refine Calls.spliced_nil ?_
  refine Calls.call_function_entry kind_sorted plain_sorted entry_sorted (args_sorted1 _) ?_
  unfold Builtin.«sorted»
  refine wpAny_bind (m := checkCount "sorted" 1 1 _) (wpAny_pure ?_)
  have hr1 : Room (k + 4) X.A.in1 := ⟨hr.hd, by have := hr.dp; show X.A.depth + 3 * (k + 4) + 5 < _; omega, by have := hr.un; show X.A.units + 1 + 16 * (k + 4) + 200 < _; omega⟩
  refine wpAny_bind (collect_gx (pins := pins) (σ := σ) hr1 I.ok.frames (fun _ _ _ => trivial) hG fun s' its ys H1 hlen hv I1 hq1 => ?_)
  have hil : its.length ≤ sizeLine := by rw [← hv.length]; exact hlen
  refine wpAny_bind (wpAny_newList ?_ hil)
  have fresh : H1 s'.heap.objs.size = none := I1.hok.fresh (Nat.le_refl _)
  have I2 : Inv X pins σ (upd H1 s'.heap.objs.size (.lst ys)) { s' with heap := s'.heap.push (seqObj "list" its.toArray 0) } :=
    I1.laid (t' := s'.toks) (fun _ _ e => Heap.get?_push_of_some _ e) (Nat.le_refl _) ⟨hlen, its, 0, hv, Heap.get?_push_size _ rfl⟩
  refine wpAny_bind (wpAny_holding ?_)
  refine wpAny_mono (hs pins _ σ _ (.ref s'.heap.objs.size) [] (.ref s'.heap.objs.size) [] _ (inv_A (A' := X.A.in1) I2 rfl rfl) rfl .nil (hq1 _ fresh)) (fun v s3 h3 => ?_) fun _ _ e => e
  obtain ⟨v', H3, I3, r3, q3⟩ := h3
  exact wpAny_pure ⟨_, rfl, .ref s'.heap.objs.size, H3, inv_A' I3 rfl rfl, rfl, q3⟩
end
end KP
set_option Elab.async false
set_option linter.all false
set_option maxRecDepth 100000
set_option maxHeartbeats 4000000
/-! Every second item of a list; a list of pairs of neighbours joined. -/
namespace KP
open PySem PySem.Spec PyProof.Rows L2 GX KC Evl M05
def ev2 {α : Type} : List α → List α
  | x :: _ :: r => x :: ev2 r
  | l => l
theorem ev2_get {α : Type} : ∀ (l : List α) (i : Nat), (ev2 l)[i]? = l[2 * i]?
  | [], i => by simp [ev2]
  | [x], 0 => rfl
  | [x], i + 1 => by
    show ([x] : List α)[i + 1]? = _
    rw [List.getElem?_eq_none (by simp), List.getElem?_eq_none (by simp; omega)]
  | x :: y :: r, 0 => rfl
  | x :: y :: r, i + 1 => by
    show (x :: ev2 r)[i + 1]? = _
    rw [show 2 * (i + 1) = 2 * i + 1 + 1 by omega, List.getElem?_cons_succ, List.getElem?_cons_succ, List.getElem?_cons_succ]
    exact ev2_get r i
theorem ev2_len {α : Type} : ∀ (l : List α), (ev2 l).length = (l.length + 1) / 2
  | [] => by simp [ev2]
  | [x] => by simp [ev2]
  | x :: y :: r => by
    show (x :: ev2 r).length = _
    have := ev2_len r
    simp only [List.length_cons]
    omega
theorem ev2_pick {α : Type} : ∀ (l : List α), (List.range ((l.length + 1) / 2)).filterMap (fun k => l[2 * k]?) = ev2 l
  | [] => by simp [ev2]
  | [x] => by simp [ev2]
  | x :: y :: r => by
    have ih := ev2_pick r
    have e : ((x :: y :: r).length + 1) / 2 = (r.length + 1) / 2 + 1 := by simp only [List.length_cons]; omega
    rw [e, List.range_succ_eq_map, List.filterMap_cons, List.filterMap_map]
    show x :: List.filterMap _ _ = x :: ev2 r
    rw [← ih]
    congr 1
theorem Vals.ev2 : ∀ {xs : List V} {us : List Value}, Vals xs us → Vals (ev2 xs) (ev2 us)
  | _, _, .nil => .nil
  | _, _, .cons r .nil => .cons r .nil
  | _, _, .cons r (.cons _ t) => .cons r (Vals.ev2 t)
theorem range_two (n c : Nat) (h : c ≤ n) : sliceRange (c : Int) (n : Int) 2 = (List.range ((n - c + 1) / 2)).map fun k => c + 2 * k := by
  unfold sliceRange
  have e : (if (2 : Int) > 0 then (if (c : Int) < (n : Int) then ((n : Int) - c + 2 - 1) / 2 else 0) else (if (c : Int) > (n : Int) then ((c : Int) - n - 2 - 1) / (-2) else 0)).toNat = (n - c + 1) / 2 := by
    rw [if_pos (by decide)]
    split <;> omega
  simp only [e]
  refine List.map_congr_left fun k _ => ?_
  omega
theorem fm_congr {α β : Type} {f g : α → Option β} : ∀ {l : List α}, (∀ x ∈ l, f x = g x) → l.filterMap f = l.filterMap g
  | [], _ => rfl
  | x :: l, h => by
    rw [List.filterMap_cons, List.filterMap_cons, h x List.mem_cons_self, fm_congr fun y hy => h y (List.mem_cons_of_mem _ hy)]
theorem pick_two (its : List Value) (c : Nat) (h : c ≤ its.length) : ((sliceRange (c : Int) (its.length : Int) 2).filterMap (its.toArray[·]?)).toArray = (ev2 (its.drop c)).toArray := by
  rw [range_two _ _ h, ← ev2_pick, List.filterMap_map, List.length_drop]
  congr 1
  refine fm_congr fun k _ => ?_
  show its.toArray[c + 2 * k]? = _
  rw [List.getElem?_toArray, List.getElem?_drop]
theorem pick_20 (its : List Value) : slicePick its.toArray none none (some 2) = (ev2 (its.drop 0)).toArray := by
  rw [← pick_two its 0 (Nat.zero_le _)]
  unfold slicePick
  have e : sliceBounds none none (some 2) its.toArray.size = (((0 : Nat) : Int), (its.length : Int), 2) := by simp [sliceBounds]
  rw [e]
theorem pick_21 (its : List Value) : slicePick its.toArray (some 1) none (some 2) = (ev2 (its.drop 1)).toArray := by
  unfold slicePick
  have e : sliceBounds (some 1) none (some 2) its.toArray.size = (((min 1 its.length : Nat) : Int), (its.length : Int), 2) := by
    simp only [sliceBounds, Option.getD_some, List.size_toArray, show (2 : Int) > 0 by decide, if_true, show ¬ ((1 : Int) < 0) by decide, if_false]
    refine Prod.ext ?_ rfl
    show max 0 (min 1 (its.length : Int)) = ((min 1 its.length : Nat) : Int)
    omega
  rw [e]
  show ((sliceRange ((min 1 its.length : Nat) : Int) (its.length : Int) 2).filterMap (its.toArray[·]?)).toArray = _
  rw [pick_two its _ (by omega)]
  congr 2
  cases its with
  | nil => rfl
  | cons x r =>
    have : min 1 (x :: r).length = 1 := by simp only [List.length_cons]; omega
    rw [this]
/-- xs[c::2], c = 0 or 1 -/
def tEv2 (K : PySem.W.Frag) (te : TE) (c : Nat) : TE := fun σ H Q => te σ H fun x H1 => ∃ a xs, x = .ref a ∧ SqL K H1 a xs ∧ ∀ p, H1 p = none → Q (.ref p) (upd H1 p (.lst (ev2 (xs.drop c))))
section
variable {X : Cx} {e : Expr} {te : TE} {k k0 : Nat} {p0 p1 p2 p3 pos : Pos}
theorem pe_ev20 (he : PE X e te) : PE X (.Subscript e (.Slice none none (some (.Constant (.int 2) k p1)) p3) pos) (tEv2 X.K te 0) := by
  refine ⟨fun pins s σ H Q I h => ?_⟩
  refine Subscript_ (thn (he.run pins s σ H _ I h) fun v s1 ⟨x, H1, I1, r1, q1⟩ => ?_)
  obtain ⟨a, xs, ex, hx, q⟩ := q1
  subst ex
  cases r1
  have hst : PO X (some (.Constant (.int 2) k p1)) (tPart (tC (.int 2))) := po_some pe_int
  refine wpAny_Slice (thn (po_none.run pins s1 σ H1 (fun o H2 => o = none ∧ H2 = H1) I1 ⟨rfl, rfl⟩) fun vl s2 ⟨l, H2, I2, pl, el, e2⟩ => ?_)
  subst el e2
  refine thn (po_none.run pins s2 σ H2 (fun o H3 => o = none ∧ H3 = H2) I2 ⟨rfl, rfl⟩) fun vu s3 ⟨u, H3, I3, pu, eu, e3⟩ => ?_
  subst eu e3
  refine thn (hst.run pins s3 σ H3 (fun o H4 => o = some 2 ∧ H4 = H3) I3 ⟨2, rfl, rfl, rfl⟩) fun vs s4 ⟨o, H4, I4, ps, eo, e4⟩ => ?_
  subst eo e4
  have I5 : Inv X pins σ H4 { s4 with heap := s4.heap.push { cls := .type "slice", data := .fields #[vl, vu, vs] } } := I4.kept (t' := s4.toks) fun b ob q => Heap.get?_push_of_some _ q
  obtain ⟨its, r, ht, hz⟩ := I5.list hx
  have hlen := r.length
  show wpAny (model X.prog X.w) X.A (subscriptTail e (.Slice none none (some (.Constant (.int 2) k p1)) p3) (.ref a) (.ref s4.heap.objs.size)) (EP X pins σ Q) X.xe { s4 with heap := s4.heap.push { cls := .type "slice", data := .fields #[vl, vu, vs] } }
  refine tail_any (ops := [.ref a, .ref s4.heap.objs.size]) ht.isList.typeIs (PySem.slot_list_getitem.lookup) ?_ (by with_unfolding_all rfl)
  refine wpAny_getItem_list_slice ht.isList (Heap.IsSliceOf.new _ vl vu vs) pl pu ps (by decide) ?_ (by rw [List.size_toArray]; omega)
  rw [pick_20]
  refine ⟨.ref _, _, I5.laid (t' := s4.toks) (o := .lst (ev2 (xs.drop 0))) (fun b ob q => Heap.get?_push_of_some _ q) (Nat.le_refl _) ?_, rfl, q _ (I5.hok.fresh (Nat.le_refl _))⟩
  exact ⟨by rw [ev2_len, List.length_drop]; omega, _, 0, Vals.ev2 (r.drop 0), Heap.get?_push_size _ rfl⟩
theorem pe_ev21 (he : PE X e te) : PE X (.Subscript e (.Slice (some (.Constant (.int 1) k0 p0)) none (some (.Constant (.int 2) k p1)) p3) pos) (tEv2 X.K te 1) := by
  refine ⟨fun pins s σ H Q I h => ?_⟩
  refine Subscript_ (thn (he.run pins s σ H _ I h) fun v s1 ⟨x, H1, I1, r1, q1⟩ => ?_)
  obtain ⟨a, xs, ex, hx, q⟩ := q1
  subst ex
  cases r1
  have hst : PO X (some (.Constant (.int 2) k p1)) (tPart (tC (.int 2))) := po_some pe_int
  have hlo : PO X (some (.Constant (.int 1) k0 p0)) (tPart (tC (.int 1))) := po_some pe_int
  refine wpAny_Slice (thn (hlo.run pins s1 σ H1 (fun o H2 => o = some 1 ∧ H2 = H1) I1 ⟨1, rfl, rfl, rfl⟩) fun vl s2 ⟨l, H2, I2, pl, el, e2⟩ => ?_)
  subst el e2
  refine thn (po_none.run pins s2 σ H2 (fun o H3 => o = none ∧ H3 = H2) I2 ⟨rfl, rfl⟩) fun vu s3 ⟨u, H3, I3, pu, eu, e3⟩ => ?_
  subst eu e3
  refine thn (hst.run pins s3 σ H3 (fun o H4 => o = some 2 ∧ H4 = H3) I3 ⟨2, rfl, rfl, rfl⟩) fun vs s4 ⟨o, H4, I4, ps, eo, e4⟩ => ?_
  subst eo e4
  have I5 : Inv X pins σ H4 { s4 with heap := s4.heap.push { cls := .type "slice", data := .fields #[vl, vu, vs] } } := I4.kept (t' := s4.toks) fun b ob q => Heap.get?_push_of_some _ q
  obtain ⟨its, r, ht, hz⟩ := I5.list hx
  have hlen := r.length
  show wpAny (model X.prog X.w) X.A (subscriptTail e (.Slice (some (.Constant (.int 1) k0 p0)) none (some (.Constant (.int 2) k p1)) p3) (.ref a) (.ref s4.heap.objs.size)) (EP X pins σ Q) X.xe { s4 with heap := s4.heap.push { cls := .type "slice", data := .fields #[vl, vu, vs] } }
  refine tail_any (ops := [.ref a, .ref s4.heap.objs.size]) ht.isList.typeIs (PySem.slot_list_getitem.lookup) ?_ (by with_unfolding_all rfl)
  refine wpAny_getItem_list_slice ht.isList (Heap.IsSliceOf.new _ vl vu vs) pl pu ps (by decide) ?_ (by rw [List.size_toArray]; omega)
  rw [pick_21]
  refine ⟨.ref _, _, I5.laid (t' := s4.toks) (o := .lst (ev2 (xs.drop 1))) (fun b ob q => Heap.get?_push_of_some _ q) (Nat.le_refl _) ?_, rfl, q _ (I5.hok.fresh (Nat.le_refl _))⟩
  exact ⟨by rw [ev2_len, List.length_drop]; omega, _, 0, Vals.ev2 (r.drop 1), Heap.get?_push_size _ rfl⟩
end
/-! ### pairs of neighbours -/
theorem pk_get : ∀ (R : List Pkg) (i : Nat) (z : Pkg), (pk R)[i]? = some z → ∃ x y, R[2 * i]? = some x ∧ R[2 * i + 1]? = some y ∧ z = (x.1 + y.1, x.2 ++ y.2)
  | [], i, z, h => by simp [pk] at h
  | [_], i, z, h => by simp [pk] at h
  | x :: y :: r, 0, z, h => by
    have h : some (x.1 + y.1, x.2 ++ y.2) = some z := h
    exact ⟨x, y, rfl, rfl, (Option.some.inj h).symm⟩
  | x :: y :: r, i + 1, z, h => by
    have h : (pk r)[i]? = some z := h
    obtain ⟨a, b, h1, h2, h3⟩ := pk_get r i z h
    refine ⟨a, b, ?_, ?_, h3⟩
    · rw [show 2 * (i + 1) = 2 * i + 1 + 1 by omega, List.getElem?_cons_succ, List.getElem?_cons_succ]; exact h1
    · rw [show 2 * (i + 1) + 1 = 2 * i + 1 + 1 + 1 by omega, List.getElem?_cons_succ, List.getElem?_cons_succ]; exact h2
/-- a row that does not stand at D -/
structure RwN (D : Addr) (H : Hp) (vs : List V) (R : List Pkg) : Prop where
  len : vs.length = R.length
  at_ : ∀ (i : Nat) (x : Pkg), R[i]? = some x → ∃ t s : Addr, vs[i]? = some (V.ref t) ∧ H t = some (.tup [.int x.1, .ref s]) ∧ H s = some (.lst (x.2.map V.int)) ∧ t ≠ D ∧ s ≠ D
theorem RwN.rw {D : Addr} {H : Hp} {vs : List V} {R : List Pkg} (h : RwN D H vs R) : Rw H vs R := ⟨h.len, fun i x hx => by
  obtain ⟨t, s, h1, h2, h3, _, _⟩ := h.at_ i x hx
  exact ⟨t, s, h1, h2, h3⟩⟩
theorem RwN.ext {D : Addr} {H H' : Hp} {vs : List V} {R : List Pkg} (e : Ex H H') (h : RwN D H vs R) : RwN D H' vs R := ⟨h.len, fun i x hx => by
  obtain ⟨t, s, h1, h2, h3, h4⟩ := h.at_ i x hx
  exact ⟨t, s, h1, e _ _ h2, e _ _ h3, h4⟩⟩
theorem RwN.put {D : Addr} {H : Hp} {vs : List V} {R : List Pkg} {o : HO} (h : RwN D H vs R) : RwN D (upd H D o) vs R := ⟨h.len, fun i x hx => by
  obtain ⟨t, s, h1, h2, h3, h4, h5⟩ := h.at_ i x hx
  exact ⟨t, s, h1, by rw [upd_ne h4]; exact h2, by rw [upd_ne h5]; exact h3, h4, h5⟩⟩
theorem RwN.snoc {D : Addr} {H : Hp} {vs : List V} {R : List Pkg} {t s : Addr} {x : Pkg} (h : RwN D H vs R) (h1 : H t = some (.tup [.int x.1, .ref s])) (h2 : H s = some (.lst (x.2.map V.int))) (h3 : t ≠ D) (h4 : s ≠ D) : RwN D H (vs ++ [.ref t]) (R ++ [x]) := by
  refine ⟨by rw [List.length_append, List.length_append, h.len]; rfl, fun i y hy => ?_⟩
  by_cases hi : i < R.length
  · rw [List.getElem?_append_left hi] at hy
    obtain ⟨t', s', a, b⟩ := h.at_ i y hy
    exact ⟨t', s', by rw [List.getElem?_append_left (by rw [h.len]; exact hi)]; exact a, b⟩
  · rw [List.getElem?_append_right (by omega)] at hy
    have hi0 : i - R.length = 0 := by
      rcases Nat.eq_zero_or_pos (i - R.length) with z | z
      · exact z
      · rw [List.getElem?_eq_none (by simp; omega)] at hy; cases hy
    rw [hi0] at hy
    have : x = y := by simpa using hy
    subst this
    exact ⟨t, s, by rw [List.getElem?_append_right (by rw [h.len]; omega), h.len, hi0]; rfl, h1, h2, h3, h4⟩
section
variable {K : PySem.W.Frag} {σ : L2.St} {H : Hp} {ta tb te : TE}
theorem el_ev2 {a : Addr} {xs : List V} {c : Nat} (h : Ev te σ H (.ref a)) (hs : SqL K H a xs) : EvL (tEv2 K te c) σ H (ev2 (xs.drop c)) := fun H1 e Q q =>
  h H1 e _ fun H2 e2 => ⟨a, xs, rfl, ex_l (e.trans e2) hs, fun p hp => q p _ (fresh_back e2 hp) (e2.trans (Ex.new hp)) upd_same⟩
theorem ep_lcPk {us : List V} {R : List Pkg} {j k : Nat} {vs : List Nat} (ha : EvL ta σ H (ev2 (us.drop 0))) (hb : EvL tb σ H (ev2 (us.drop 1))) (hR : Rw H us R) (hz : R.length ≤ 40000) (hw : ∀ x y, wipe (((wipe σ vs).set j (some x)).set k (some y)) vs = wipe σ vs)
    (he : ∀ (x y : Pkg) (t1 t2 s1 s2 : Addr) H1, Ex H H1 → x ∈ R → y ∈ R → H1 t1 = some (.tup [.int x.1, .ref s1]) → H1 s1 = some (.lst (x.2.map V.int)) → H1 t2 = some (.tup [.int y.1, .ref s2]) → H1 s2 = some (.lst (y.2.map V.int)) →
      EvP te (((wipe σ vs).set j (some (.ref t1))).set k (some (.ref t2))) H1 fun v H2 => ∃ t s, v = .ref t ∧ H2 t = some (.tup [.int (x.1 + y.1), .ref s]) ∧ H2 s = some (.lst ((x.2 ++ y.2).map V.int)) ∧ H1 t = none ∧ H1 s = none) :
    EvP (tLc (iZip K (tCons ta (tCons tb tNil))) (gTup K 2 (gCons (gName j) (gCons (gName k) gNil))) tYes te vs) σ H fun v H' => ∃ p, v = .ref p ∧ H p = none ∧ RowP H' p (pk R) := fun H0 e Q q =>
  ha H0 e _ fun p1 H1 n1 e1 h1 => hb H1 (e.trans e1) _ fun p2 H2 n2 e2 h2 => by
  have e02 := (e.trans e1).trans e2
  have h1' := e2 _ _ h1
  have hpl := pk_len R
  refine ⟨p1, p2, _, _, rfl, sq_of h1', sq_of h2, fun Dl hD => ⟨fun i m H' => m + i = (pk R).length ∧ Ex H2 H' ∧ ∃ acc, H' Dl = some (.lst acc) ∧ RwN Dl H' acc ((pk R).take i), ⟨(pk R).length, by omega, Ex.new hD, [], upd_same, ⟨rfl, fun i x hx => by simp at hx⟩⟩, ?_⟩⟩
  rintro i m H' ⟨hm, ex, acc, hacc, hrw⟩
  have x1 := ex _ _ h1'
  have x2 := ex _ _ h2
  by_cases hi : i < (pk R).length
  · right
    obtain ⟨x, y, gx, gy, gz⟩ := pk_get R i _ (List.getElem?_eq_getElem hi)
    obtain ⟨t1, s1, a1, a2, a3⟩ := hR.at_ _ x gx
    obtain ⟨t2, s2, b1, b2, b3⟩ := hR.at_ _ y gy
    have f1 : (ev2 (us.drop 0))[i]? = some (.ref t1) := by rw [ev2_get, List.drop_zero]; exact a1
    have f2 : (ev2 (us.drop 1))[i]? = some (.ref t2) := by rw [ev2_get, List.getElem?_drop, show 1 + 2 * i = 2 * i + 1 by omega]; exact b1
    refine ⟨⟨_, _, _, _, sq_of x1, sq_of x2, f1, f2⟩, fun H' => (m - 1) + (i + 1) = (pk R).length ∧ Ex H2 H' ∧ ∃ acc, H' Dl = some (.lst acc) ∧ RwN Dl H' acc ((pk R).take (i + 1)), fun H' q => ⟨m - 1, by omega, q⟩, ?_⟩
    rintro v H5 ⟨T, x', y', rfl, hT, rfl, hx, hy⟩
    have ex1 := (Option.some.inj (f1.symm.trans (hx _ (sq_of x1)))).symm
    have ey1 := (Option.some.inj (f2.symm.trans (hy _ (sq_of x2)))).symm
    subst ex1 ey1
    have eT : Ex H' (upd H' T (.tup [.ref t1, .ref t2])) := Ex.new hT
    have e05 := (e02.trans ex).trans eT
    refine ⟨T, _, rfl, .inl (.inl upd_same), rfl, _, _, rfl, _, _, rfl, rfl, ?_⟩
    refine ⟨hw _ _, tt_yes ?_⟩
    have hp := he x y t1 t2 s1 s2 _ e05 (List.mem_of_getElem? gx) (List.mem_of_getElem? gy) (e05 _ _ a2) (e05 _ _ a3) (e05 _ _ b2) (e05 _ _ b3)
    refine hp _ (Ex.refl _) _ fun w H6 e6 hw6 => ?_
    obtain ⟨t, s, rfl, g1, g2, g3, g4⟩ := hw6
    have e56 := eT.trans e6
    have hd5 := eT _ _ hacc
    have nt : t ≠ Dl := fun z => by rw [z, hd5] at g3; cases g3
    have ns : s ≠ Dl := fun z => by rw [z, hd5] at g4; cases g4
    refine ⟨acc, e56 _ _ hacc, sz_lt (by rw [hrw.len, List.length_take]; omega), by omega, ?_, _, upd_same, ?_⟩
    · refine Ex.mut (ex.trans e56) hD
    · have htk : (pk R).take (i + 1) = (pk R).take i ++ [(x.1 + y.1, x.2 ++ y.2)] := by
        rw [List.take_succ, List.getElem?_eq_getElem hi, gz]
        rfl
      rw [htk]
      exact ((hrw.ext e56).snoc g1 g2 nt ns).put
  · left
    have hin : i = (pk R).length := by omega
    subst hin
    rw [List.take_length] at hrw
    have l1 := ev2_len (us.drop 1)
    rw [List.length_drop, hR.len] at l1
    refine ⟨⟨_, _, sq_of x1, sq_of x2, .inr (by rw [l1, hpl]; omega)⟩, q _ _ ((e1.trans e2).trans ex) ⟨Dl, rfl, fresh_back e02 hD, acc, hacc, hrw.rw⟩⟩
end
end KP
set_option Elab.async false
set_option linter.all false
set_option maxRecDepth 100000
set_option maxHeartbeats 4000000
namespace K05
open PySem PySem.Spec PyProof.Rows L2 GX KC Evl KP M05
section
variable {P : Program} {w : World} {K : PySem.W.Frag} {mg : Str → Option Value} {base : Heap} {σ : L2.St} {H : Hp} {ta tb te : TE}
def spPackages (K : PySem.W.Frag) : Sp := fun vs H Q _ => ∃ (p : Addr) (R : List Pkg), vs = [.ref p] ∧ RowP H p R ∧ R.length ≤ 1000 ∧ (∀ x ∈ R, x.2.length ≤ 5000) ∧ ∀ q H2, H q = none → Ex H H2 → RowP H2 q (pk R) → Q (.ref q) H2
theorem ep_tup2L {x : L2.V} {xs : List L2.V} (h1 : Ev ta σ H x) (h3 : EvL tb σ H xs) : EvP (tTup (tCons ta (tCons tb tNil))) σ H fun v H' => ∃ p q, v = .ref p ∧ H' p = some (.tup [x, .ref q]) ∧ H' q = some (.lst xs) ∧ H p = none ∧ H q = none := fun H1 e Q k =>
  h1 H1 e _ fun H2 e2 => h3 H2 (e.trans e2) _ fun q H4 hq e4 hx => ⟨by show 2 ≤ sizeLine; decide, fun p hp => by
    have e5 : Ex H4 (upd H4 p (.tup [x, .ref q])) := Ex.new hp
    exact k _ _ ((e2.trans e4).trans e5) ⟨p, q, rfl, upd_same, e5 _ _ hx, fresh_back ((e.trans e2).trans e4) hp, fresh_back (e.trans e2) hq⟩⟩
theorem ok_packages {f : Addr} {fd : FuncData} {k : Nat} (F : Fun K "packages" "packages" s_packages f fd) (B : Bs mg) : FnOk P w K mg base CX0 (k + 1) f fd ["row"] (spPackages K) := by
  refine F.ok sc_packages (fun vs H Q E h => ?_) (fun cdv A outer s H vs Q E hr h => ?_)
  · obtain ⟨p, R, rfl, _⟩ := h
    rfl
  · obtain ⟨p, R, rfl, ⟨us, hp, hR⟩, hl, hs, q⟩ := h
    refine ⟨_, (pss_one (ps_ret (pe_lc (g := (gTup K 2 (gCons (gName 1) (gCons (gName 2) gNil)))) rfl sc_packages.nd (pi_zip (by rfl) B.zip (pa_cons (pe_ev20 (pv 0)) (pa_cons (pe_ev21 (pv 0)) pa_nil))) (blkOk_by (own := [("light", 1), ("heavy", 2)]) (N := ["row", "light", "heavy"]) (sc := defScope s_packages) (by decide +kernel)) (fun _ _ _ _ _ => (pg_tup rfl (pgs_cons (pg_name (i := 1) sc_packages.nd rfl (Or.inl rfl)) (pgs_cons (pg_name (i := 2) sc_packages.nd rfl (Or.inl rfl)) pgs_nil)))) (fun _ _ _ _ _ => pts_nil) (fun _ _ _ _ _ => (pe_tup (pa_cons (pe_op op_add (pe_ix (ix_tupK (K := K) rfl) (pv 1) pe_int (fun _ _ => rfl)) (pe_ix (ix_tupK (K := K) rfl) (pv 2) pe_int (fun _ _ => rfl))) (pa_cons (pe_op op_cat (pe_ix (ix_tupK (K := K) rfl) (pv 1) pe_int (fun _ _ => rfl)) (pe_ix (ix_tupK (K := K) rfl) (pv 2) pe_int (fun _ _ => rfl))) pa_nil))))))), ?_⟩
    refine s_retP (ep_lcPk (el_ev2 (ev_var rfl) (sq_of hp)) (el_ev2 (ev_var rfl) (sq_of hp)) hR (by omega) (fun x y => rfl) fun x y t1 t2 s1 s2 H1 e1 mx my a1 a2 b1 b2 => ?_) fun v H1 e1 ⟨q', ev, hq, hrow⟩ => by
      subst ev
      exact q q' H1 hq e1 hrow
    have lx := hs x mx
    have ly := hs y my
    rw [show (x.2 ++ y.2).map L2.V.int = x.2.map L2.V.int ++ y.2.map L2.V.int from List.map_append]
    exact ep_tup2L (ev_add (ev_op (ev_var rfl) ev_c (rv_ixT (i := 0) (st_of a1) rfl)) (ev_op (ev_var rfl) ev_c (rv_ixT (i := 0) (st_of b1) rfl)))
      (el_cat2 (ev_op (ev_var rfl) ev_c (rv_ixT (i := 1) (st_of a1) rfl)) a2 (ev_op (ev_var rfl) ev_c (rv_ixT (i := 1) (st_of b1) rfl)) b2 (by rw [List.length_map, List.length_map]; omega))
end
end K05
set_option linter.all false
/-! Bounds of rows; counts as they are made. -/
namespace M05
open M04
theorem row_le {ws : List Int} {k : Nat} {R : List Pkg} (h : Row ws k R) : R.length ≤ 2 * ws.length := by
  induction h with
  | zero => simp
  | more h1 h2 h3 ih =>
    rw [h2.length_eq, List.length_append, pk_len]
    unfold coins
    rw [List.length_map, List.length_range]
    omega
theorem item_len {ws : List Int} {k : Nat} {R : List Pkg} (h : Row ws k R) {x : Pkg} (hx : x ∈ R) : x.2.length ≤ ws.length * k := by
  obtain ⟨r, hr⟩ := perm_split hx
  obtain ⟨b, b1, _⟩ := fits h [x] r hr.symm
  have h1 := (syms_sum (n := ws.length) (fun _ => 0) x.2 fun s hs => (row_ok h x hx).rg s hs).2
  rw [← h1, ← sN_const]
  refine sN_le _ fun i hi => ?_
  have := (b1 i hi).1
  rw [cnt_cons] at this
  omega
theorem row_len2 {ws : List Int} {L : Nat} {R : List Pkg} (h0 : ∀ i, 0 ≤ ws.getD i 0) (hn : 1 ≤ ws.length) (hL : ws.length ≤ 2 ^ L) (h : Row ws L R) : 2 * ws.length - 2 ≤ R.length :=
  (least (F := List.replicate ws.length L) h0 hn (by simp) (fun l hl => by rw [(List.mem_replicate.mp hl).2]; exact Nat.le_refl _) (by rw [tot_rep, Nat.sub_self]; simpa using hL) h).1
/-- the counts when the first i items and j symbols of the next one are counted -/
def cm (T : List Pkg) (i j s : Nat) : Nat := cnt (T.take i) s + (((T.getD i (0, [])).2).take j).count (s : Int)
theorem cm_zero (T : List Pkg) (i s : Nat) : cm T i 0 s = cnt (T.take i) s := by simp [cm]
theorem cm_next {T : List Pkg} {i : Nat} {x : Pkg} (h : T[i]? = some x) (s : Nat) : cm T i x.2.length s = cm T (i + 1) 0 s := by
  rw [cm_zero]
  unfold cm
  rw [List.getD_eq_getElem?_getD, h, List.take_succ, h, cnt_app]
  show _ + (x.2.take x.2.length).count (s : Int) = _ + cnt [x] s
  rw [List.take_length, cnt_cons]
  rfl
theorem cm_step {T : List Pkg} {i j : Nat} {x : Pkg} {y : Int} (h : T[i]? = some x) (hy : x.2[j]? = some y) (h0 : 0 ≤ y) (s : Nat) : cm T i (j + 1) s = cm T i j s + if s = y.toNat then 1 else 0 := by
  unfold cm
  rw [List.getD_eq_getElem?_getD, h]
  show _ + (x.2.take (j + 1)).count (s : Int) = _ + (x.2.take j).count (s : Int) + _
  rw [List.take_succ, hy, List.count_append]
  show _ + (_ + [y].count (s : Int)) = _
  rw [cnt1]
  split <;> split <;> omega
end M05
set_option Elab.async false
set_option linter.all false
set_option maxRecDepth 100000
set_option maxHeartbeats 4000000
namespace K05
open PySem PySem.Spec PyProof.Rows L2 GX KC KQ Evl KP M05
section
variable {P : Program} {w : World} {K : PySem.W.Frag} {mg : Str → Option Value} {base : Heap} {σ : L2.St} {H : Hp} {ta tb te : TE}
/-- sorted((weight, [symbol]) for symbol, weight in enumerate(weights)) -/
theorem ep_coins {l Pt : Addr} {ws : List Int} (ha : Ev ta σ H (.ref l)) (hs : SqL K H l (ws.map L2.V.int)) (hn : ws.length ≤ 1000) (h1 : 1 ≤ ws.length) (tab : H Pt = some (TabX Pt)) :
    EvP (tSortedG (tGx Pt (iEnum K (tCons ta tNil)) (gTup K 2 (gCons (gName 0) (gCons (gName 1) gNil))) tYes (tTup (tCons (tVar 1) (tCons (tLst (tCons (tVar 0) tNil)) tNil))) [none, none] [0, 1]) rSortR) σ H
      (fun v H' => ∃ p R, v = .ref p ∧ H p = none ∧ RowP H' p R ∧ R.Perm (coins ws) ∧ Asc R) := fun H1 e Q q =>
  ha H1 e _ fun H2 e2 => by
    have e02 := e.trans e2
    have hxl : (ws.map L2.V.int).length = ws.length := List.length_map _
    refine ⟨l, _, rfl, ex_l e02 hs, e02 Pt _ tab, fun i m zs H' => m + i = ws.length ∧ Ex H2 H' ∧ Rw H' zs ((List.range i).map (coin ws)), ⟨ws.length, by omega, Ex.refl _, .nil⟩, ?_⟩
    rintro i m zs H' ⟨hm, e4, hpr⟩
    have e04 := e02.trans e4
    by_cases hi : i < ws.length
    · right
      refine ⟨⟨_, _, ex_l e04 hs, int_at hi⟩, fun zs H5 => (m - 1) + (i + 1) = ws.length ∧ Ex H2 H5 ∧ Rw H5 zs ((List.range (i + 1)).map (coin ws)), fun zs H5 q => ⟨m - 1, by omega, q⟩, ?_⟩
      rintro v H5 ⟨T, x, rfl, hT, rfl, hx1⟩
      have ex1 := (Option.some.inj ((int_at hi).symm.trans (hx1 _ (ex_l e04 hs)))).symm
      subst ex1
      have e45 : Ex H' (upd H' T (.tup [.int (i : Int), .int (ws.getD i 0)])) := Ex.new hT
      refine ⟨T, _, rfl, .inl (.inl upd_same), rfl, _, _, rfl, _, _, rfl, rfl, rfl, ?_⟩
      refine tt_yes ?_
      show tTup (tCons (tVar 1) (tCons (tLst (tCons (tVar 0) tNil)) tNil)) [some (.int (i : Int)), some (.int (ws.getD i 0))] _ _
      refine (ep_tup2L (σ := [some (.int (i : Int)), some (.int (ws.getD i 0))]) (x := .int (ws.getD i 0)) (xs := [.int (i : Int)]) (ev_var (i := 1) rfl) (el_lst (ea1 (ev_var (i := 0) rfl)) (by show 1 ≤ 100000; decide))) _ (Ex.refl _) _ fun y H6 e6 hy => ?_
      obtain ⟨p, q', rfl, g1, g2, _, _⟩ := hy
      have e46 := e45.trans e6
      refine ⟨sz_lt (by rw [hpr.len, List.length_map, List.length_range]; omega), trivial, by omega, e4.trans e46, ?_⟩
      rw [List.range_succ, List.map_append]
      exact (hpr.ext e46).app (Rw.one (x := coin ws i) g1 g2)
    · left
      have hin : i = ws.length := by omega
      subst hin
      refine ⟨⟨_, ex_l e04 hs, by rw [hxl]; exact Nat.le_refl _⟩, fun o ho => ?_⟩
      have eo : Ex H' (upd H' o (.lst zs)) := Ex.new ho
      refine ⟨o, zs, coins ws, rfl, rfl, upd_same, hpr.ext eo, fun z => ?_, fun ws' R' hrw hp ha => ?_⟩
      · have := congrArg List.length z
        unfold coins at this
        rw [List.length_map, List.length_range] at this
        have this : ws.length = 0 := this
        omega
      · exact q _ _ ((e2.trans e4).trans (Ex.mut eo ho)) ⟨o, R', rfl, fresh_back e04 ho, ⟨ws', upd_same, hrw⟩, hp, ha⟩
/-- sorted(coins + packages(row)) -/
theorem ep_merge {pc p : Addr} {C R : List Pkg} {E : XK} (h1 : Ev ta σ H (.ref pc)) (h2 : Ev tb σ H (.ref p)) (hC : RowP H pc C) (hR : RowP H p R) (lC : C.length ≤ 1000) (lR : R.length ≤ 1000) (hx : ∀ x ∈ R, x.2.length ≤ 5000) :
    EvP (tCB rSortedR (tCons (tOp rCat ta (tCall (spPackages K) [] E (tCons tb tNil))) tNil)) σ H (fun v H' => ∃ p' R', v = .ref p' ∧ H p' = none ∧ RowP H' p' R' ∧ R'.Perm (C ++ pk R) ∧ Asc R') := fun H1 e Q q =>
  h1 H1 e _ fun H2 e2 => h2 H2 (e.trans e2) _ fun H3 e3 => by
    have e03 := (e.trans e2).trans e3
    refine ⟨p, R, rfl, hR.ext e03, lR, hx, fun q' H4 hq' e4 hrow => ?_⟩
    obtain ⟨vs, c1, c2⟩ := hC.ext (e03.trans e4)
    obtain ⟨us, r1, r2⟩ := hrow
    refine ⟨pc, q', vs, us, rfl, rfl, c1, r1, sz_of (by rw [c2.len, r2.len, pk_len]; omega), fun p2 hp2 => ?_⟩
    have e5 : Ex H4 (upd H4 p2 (.lst (vs ++ us))) := Ex.new hp2
    refine ⟨p2, vs ++ us, C ++ pk R, rfl, upd_same, (c2.app r2).ext e5, fun p3 ws' R' hp3 hrw hp ha => ?_⟩
    have e6 : Ex (upd H4 p2 (.lst (vs ++ us))) (upd (upd H4 p2 (.lst (vs ++ us))) p3 (.lst ws')) := Ex.new hp3
    exact q _ _ (((e2.trans e3).trans e4).trans (e5.trans e6)) ⟨p3, R', rfl, fresh_back ((e03.trans e4).trans e5) hp3, ⟨ws', upd_same, hrw⟩, hp, ha⟩
def cvec (n : Nat) (c : Nat → Nat) : List L2.V := (List.range n).map fun i => L2.V.int (c i : Nat)
theorem cvec_len (n : Nat) (c : Nat → Nat) : (cvec n c).length = n := by simp [cvec]
theorem cvec_at {n s : Nat} {c : Nat → Nat} (h : s < n) : (cvec n c)[s]? = some (.int (c s : Nat)) := by
  unfold cvec
  rw [List.getElem?_map, List.getElem?_range h]
  rfl
theorem cvec_congr {n : Nat} {c d : Nat → Nat} (h : ∀ i, c i = d i) : cvec n c = cvec n d := by
  unfold cvec
  exact List.map_congr_left fun i _ => by rw [h i]
theorem cvec_set {n s : Nat} {c d : Nat → Nat} (h : ∀ i, d i = c i + if i = s then 1 else 0) : (cvec n c).set s (.int ((c s : Nat) + 1)) = cvec n d := by
  refine List.ext_getElem? fun i => ?_
  by_cases hi : i < n
  · by_cases e : s = i
    · subst e
      rw [List.getElem?_set_self (by rw [cvec_len]; exact hi), cvec_at hi, h, if_pos rfl]
      push_cast
      rfl
    · rw [List.getElem?_set_ne e, cvec_at hi, cvec_at hi, h, if_neg fun z => e z.symm]
      rfl
  · rw [List.getElem?_eq_none (by rw [List.length_set, cvec_len]; omega), List.getElem?_eq_none (by rw [cvec_len]; omega)]
def spPk (K : PySem.W.Frag) (Pt : Addr) : Sp := fun vs H Q _ => ∃ (l : Addr) (ws : List Int) (L : Nat), vs = [.ref l, .int (L : Int)] ∧ SqL K H l (ws.map L2.V.int) ∧ 2 ≤ ws.length ∧ ws.length ≤ 40 ∧ 1 ≤ L ∧ L ≤ 20 ∧ ws.length ≤ 2 ^ L ∧ (∀ i, 0 ≤ ws.getD i 0) ∧ H Pt = some (TabX Pt) ∧
  ∀ p R H2, H p = none → Ex H H2 → Row ws L R → 2 * ws.length - 2 ≤ R.length → H2 p = some (.lst ((M04.asI (fnd ws.length (R.take (2 * ws.length - 2)))).map L2.V.int)) → Q (.ref p) H2
theorem ok_packaged_lengths {f c Pt : Addr} {fd : FuncData} {k : Nat} (F : FunT K "packaged_lengths" "packaged_lengths" s_packaged_lengths f fd c) (TB : GxR.TabB base mg c Pt) (B : Bs mg) (C_packages : Cal P w K mg base "packages" 1 ["row"] (spPackages K)) : FnOk P w K mg base CX0 (k + 8) f fd ["weights", "limit"] (spPk K Pt) := by
  refine F.ok sc_packaged_lengths (fun vs H Q E h => ?_) (fun A outer s H vs Q E hr h => ?_)
  · obtain ⟨l, ws, L, rfl, _⟩ := h
    rfl
  · obtain ⟨l, ws, L, rfl, hs, hn2, hn, hL1, hL, hnL, h0, htab, q⟩ := h
    have hu64 := hr.units
    refine ⟨_, (pss_cons (ps_set (i := 2) sc_packaged_lengths.nd rfl (Or.inl rfl) (pe_sortedG2 (k := 0) (pgx_gen (g := (gTup K 2 (gCons (gName 0) (gCons (gName 1) gNil)))) (N' := ["symbol", "weight"]) (cm := [none, none]) (own := [0, 1]) (k0 := 0) (k := 0) (hr.mono (by omega)) TB rfl (capOk_by (N := ["weights", "limit", "coins", "row", "_", "needed", "lengths", "symbols", "symbol"]) (sc := defScope s_packaged_lengths) (by decide +kernel)) (pi_enum (by rfl) B.enumerate (pa_cons (pv 0) pa_nil)) (fun _ _ _ _ _ _ _ _ hr => (pg_tup rfl (pgs_cons (pg_name (i := 0) (show List.Nodup (["symbol", "weight"] : List Str) by decide +kernel) rfl (Or.inl rfl)) (pgs_cons (pg_name (i := 1) (show List.Nodup (["symbol", "weight"] : List Str) by decide +kernel) rfl (Or.inl rfl)) pgs_nil)))) (fun _ _ _ _ _ _ _ _ hr => pts_nil) (fun _ _ _ _ _ _ _ _ hr => (pe_tup (pa_cons (pv 1) (pa_cons (pe_lst (pa_cons (pv 0) pa_nil)) pa_nil))))) (hr.mono (by omega)) (by rfl) B.sorted))
      (pss_cons (ps_set (i := 3) sc_packaged_lengths.nd rfl (Or.inl rfl) (pv 2))
      (pss_cons (ps_for PassesOwn.never rfl (pi_range1 (by rfl) B.range (pa_cons (pe_op op_sub (pv 1) pe_int) pa_nil)) (pg_name (i := 4) sc_packaged_lengths.nd rfl (Or.inl rfl)) (pss_one (ps_set (i := 3) sc_packaged_lengths.nd rfl (Or.inl rfl) (pe_callB (cr_sortedR hu64) (by rfl) B.sorted (by decide +kernel) (pa_cons (pe_op op_cat (pv 2) (pe_callC C_packages (hr.mono (by omega)) (by rfl) (pa_cons (pv 3) pa_nil))) pa_nil)))))
      (pss_cons (ps_set (i := 5) sc_packaged_lengths.nd rfl (Or.inl rfl) (pe_callB (call_max2 rfl) (by rfl) B.max (by decide +kernel) (pa_cons pe_int (pa_cons (pe_op op_sub (pe_op op_mul pe_int (pe_callB call_len_seq (by rfl) B.len PySem.boot_len (pa_cons (pv 0) pa_nil))) pe_int) pa_nil))))
      (pss_cons (ps_if (pt_cmpR op_lt (pe_callB call_len_seq (by rfl) B.len PySem.boot_len (pa_cons (pv 3) pa_nil)) (pv 5) (nomark _)) (pss_one (ps_ret pe_non)) pss_nil)
      (pss_cons (ps_set (i := 6) sc_packaged_lengths.nd rfl (Or.inl rfl) (pe_op op_rep (pe_lst (pa_cons pe_int pa_nil)) (pe_callB call_len_seq (by rfl) B.len PySem.boot_len (pa_cons (pv 0) pa_nil))))
      (pss_cons (ps_for PassesOwn.never rfl (pi_list (pe_slice sl_list (pv 3) po_none (po_some (pv 5)))) (pg_tup rfl (pgs_cons (pg_name (i := 4) sc_packaged_lengths.nd rfl (Or.inl rfl)) (pgs_cons (pg_name (i := 7) sc_packaged_lengths.nd rfl (Or.inl rfl)) pgs_nil))) (pss_one (ps_for PassesOwn.never rfl (pi_list (pv 7)) (pg_name (i := 8) sc_packaged_lengths.nd rfl (Or.inl rfl)) (pss_one (ps_augS (pv 6) (pv 8) get_list pe_int ip_add set_list)))))
      (pss_one (ps_ret (pv 6)))))))))), ?_⟩
    -- coins
    refine q_asgP (ep_coins (ev_var rfl) hs (by omega) (by omega) htab) fun v H1 e1 ⟨pc, C, ev, hpc, hC, hCp, hCa⟩ => ?_
    subst ev
    have hrow1 : Row ws 1 C := Row.more Row.zero (by simpa [pk] using hCp) hCa
    -- row
    refine q_asg (ev_var rfl) fun H2 e2 => ?_
    have e12 := e1.trans e2
    refine q_forR1 (n := ((L - 1 : Nat) : Int)) (ea1 (ev_is (ev_sub (ev_var rfl) ev_c) (by congr 1; omega))) ⟨by omega, by omega⟩
      (fun i σ H' => ∃ p R a, σ = [some (.ref l), some (.int (L : Int)), some (.ref pc), some (.ref p), a, none, none, none, none] ∧ Ex H H' ∧ RowP H' pc C ∧ RowP H' p R ∧ Row ws (i + 1) R)
      (fun H3 e3 => ⟨pc, C, none, rfl, e12.trans e3, hC.ext (e2.trans e3), hC.ext (e2.trans e3), hrow1⟩) ?_ ?_
    · rintro i σ H' hi ⟨p, R, a, rfl, ex, hC', hR', hrow⟩
      refine s_asgP (ep_merge (ev_var rfl) (ev_var rfl) hC' hR' (by rw [hCp.length_eq]; unfold coins; rw [List.length_map, List.length_range]; omega) (by have := row_le hrow; omega) (fun x hx => by
        have h5 := item_len hrow hx
        have h6 : ws.length * (i + 1) ≤ 40 * 20 := Nat.mul_le_mul (by omega) (by omega)
        omega)) fun v H3 e3 ⟨p', R', ev, hp', hrow', hperm, hasc⟩ => ?_
      subst ev
      exact ⟨p', R', _, rfl, ex.trans e3, hC'.ext e3, hrow', Row.more hrow (hperm.trans (List.Perm.append_right _ hCp)) hasc⟩
    · rintro σ H' ⟨p, R, a, rfl, ex, hC', hR', hrow⟩
      have hLL : ((((L - 1 : Nat) : Int)).toNat + 1) = L := by omega
      rw [hLL] at hrow
      obtain ⟨us, hp, hus⟩ := hR'
      have hRl := row_len2 h0 (by omega) hnL hrow
      have hul := hus.len
      -- needed
      refine q_asg (v := .int ((2 * ws.length - 2 : Nat) : Int)) (ev_is (ev_max2 ev_c (ev_sub (ev_op ev_c (ev_len (ev_var rfl) (ex_l ex hs)) (rv_mul (by decide))) ev_c)) ?_) fun H3 e3 => ?_
      · rw [List.length_map]
        congr 1
        split <;> omega
      refine q_when (b := false) (et_is (et_test (ev_lt (ev_len (ev_var rfl) (sq_of (e3 _ _ hp))) (ev_var rfl))) (by rw [decide_eq_false]; omega)) (fun z => by cases z) (fun _ H4 e4 => ?_)
      have e34 := e3.trans e4
      -- lengths
      refine q_asgL (el_rep (el_lst (ea1 ev_c) (by decide)) (ev_len (ev_var rfl) (ex_l (ex.trans e34) hs)) ⟨by omega, by rw [List.length_map]; omega⟩ (by decide)) fun pl H5 hpl e5 h5 => ?_
      rw [flatr, List.length_map, Int.toNat_natCast] at h5
      have hpl0 : H pl = none := fresh_back (ex.trans e34) hpl
      have e05 := (ex.trans e34).trans e5
      have hp5 := (e34.trans e5) _ _ hp
      have hus4 := hus.ext e34
      obtain ⟨T, hT⟩ : ∃ T, T = R.take (2 * ws.length - 2) := ⟨_, rfl⟩
      have hTr := hus4.take (2 * ws.length - 2)
      rw [← hT] at hTr
      have elc := el_sl (K := K) (tl := tNoPart) (th := tPart (tVar 5)) (te := tVar 3) (σ := [some (.ref l), some (.int (L : Int)), some (.ref pc), some (.ref p), a, some (.int ((2 * ws.length - 2 : Nat) : Int)), some (.ref pl), none, none]) (H := H5) (ev_var rfl) eo_none (eo_some (ev_var rfl)) (sq_of hp5)
      rw [cutV_to] at elc
      have h50 : H5 pl = some (.lst (cvec ws.length (cm T 0 0))) := by
        rw [h5]
        congr 2
        refine List.ext_getElem? fun i => ?_
        by_cases hi : i < ws.length
        · rw [cvec_at hi, List.getElem?_replicate, if_pos hi]
          rfl
        · rw [List.getElem?_eq_none (by rw [List.length_replicate]; omega), List.getElem?_eq_none (by rw [cvec_len]; omega)]
      have hTok : ∀ x ∈ T, ItOk ws x := fun x hx => row_ok hrow x (List.mem_of_mem_take (by rw [← hT]; exact hx))
      refine q_forNL elc (fun pz i σ H' => ∃ a c d, σ = [some (.ref l), some (.int (L : Int)), some (.ref pc), some (.ref p), a, some (.int ((2 * ws.length - 2 : Nat) : Int)), some (.ref pl), c, d] ∧ Ex H4 H' ∧ H' pz = some (.lst (us.take (2 * ws.length - 2))) ∧ pz ≠ pl ∧ H' pl = some (.lst (cvec ws.length (cm T i 0))))
        (fun pz H6 hpz e6 h6 => ⟨a, none, none, rfl, e5.trans e6, h6, (fun z => by rw [z, h5] at hpz; cases hpz), e6 _ _ h50⟩)
        (fun pz i σ H' _ hP => by
          obtain ⟨_, _, _, _, _, z, _⟩ := hP
          exact sq_of z) ?_ ?_
      · rintro pz i y σ H' hy ⟨a, c, d, rfl, ex4, hz, hne, hl⟩
        have hiT : i < T.length := by rw [← hTr.len]; exact (List.getElem?_eq_some_iff.mp hy).1
        have hTi : T[i]? = some T[i] := List.getElem?_eq_getElem hiT
        generalize T[i] = x at hTi
        obtain ⟨t, s', g1, g2, g3⟩ := hTr.at_ i x hTi
        rw [hy] at g1
        have g1 := Option.some.inj g1
        subst g1
        refine g_two (K := K) (st_of (ex4 _ _ g2)) ?_
        have hrg := (hTok x (List.mem_of_getElem? hTi)).rg
        have hs4 : s' ≠ pl := fun z => by rw [z, hpl] at g3; cases g3
        refine s_forLn (ev_var rfl) (sq_of (ex4 _ _ g3)) (fun j σ H' => ∃ d, σ = [some (.ref l), some (.int (L : Int)), some (.ref pc), some (.ref p), some (.int x.1), some (.int ((2 * ws.length - 2 : Nat) : Int)), some (.ref pl), some (.ref s'), d] ∧ Ex H4 H' ∧ H' pz = some (.lst (us.take (2 * ws.length - 2))) ∧ H' pl = some (.lst (cvec ws.length (cm T i j))))
          (fun H6 e6 => ⟨d, rfl, ex4.trans e6, e6 _ _ hz, e6 _ _ hl⟩)
          (fun j σ H' _ hP => by
            obtain ⟨_, _, e7, _, _⟩ := hP
            exact sq_of (e7 _ _ g3)) ?_ ?_
        · rintro j y σ H' hy ⟨d, rfl, ex4, hz, hl⟩
          rw [List.getElem?_map] at hy
          obtain ⟨z, hz2, rfl⟩ : ∃ z, x.2[j]? = some z ∧ L2.V.int z = y := by
            cases e : x.2[j]? with
            | none => rw [e] at hy; cases hy
            | some z => rw [e] at hy; exact ⟨z, rfl, Option.some.inj hy⟩
          obtain ⟨z0, zn⟩ := hrg z (List.mem_of_getElem? hz2)
          refine s_augS (s := z.toNat) hl (ev_var rfl) (ev_is (ev_var rfl) (by congr 1; omega)) (cvec_at (by omega)) ev_c fun H6 e6 => ?_
          refine ⟨_, rfl, Ex.mut (ex4.trans e6) hpl, by rw [upd_ne hne]; exact e6 _ _ hz, ?_⟩
          rw [upd_same, cvec_set (cm_step hTi hz2 z0)]
        · rintro σ H' ⟨d, rfl, ex4, hz, hl⟩
          rw [List.length_map] at hl
          exact ⟨_, _, _, rfl, ex4, hz, hne, by rw [hl, cvec_congr (cm_next hTi)]⟩
      · rintro pz σ H' ⟨a, c, d, rfl, ex4, hz, hne, hl⟩
        refine s_ret (ev_var rfl) fun H6 e6 => q pl R H6 hpl0 ((ex.trans e34).trans (ex4.trans e6)) hrow hRl ?_
        rw [e6 _ _ hl, ← hT, hTr.len]
        congr 2
        unfold cvec M04.asI fnd
        rw [List.map_map, List.map_map]
        refine List.map_congr_left fun i _ => ?_
        show L2.V.int ((cm T T.length 0 i : Nat) : Int) = L2.V.int ((cnt T i : Nat) : Int)
        rw [cm_zero, List.take_length]
end
end K05
set_option Elab.async false
set_option linter.all false
set_option maxRecDepth 100000
set_option maxHeartbeats 4000000
namespace K05
open PySem PySem.Spec PyProof.Rows L2 GX KC KQ Evl M03 M05
theorem srt_is (ws : List Int) : srt ws = (ranked ws).reverse := asc_is (srt_perm ws) (srt_asc ws)
section
variable {P : Program} {w : World} {K : PySem.W.Frag} {mg : Str → Option Value} {base : Heap} {σ : L2.St} {H : Hp} {ta tb te : TE}
theorem el_srt {l : Addr} {ws : List Int} (h : Ev ta σ H (.ref l)) (hs : SqL K H l (ws.map L2.V.int)) : EvL (tCB (rSortedI K) (tCons ta tNil)) σ H ((srt ws).map L2.V.int) := by
  rw [srt_is]
  exact el_sortedI h hs
theorem el_srtL {ws : List Int} (h : EvL ta σ H (ws.map L2.V.int)) : EvL (tCB (rSortedI K) (tCons ta tNil)) σ H ((srt ws).map L2.V.int) := fun H1 e Q q =>
  h H1 e _ fun p H2 hp e2 h2 => el_srt (K := K) (ta := tC (.ref p)) (σ := σ) ev_c (sq_of h2) H2 (Ex.refl _) Q fun p2 H3 hp2 e3 h3 => q p2 H3 (fresh_back e2 hp2) (e2.trans e3) h3
theorem cut2 (x y : L2.V) (r : List L2.V) : cutV (x :: y :: r) (some 2) none = r := by
  unfold cutV
  have h1 : HT.sIx (x :: y :: r).length 0 (some 2) = 2 := by
    rw [show (some 2 : Option Int) = some ((2 : Nat) : Int) from rfl, HT.sIx_nat]
    simp only [List.length_cons]
    omega
  rw [h1, HT.sIx_none]
  show (List.drop 2 (x :: y :: r)).take _ = r
  simp
def spJoined (K : PySem.W.Frag) : Sp := fun vs H Q _ => ∃ (l : Addr) (ws : List Int), vs = [.ref l] ∧ SqL K H l (ws.map L2.V.int) ∧ 1 ≤ ws.length ∧ ws.length ≤ 1000 ∧ ∀ H2, Ex H H2 → Q (.int (J (ws.length - 1) (srt ws))) H2
theorem ok_law_joined {f : Addr} {fd : FuncData} {k : Nat} (F : Fun K "_law_joined" "_law_joined" s_law_joined f fd) (B : Bs mg) : FnOk P w K mg base CX0 (k + 1) f fd ["weights"] (spJoined K) := by
  refine F.ok sc_law_joined (fun vs H Q E h => ?_) (fun cdv A outer s H vs Q E hr h => ?_)
  · obtain ⟨l, ws, rfl, _⟩ := h
    rfl
  · obtain ⟨l, ws, rfl, hs, hn1, hn, q⟩ := h
    refine ⟨_, (pss_cons (ps_set (i := 1) sc_law_joined.nd rfl (Or.inl rfl) (pe_callB cr_sortedI (by rfl) B.sorted (by decide +kernel) (pa_cons (pv 0) pa_nil)))
      (pss_cons (ps_set (i := 2) sc_law_joined.nd rfl (Or.inl rfl) pe_int)
      (pss_cons (ps_for PassesOwn.never rfl (pi_range1 (by rfl) B.range (pa_cons (pe_op op_sub (pe_callB call_len_seq (by rfl) B.len PySem.boot_len (pa_cons (pv 0) pa_nil)) pe_int) pa_nil)) (pg_name (i := 3) sc_law_joined.nd rfl (Or.inl rfl)) (pss_cons (ps_set (i := 4) sc_law_joined.nd rfl (Or.inl rfl) (pe_op op_add (pe_ix ix_list (pv 1) pe_int (fun _ _ => rfl)) (pe_ix ix_list (pv 1) pe_int (fun _ _ => rfl))))
      (pss_cons (ps_set (i := 2) sc_law_joined.nd rfl (Or.inl rfl) (pe_op op_add (pv 2) (pv 4)))
      (pss_one (ps_set (i := 1) sc_law_joined.nd rfl (Or.inl rfl) (pe_callB cr_sortedI (by rfl) B.sorted (by decide +kernel) (pa_cons (pe_op op_cat (pe_slice sl_list (pv 1) (po_some pe_int) po_none) (pe_lst (pa_cons (pv 4) pa_nil))) pa_nil)))))))
      (pss_one (ps_ret (pv 2)))))), ?_⟩
    refine q_asgL (el_srt (ev_var rfl) hs) fun p H1 hp e1 h1 => ?_
    refine q_asg ev_c fun H2 e2 => ?_
    have e12 := e1.trans e2
    refine q_forR1 (n := ((ws.length - 1 : Nat) : Int)) (ea1 (ev_is (ev_sub (ev_len (ev_var rfl) (ex_l e12 hs)) ev_c) (by rw [List.length_map]; congr 1; omega))) ⟨by omega, by omega⟩
      (fun i σ H' => ∃ p left price a b, σ = [some (.ref l), some (.ref p), some (.int price), a, b] ∧ Ex H H' ∧ H' p = some (.lst (left.map L2.V.int)) ∧ left.length + i = ws.length ∧ price + J (ws.length - 1 - i) left = J (ws.length - 1) (srt ws))
      (fun H3 e3 => ⟨p, srt ws, 0, none, none, rfl, e12.trans e3, (e2.trans e3) _ _ h1, by rw [(srt_perm ws).length_eq]; rfl, by rw [Nat.sub_zero]; omega⟩) ?_ ?_
    · rintro i σ H' hi ⟨p, left, price, a, b, rfl, ex, hp, hl, hj⟩
      match left, hl, hj, hp with
      | [], hl, _, _ => simp at hl; omega
      | [_], hl, _, _ => simp only [List.length_cons, List.length_nil] at hl; omega
      | x :: y :: r, hl, hj, hp =>
        have hj2 : J (ws.length - 1 - i) (x :: y :: r) = x + y + J (ws.length - 1 - (i + 1)) (srt (r ++ [x + y])) := by
          rw [show ws.length - 1 - i = (ws.length - 1 - (i + 1)) + 1 by omega, J_succ]
        rw [hj2] at hj
        simp only [List.length_cons] at hl
        refine q_asg (v := .int (x + y)) (ev_add (ev_op (ev_var rfl) ev_c (rv_ixL (i := 0) (sq_of hp) (at_of (j := 0) rfl rfl))) (ev_op (ev_var rfl) ev_c (rv_ixL (i := 1) (sq_of hp) (at_of (j := 1) rfl rfl)))) fun H3 e3 => ?_
        refine q_asg (ev_add (ev_var rfl) (ev_var rfl)) fun H4 e4 => ?_
        have hp4 := (e3.trans e4) _ _ hp
        have elc : EvL (tSl (rSlL K) (tVar 1) (tPart (tC (.int 2))) tNoPart) [some (.ref l), some (.ref p), some (.int (price + (x + y))), some (.int (i : Int)), some (.int (x + y))] H4 (r.map L2.V.int) := by
          have := el_sl (K := K) (tl := tPart (tC (.int 2))) (th := tNoPart) (te := tVar 1) (σ := [some (.ref l), some (.ref p), some (.int (price + (x + y))), some (.int (i : Int)), some (.int (x + y))]) (H := H4) (ev_var rfl) (eo_some ev_c) eo_none (sq_of hp4)
          rwa [List.map_cons, List.map_cons, cut2] at this
        have h2 := el_catLL elc (el_lst (ea1 (ev_var (i := 4) (v := .int (x + y)) rfl)) (by show 1 ≤ 100000; decide)) (by rw [List.length_map]; show _ + 1 ≤ _; omega)
        have h3 : r.map L2.V.int ++ [L2.V.int (x + y)] = (r ++ [x + y]).map L2.V.int := by rw [List.map_append]; rfl
        rw [h3] at h2
        refine s_asgL (el_srtL h2) fun p2 H5 hp2 e5 h5 => ?_
        exact ⟨p2, _, _, _, _, rfl, ((ex.trans e3).trans e4).trans e5, h5, by rw [(srt_perm _).length_eq, List.length_append]; show _ + 1 + _ = _; omega, by omega⟩
    · rintro σ H' ⟨p, left, price, a, b, rfl, ex, hp, hl, hj⟩
      have : ((ws.length - 1 : Nat) : Int).toNat = ws.length - 1 := by omega
      rw [this, Nat.sub_self] at hj
      have hz : J 0 left = 0 := by
        unfold J
        rfl
      rw [hz, Int.add_zero] at hj
      subst hj
      exact s_ret (ev_var rfl) fun H6 e6 => q H6 (ex.trans e6)
end
end K05
set_option Elab.async false
set_option linter.all false
set_option maxRecDepth 100000
set_option maxHeartbeats 4000000
namespace K05
open PySem PySem.Spec PyProof.Rows L2 StX GX KC Evl M01
structure GT (mg : Str → Option Value) (tk : Tok) : Prop where
  g_LONGEST : mg "LONGEST" = some (.int 20 tk)
section
variable {P : Program} {w : World} {K : PySem.W.Frag} {mg : Str → Option Value} {base : Heap}
def fS (x : Int) : Int := 1 * 2 ^ (20 - x).toNat
theorem kraft_filter : ∀ ls : List Int, Lok ls → ((ls.filter fun x => !decide (x = 0)).map fS).sum = kraft ls
  | [], _ => rfl
  | x :: r, h => by
    have ih := kraft_filter r fun y hy => h y (List.mem_cons_of_mem _ hy)
    have hx := h x List.mem_cons_self
    have e : kraft (x :: r) = share x + kraft r := rfl
    rw [e, ← ih]
    by_cases z : x = 0
    · subst z
      rw [List.filter_cons, if_neg (by decide)]
      show _ = 0 + _
      rw [Int.zero_add]
    · rw [List.filter_cons, if_pos (by simpa using z), List.map_cons, List.sum_cons]
      have : fS x = share x := by
        unfold fS share
        rw [if_neg z, Int.one_mul]
        congr 1
        omega
      rw [this]
theorem fS_bd {x : Int} (h : 0 ≤ x ∧ x ≤ 20) : 0 ≤ fS x ∧ fS x ≤ 2 ^ 40 := by
  unfold fS
  have : ∀ y : Fin 21, (0 : Int) ≤ 1 * 2 ^ y.val ∧ (1 : Int) * 2 ^ y.val ≤ 2 ^ 40 := by decide
  exact this ⟨(20 - x).toNat, by omega⟩
def spRoom (K : PySem.W.Frag) (Pt : Addr) : Sp := fun vs H Q _ => ∃ (l : Addr) (ls : List Int), vs = [.ref l] ∧ SqL K H l (ls.map V.int) ∧ Lok ls ∧ ls.length ≤ 100 ∧ H Pt = some (TabX Pt) ∧ ∀ H2, Ex H H2 → Q (.int (roomL ls)) H2
theorem ok_room {f c Pt : Addr} {fd : FuncData} {k : Nat} {tk : Tok} (F : FunT K "room" "room" s_room f fd c) (TB : GxR.TabB base mg c Pt) (T : GT mg tk) (B : Bs mg) : FnOk P w K mg base CX0 (k + 7) f fd ["lengths"] (spRoom K Pt) := by
  refine F.ok sc_room (fun vs H Q E h => ?_) (fun A outer s H vs Q E hr h => ?_)
  · obtain ⟨l, ls, rfl, _⟩ := h
    rfl
  · obtain ⟨l, ls, rfl, hs, hok, hn, htab, q⟩ := h
    refine ⟨_, (pss_cons (ps_set (i := 1) sc_room.nd rfl (Or.inr rfl) (pe_callB (cr_max rfl) (by rfl) B.max (by decide +kernel) (pa_cons (pe_lst (pa_cons (pe_glob (v := .int 20) (by rfl) T.g_LONGEST ⟨_, rfl⟩) (pa_star (pv 0) pa_nil))) pa_nil)))
      (pss_cons (ps_set (i := 2) sc_room.nd rfl (Or.inl rfl) (pe_sumG (k := 0) (pgx_gen (g := (gName 0)) (N' := ["length", "depth"]) (cm := [none, some 1]) (own := [0]) (k0 := 0) (k := 0) (hr.mono (by omega)) TB rfl (capOk_by (N := ["lengths", "depth", "taken"]) (sc := defScope s_room) (by decide +kernel)) (pi_list (pv 0)) (fun _ _ _ _ _ _ _ _ hr => (pg_name (i := 0) (show List.Nodup (["length", "depth"] : List Str) by decide +kernel) rfl (Or.inl rfl))) (fun _ _ _ _ _ _ _ _ hr => (pts_one (pt_cmpR op_ne (pv 0) pe_int (nomark _)))) (fun _ _ _ _ _ _ _ _ hr => (pe_op op_shl pe_int (pe_op op_sub (pv 1) (pv 0))))) (hr.mono (by omega)) (by rfl) B.sum))
      (pss_one (ps_ret (pe_op op_shr (pe_op op_sub (pe_op op_shl pe_int (pv 1)) (pv 2)) (pe_op op_sub (pv 1) (pe_glob (v := .int 20) (by rfl) T.g_LONGEST ⟨_, rfl⟩))))))), ?_⟩
    refine q_asg (v := .int 20) (ev_maxStar ev_c (ev_var rfl) hs (fun x hx => (hok x hx).2) (by omega)) fun H1 e1 => ?_
    refine q_asg (v := .int (kraft ls)) ?_ fun H2 e2 => ?_
    · have h1 := ev_sumLF (K := K) (σ := [some (.ref l), some (.int 20), none]) (H := H1) (tl := tVar 0) (tt := tTest (tOp rNe (tVar 0) (tC (.int 0)))) (te := tOp (rI CPow fun i j => .int (i * 2 ^ j.toNat)) (tC (.int 1)) (tOp (rI0 fun i j => .int (i - j)) (tVar 1) (tVar 0))) (Pt := Pt) (cm := [none, some 1]) (own := [0])
        fS (fun x => !decide (x = 0)) (ev_var rfl) (ex_l e1 hs) (by omega) (e1 Pt _ htab) (fun x hx => fS_bd (hok x hx)) (fun x => rfl) (fun x hx H3 e3 => et_test (ev_ne (ev_var rfl) ev_c)) (fun x hx hb H3 e3 => ev_op ev_c (ev_sub (i := 20) (ev_var rfl) (ev_var rfl)) (rv_shl ⟨by have := hok x hx; omega, by have := hok x hx; omega, by decide⟩))
      rw [kraft_filter ls hok] at h1
      exact h1
    · refine s_ret (v := .int (roomL ls)) (ev_is (ev_op (ev_sub (ev_op ev_c (ev_var (v := .int 20) rfl) (rv_shl (by decide))) (ev_var rfl)) (ev_sub (ev_var (v := .int 20) rfl) ev_c) (rv_shr (by decide))) ?_) fun H3 e3 => q H3 ((e1.trans e2).trans e3)
      unfold roomL
      congr 1
      show ((1 : Int) * 2 ^ 20 - kraft ls) / 2 ^ 0 = _
      omega
theorem sp_room {H : Hp} {l Pt : Addr} {ls : List Int} (hs : SqL K H l (ls.map V.int)) (h : Lok ls) (hn : ls.length ≤ 100) (ht : H Pt = some (TabX Pt)) : SpV (spRoom K Pt) ([.ref l] ++ []) H (.int (roomL ls)) := fun H1 e1 Q q E => ⟨l, ls, rfl, ex_l e1 hs, h, hn, e1 Pt _ ht, q⟩
end
end K05
namespace K05
open PySem PySem.Spec PyProof.Rows L2 GX KC Evl M03
section
variable {P : Program} {w : World} {K : PySem.W.Frag} {mg : Str → Option Value} {base : Heap}
theorem weightOf_bd (c : Int) : 0 ≤ weightOf c ∧ weightOf c ≤ 1000000 := by
  unfold weightOf
  split
  · omega
  · split <;> omega
theorem weightsL_at {ns : List Int} {f n i : Nat} (h : i < n) : (weightsL ns f n).getD i 0 = weightOf (cellOf ns (f + i)) := by
  unfold weightsL
  rw [List.getD_eq_getElem?_getD, List.getElem?_map, List.getElem?_range h] <;> rfl
theorem given_all (n : Nat) (v : Nat → Int) : given n (fun _ => true) (fun k => V.int (v k)) = ((List.range n).map v).map V.int := by
  unfold given
  rw [List.filter_eq_self.mpr fun _ _ => rfl, List.map_map] <;> rfl
theorem nats_ints (a : List Nat) : nats a = (a.map fun (k : Nat) => (k : Int)).map V.int := by
  unfold nats
  rw [List.map_map] <;> rfl
theorem sp_ranksP {H : Hp} {l Pt : Addr} {ws : List Int} (hs : SqL K H l (ws.map V.int)) (hn : ws.length ≤ 64) (ht : H Pt = some (TabX Pt)) : SpL (spRanksP K Pt) ([.ref l] ++ []) H (nats (rankL ws)) := fun H1 e1 Q q E =>
  ⟨l, ws, rfl, ex_l e1 hs, hn, e1 Pt _ ht, fun p H2 hp e2 h2 => q p H2 hp e2 h2⟩
theorem sp_weights {H : Hp} {l : Addr} {ns : List Int} {f n : Nat} {i j : Int} (hs : SqL K H l (ns.map V.int)) (hn : n ≤ 1000) (ei : i = (f : Int)) (ej : j = (n : Int)) : SpL (spWeights K) ([.ref l, .int i, .int j] ++ []) H ((weightsL ns f n).map V.int) := fun H1 e1 Q q E =>
  ⟨l, ns, f, n, by rw [ei, ej]; rfl, ex_l e1 hs, hn, fun p H2 hp e2 h2 => q p H2 hp e2 h2⟩
theorem sp_lim {H : Hp} {n : Nat} : SpV spLim ([.int (n : Int)] ++ []) H (.int (llim n : Nat)) := fun H1 e1 Q q E => ⟨n, rfl, q⟩
end
end K05
set_option Elab.async false
set_option linter.all false
set_option maxRecDepth 100000
set_option maxHeartbeats 4000000
set_option exponentiation.threshold 2048
namespace K05
open PySem PySem.Spec PyProof.Rows L2 GX KC KQ Evl KP M03 M04 M05
theorem llim_fin : ∀ m : Fin 17, m.val ≤ 2 ^ llim m.val ∧ 1 ≤ llim m.val ∧ llim m.val ≤ 4 := by decide
theorem llim_ok {n : Nat} (h : n ≤ 16) : n ≤ 2 ^ llim n ∧ 1 ≤ llim n ∧ llim n ≤ 4 := llim_fin ⟨n, by omega⟩
theorem fits_in {n L : Nat} (h : n ≤ 16) (hL : llim n ≤ L) : n ≤ 2 ^ L := Nat.le_trans (llim_ok h).1 (Nat.pow_le_pow_right (by decide) hL)
theorem min_of : ∀ ls : List Int, ls ≠ [] → ∃ m, m ∈ ls ∧ ∀ y ∈ ls, m ≤ y
  | [], h => absurd rfl h
  | [x], _ => ⟨x, List.mem_cons_self, fun y hy => by rw [List.mem_singleton.mp hy]; exact Int.le_refl _⟩
  | x :: y :: r, _ => by
    obtain ⟨m, h1, h2⟩ := min_of (y :: r) (by simp)
    by_cases e : x ≤ m
    · refine ⟨x, List.mem_cons_self, fun z hz => ?_⟩
      rcases List.mem_cons.mp hz with h | h
      · omega
      · have := h2 z h; omega
    · refine ⟨m, List.mem_cons_of_mem _ h1, fun z hz => ?_⟩
      rcases List.mem_cons.mp hz with h | h
      · omega
      · exact h2 z h
/-- what is known of the lengths that are found -/
structure Fd (ws : List Int) (L : Nat) (ls : List Int) (c : Int) : Prop where
  len : ls.length = ws.length
  ok : M01.Lok ls
  room : 0 ≤ M01.roomL ls
  bd : ∀ x ∈ ls, 1 ≤ x ∧ x ≤ (L : Int)
  at_ : ∀ i, i < ws.length → 0 ≤ ls.getD i 0 ∧ ls.getD i 0 ≤ 20
  co : costI ws ls = c
theorem fd_of {ws : List Int} {L : Nat} {F : List Nat} {c : Int} (g : Code ws.length L F) (hL : L ≤ 20) (hc : costI ws (asI F) = c) : Fd ws L (asI F) c := by
  have hb : ∀ x ∈ asI F, 1 ≤ x ∧ x ≤ (L : Int) := fun x hx => by
    obtain ⟨y, hy, rfl⟩ := List.mem_map.mp hx
    have := g.bd y hy
    omega
  refine ⟨by unfold asI; rw [List.length_map, g.len], fun x hx => ?_, good_room (ws := ws) (v := c) hL ⟨g.len, g.bd, g.kr, hc⟩, hb, fun i hi => ?_, hc⟩
  · have := hb x hx
    omega
  · rw [asI_get]
    have : F.getD i 0 ∈ F := by
      rw [List.getD_eq_getElem?_getD, List.getElem?_eq_getElem (by rw [g.len]; exact hi)]
      exact List.getElem_mem _
    have := g.bd _ this
    omega
/-- both ways cost the same -/
theorem same_cost {ws : List Int} {L : Nat} {R : List Pkg} {v : Int} (hn : 2 ≤ ws.length) (hL : 1 ≤ L) (h0 : ∀ v ∈ ws, 0 ≤ v) (h0' : ∀ i, 0 ≤ ws.getD i 0) (hv : M04.V (sumsL ws) L (0, 0, 1) = some v) (h : M05.Row ws L R) (hR : 2 * ws.length - 2 ≤ R.length) : costI ws (asI (fnd ws.length (R.take (2 * ws.length - 2)))) = v := by
  have hne : ws ≠ [] := fun z => by rw [z] at hn; simp at hn
  obtain ⟨c1, c2⟩ := fnd_code hn h hR
  obtain ⟨F, _, g⟩ := lens_good hL hne hv
  have h1 := (least h0' (by omega) g.len (fun l hl => (g.bd l hl).2) g.kr h).2
  rw [g.co] at h1
  obtain ⟨v', hv', hle⟩ := first_le hL hne h0 c1.len c1.bd c1.kr
  have hv2 : M04.V (sumsL ws) L (0, 0, 1) = some v' := hv'
  rw [hv] at hv2
  have := Option.some.inj hv2
  omega
section
variable {P : Program} {w : World} {K : PySem.W.Frag} {mg : Str → Option Value} {base : Heap} {σ : L2.St} {H : Hp} {ta tb : TE} {tt : TS} {D : Ends}
theorem flat {σ σ' : L2.St} (e : σ = σ') (h : tt D σ' H) : tt D σ H := by
  rw [e]
  exact h
theorem ev_minL {l : Addr} {ls : List Int} {m : Int} (h : Ev ta σ H (.ref l)) (hs : SqL K H l (ls.map L2.V.int)) (hm : m ∈ ls) (hall : ∀ y ∈ ls, m ≤ y) : Ev (tCB (rMin K) (tCons ta tNil)) σ H (.int m) := fun H1 e Q q =>
  h H1 e _ fun H2 e2 => ⟨l, ls, rfl, ex_l (e.trans e2) hs, List.length_pos_of_mem hm, fun n hn hal => by
    have h1 := hall n hn
    have h2 := hal m hm
    have : n = m := by omega
    subst this
    exact q H2 e2⟩
structure PIn (ws : List Int) (L : Nat) : Prop where
  n2 : 2 ≤ ws.length
  n40 : ws.length ≤ 40
  l1 : 1 ≤ L
  l20 : L ≤ 20
  fit : ws.length ≤ 2 ^ L
  nn : ∀ i, 0 ≤ ws.getD i 0
def PkR (ws : List Int) (L : Nat) (H : Hp) (v : L2.V) (H' : Hp) : Prop := ∃ p R, v = .ref p ∧ H p = none ∧ M05.Row ws L R ∧ 2 * ws.length - 2 ≤ R.length ∧ H' p = some (.lst ((asI (fnd ws.length (R.take (2 * ws.length - 2)))).map L2.V.int))
theorem ep_pk {l Pt : Addr} {ws : List Int} {L : Nat} {E : XK} {t : TA} (hw : PIn ws L) (hs : SqL K H l (ws.map L2.V.int)) (tab : H Pt = some (TabX Pt)) (h : EvA t σ H [.ref l, .int (L : Int)]) : EvP (tCall (spPk K Pt) [] E t) σ H (PkR ws L H) := fun H1 e Q q =>
  h H1 e _ fun H2 e2 => ⟨l, ws, L, rfl, ex_l (e.trans e2) hs, hw.n2, hw.n40, hw.l1, hw.l20, hw.fit, hw.nn, (e.trans e2) _ _ tab, fun p R H3 hp e3 hr hl h3 => q _ _ (e2.trans e3) ⟨p, R, rfl, fresh_back (e.trans e2) hp, hr, hl, h3⟩⟩
theorem ep_pkN {Pt : Addr} {ws : List Int} {L : Nat} {E : XK} (hw : PIn ws L) (tab : H Pt = some (TabX Pt)) (h1 : EvL ta σ H (ws.map L2.V.int)) (h2 : Ev tb σ H (.int (L : Int))) : EvP (tCall (spPk K Pt) [] E (tCons ta (tCons tb tNil))) σ H (PkR ws L H) := fun H1 e Q q =>
  h1 H1 e _ fun p H2 hp e2 hx => h2 H2 (e.trans e2) _ fun H3 e3 => ⟨p, ws, L, rfl, sq_of (e3 _ _ hx), hw.n2, hw.n40, hw.l1, hw.l20, hw.fit, hw.nn, ((e.trans e2).trans e3) _ _ tab, fun p' R H4 hp' e4 hr hl h3 => q _ _ ((e2.trans e3).trans e4) ⟨p', R, rfl, fresh_back ((e.trans e2).trans e3) hp', hr, hl, h3⟩⟩
theorem sp_ll {l Pt : Addr} {ws : List Int} {L : Nat} {v : Int} (hw : WIn K ws L l H) (hv : M04.V (sumsL ws) L (0, 0, 1) = some v) (ht : H Pt = some (TabX Pt)) : SpL (spLL P w K Pt) ([.ref l, .int (L : Int)] ++ []) H ((lensW ws L).map L2.V.int) := fun H1 e1 Q q E =>
  ⟨l, ws, L, rfl, hw.ext e1, ⟨v, hv⟩, e1 _ _ ht, fun p H2 hp e2 h2 => q p H2 hp e2 h2⟩
theorem spv_cost {l t Pt : Addr} {ws ls : List Int} {v : Int} (h1 : SqL K H l (ws.map L2.V.int)) (h2 : SqL K H t (ls.map L2.V.int)) (hl : ws.length = ls.length) (hn : ws.length ≤ 40) (ht : H Pt = some (TabX Pt)) (hw : ∀ i, i < ws.length → 0 ≤ ws.getD i 0 ∧ ws.getD i 0 ≤ 1000000) (hb : ∀ i, i < ws.length → 0 ≤ ls.getD i 0 ∧ ls.getD i 0 ≤ 20) (hv : costI ws ls = v) : SpV (spCost K Pt) ([.ref l, .ref t] ++ []) H (.int v) := fun H1 e1 Q q E =>
  ⟨l, t, ws, ls, rfl, ex_l e1 h1, ex_l e1 h2, hl, by omega, e1 _ _ ht, fun i hi => by
    obtain ⟨b1, b2⟩ := hw i hi
    have b3 := hb i hi
    unfold costF
    have b4 := Int.mul_nonneg b1 b3.1
    have b5 : ws.getD i 0 * ls.getD i 0 ≤ 1000000 * 20 := Int.mul_le_mul b2 b3.2 b3.1 (by omega)
    exact ⟨by omega, by omega, by omega, by omega⟩, fun H2 e2 => by
    have : sumF ws.length (costF ws ls) = v := by rw [← hv]; rfl
    rw [this]
    exact q H2 e2⟩
theorem ev_costN {l Pt : Addr} {E : XK} {xs : List L2.V} {v : L2.V} (h1 : Ev ta σ H (.ref l)) (h2 : EvL tb σ H xs) (hs : ∀ p H1, Ex H H1 → H1 p = some (.lst xs) → SpV (spCost K Pt) ([.ref l, .ref p] ++ []) H1 v) : Ev (tCall (spCost K Pt) [] E (tCons ta (tCons tb tNil))) σ H v := fun H1 e Q q =>
  h1 H1 e _ fun H2 e2 => h2 H2 (e.trans e2) _ fun p H3 hp e3 hx => hs p H3 ((e.trans e2).trans e3) hx H3 (Ex.refl _) Q (fun H4 e4 => q H4 ((e2.trans e3).trans e4)) E
theorem spv_joined {l : Addr} {ws : List Int} {v : Int} (hs : SqL K H l (ws.map L2.V.int)) (h1 : 1 ≤ ws.length) (h2 : ws.length ≤ 1000) (hv : J (ws.length - 1) (srt ws) = v) : SpV (spJoined K) ([.ref l] ++ []) H (.int v) := fun H1 e1 Q q E =>
  ⟨l, ws, rfl, ex_l e1 hs, h1, h2, fun H2 e2 => by rw [hv]; exact q H2 e2⟩
def spLaw (K : PySem.W.Frag) (P0 P1 P2 P3 : Addr) : Sp := fun vs H Q _ => ∃ (a : Addr) (ns : List Int), vs = [.ref a] ∧ SqL K H a (ns.map L2.V.int) ∧ ns.length ≤ 63 ∧ H P0 = some (TabX P0) ∧ H P1 = some (TabX P1) ∧ H P2 = some (TabX P2) ∧ H P3 = some (TabX P3) ∧ ∀ H2, Ex H H2 → Q (.bl true) H2
theorem ok_law {f P0 P1 P2 P3 : Addr} {fd : FuncData} {k : Nat} (F : Fun K "law" "law" s_law f fd) (B : Bs mg)
    (C_law_cell : Cal P w K mg base "_law_cell" 1 ["script", "k"] (spCell K)) (C_law_weights : Cal P w K mg base "_law_weights" 2 ["script", "first", "many"] (spWeights K))
    (C_law_least_limit : Cal P w K mg base "_law_least_limit" 1 ["many"] spLim) (C_least_lengths : Cal P w K mg base "least_lengths" 8 ["weights", "limit"] (spLL P w K P1))
    (C_packaged_lengths : Cal P w K mg base "packaged_lengths" 8 ["weights", "limit"] (spPk K P3)) (C_law_joined : Cal P w K mg base "_law_joined" 1 ["weights"] (spJoined K))
    (C_room : Cal P w K mg base "room" 7 ["lengths"] (spRoom K P0)) (C_cost : Cal P w K mg base "cost" 6 ["weights", "lengths"] (spCost K P2)) : FnOk P w K mg base CX0 (k + 9) f fd ["script"] (spLaw K P0 P1 P2 P3) := by
  refine F.ok sc_law (fun vs H Q E h => ?_) (fun cdv A outer s H vs Q E hr h => ?_)
  · obtain ⟨a, ns, rfl, _⟩ := h
    rfl
  · obtain ⟨a, ns, rfl, hs, hn, t0, t1, t2, t3, q⟩ := h
    have hu64 := hr.units
    have hu := lt64 hr.units
    refine ⟨_, (pss_cons (ps_set (i := 1) sc_law.nd rfl (Or.inl rfl) (pe_op op_add pe_int (pe_op op_mod (pe_callC C_law_cell (hr.mono (by omega)) (by rfl) (pa_cons (pv 0) (pa_cons pe_int pa_nil))) pe_int)))
      (pss_cons (ps_set (i := 2) sc_law.nd rfl (Or.inl rfl) (pe_callC C_law_weights (hr.mono (by omega)) (by rfl) (pa_cons (pv 0) (pa_cons pe_int (pa_cons (pv 1) pa_nil)))))
      (pss_cons (ps_set (i := 3) sc_law.nd rfl (Or.inl rfl) (pe_callB (call_min2 rfl) (by rfl) B.min (by decide +kernel) (pa_cons pe_int (pa_cons (pe_op op_add (pe_callC C_law_least_limit (hr.mono (by omega)) (by rfl) (pa_cons (pv 1) pa_nil)) (pe_op op_mod (pe_callC C_law_cell (hr.mono (by omega)) (by rfl) (pa_cons (pv 0) (pa_cons pe_int pa_nil))) pe_int)) pa_nil))))
      (pss_cons (ps_set (i := 4) sc_law.nd rfl (Or.inl rfl) (pe_callTy call_list_of (by rfl) B.list (by decide +kernel) (pa_cons (pv 2) pa_nil)))
      (pss_cons (ps_set (i := 5) sc_law.nd rfl (Or.inl rfl) (pe_callC C_packaged_lengths (hr.mono (by omega)) (by rfl) (pa_cons (pv 4) (pa_cons (pv 3) pa_nil))))
      (pss_cons (ps_if (PW.pt (pw_or (pt_cmpR (op_neD hu64) (pv 4) (pv 2) (nomark _)) (pw_or (pt_cmpR op_ne (pe_callB call_len_seq (by rfl) B.len PySem.boot_len (pa_cons (pv 5) pa_nil)) (pv 1) (nomark _)) (pw_or (pt_cmpR op_lt (pe_callC C_room (hr.mono (by omega)) (by rfl) (pa_cons (pv 5) pa_nil)) pe_int (nomark _)) (pw_or (pt_cmpR op_lt (pe_callB (cr_min rfl) (by rfl) B.min (by decide +kernel) (pa_cons (pv 5) pa_nil)) pe_int (nomark _)) (pw_or1 (pt_cmpR op_gt (pe_callB (cr_max rfl) (by rfl) B.max (by decide +kernel) (pa_cons (pv 5) pa_nil)) (pv 3) (nomark _)))))))) (pss_one (ps_ret pe_bl)) pss_nil)
      (pss_cons (ps_if (pt_cmpR op_ne (pe_callC C_cost (hr.mono (by omega)) (by rfl) (pa_cons (pv 2) (pa_cons (pv 5) pa_nil))) (pe_callC C_cost (hr.mono (by omega)) (by rfl) (pa_cons (pv 2) (pa_cons (pe_callC C_least_lengths (hr.mono (by omega)) (by rfl) (pa_cons (pv 2) (pa_cons (pv 3) pa_nil))) pa_nil))) (nomark _)) (pss_one (ps_ret pe_bl)) pss_nil)
      (pss_cons (ps_set (i := 1) sc_law.nd rfl (Or.inl rfl) (pe_op op_add pe_int (pe_op op_mod (pe_callC C_law_cell (hr.mono (by omega)) (by rfl) (pa_cons (pv 0) (pa_cons pe_int pa_nil))) pe_int)))
      (pss_cons (ps_setLc (i := 2) rfl sc_law.nd rfl rfl (sw_true rfl rfl rfl (by decide +kernel)) (pi_range1 (by rfl) B.range (pa_cons (pv 1) pa_nil)) (blkOk_by (own := [("k", 6)]) (N := ["script", "many", "weights", "limit", "given", "found", "k"]) (sc := defScope s_law) (by decide +kernel)) (fun _ _ _ _ _ => (pg_name (i := 6) sc_law.nd rfl (Or.inl rfl))) (fun _ _ _ _ _ => pts_nil) (fun _ _ _ _ _ => (pe_op op_add pe_int (pe_op op_mod (pe_callC C_law_cell (hr.mono (by omega)) (by rfl) (pa_cons (pv 0) (pa_cons (pe_op op_add pe_int (pv 6)) pa_nil))) pe_int))))
      (pss_cons (ps_set (i := 5) sc_law.nd rfl (Or.inl rfl) (pe_callC C_packaged_lengths (hr.mono (by omega)) (by rfl) (pa_cons (pe_callTy call_list_of (by rfl) B.list (by decide +kernel) (pa_cons (pv 2) pa_nil)) (pa_cons pe_int pa_nil))))
      (pss_cons (ps_if (PW.pt (pw_or (pt_cmpR op_ne (pe_callB call_len_seq (by rfl) B.len PySem.boot_len (pa_cons (pv 5) pa_nil)) (pv 1) (nomark _)) (pw_or (pt_cmpR op_lt (pe_callC C_room (hr.mono (by omega)) (by rfl) (pa_cons (pv 5) pa_nil)) pe_int (nomark _)) (pw_or (pt_cmpR op_lt (pe_callB (cr_min rfl) (by rfl) B.min (by decide +kernel) (pa_cons (pv 5) pa_nil)) pe_int (nomark _)) (pw_or1 (pt_cmpR op_gt (pe_callB (cr_max rfl) (by rfl) B.max (by decide +kernel) (pa_cons (pv 5) pa_nil)) pe_int (nomark _))))))) (pss_one (ps_ret pe_bl)) pss_nil)
      (pss_one (ps_ret (pe_cmpR op_eq (pe_callC C_cost (hr.mono (by omega)) (by rfl) (pa_cons (pv 2) (pa_cons (pv 5) pa_nil))) (pe_callC C_law_joined (hr.mono (by omega)) (by rfl) (pa_cons (pv 2) pa_nil)) (nomark _))))))))))))))), ?_⟩
    -- many
    obtain ⟨n, hn2, hn16, en⟩ : ∃ n : Nat, 2 ≤ n ∧ n ≤ 16 ∧ 2 + cellOf ns 0 % 15 = (n : Int) := ⟨(2 + cellOf ns 0 % 15).toNat, by omega, by omega, by omega⟩
    refine q_asg (v := .int (n : Int)) (ev_is (ev_add ev_c (ev_op (ev_call (ea2 (ev_var rfl) ev_c) (spv_cell (j := 0) hs rfl)) ev_c (rv_mod (by decide)))) (by rw [en])) fun H1 e1 => ?_
    have hs1 := ex_l e1 hs
    refine q_asgL (el_call (ea3 (ev_var rfl) ev_c (ev_var rfl)) (sp_weights (f := 2) (n := n) hs1 (by omega) rfl rfl)) fun pw H2 hpw e2 h2 => ?_
    generalize hws : weightsL ns 2 n = ws at h2
    have hwl : ws.length = n := by rw [← hws, weightsL_len]
    have hwb : ∀ i, i < ws.length → 0 ≤ ws.getD i 0 ∧ ws.getD i 0 ≤ 1000000 := fun i hi => by
      rw [hwl] at hi
      rw [← hws, weightsL_at hi]
      exact weightOf_bd _
    have hnn : ∀ v ∈ ws, 0 ≤ v := fun v hv => by
      obtain ⟨i, hi, rfl⟩ := List.mem_iff_getElem.mp hv
      have := (hwb i hi).1
      rwa [List.getD_eq_getElem?_getD, List.getElem?_eq_getElem hi] at this
    have hnn' : ∀ i, 0 ≤ ws.getD i 0 := fun i => by
      by_cases hi : i < ws.length
      · exact (hwb i hi).1
      · rw [List.getD_eq_getElem?_getD, List.getElem?_eq_none (by omega)]
        decide
    have hne : ws ≠ [] := fun z => by rw [z] at hwl; simp at hwl; omega
    have hs2 := ex_l e2 hs1
    -- limit
    have hlim := llim_ok (n := n) (by omega)
    obtain ⟨L, hL1, hL16, hLf, eL⟩ : ∃ L : Nat, 1 ≤ L ∧ L ≤ 16 ∧ n ≤ 2 ^ L ∧ (if ((llim n : Nat) : Int) + cellOf ns 1 % 4 < 16 then ((llim n : Nat) : Int) + cellOf ns 1 % 4 else 16) = (L : Int) :=
      ⟨(((llim n : Nat) : Int) + cellOf ns 1 % 4).toNat, by omega, by omega, fits_in (by omega) (by omega), by rw [if_pos (by omega)]; omega⟩
    refine q_asg (v := .int (L : Int)) (ev_is (ev_min ev_c (ev_add (ev_call (ea1 (ev_var rfl)) sp_lim) (ev_op (ev_call (ea2 (ev_var rfl) ev_c) (spv_cell (j := 1) hs2 rfl)) ev_c (rv_mod (by decide))))) (by rw [eL])) fun H3 e3 => ?_
    have hw3 : SqL K H3 pw (ws.map L2.V.int) := sq_of (e3 _ _ h2)
    -- given
    refine q_asgL (el_listOf (ev_var rfl) hw3) fun pg H4 hpg e4 h4 => ?_
    obtain ⟨v, hv⟩ := first_some (ws := ws) (L := L) hL1 hne hnn (by rw [hwl]; exact hLf)
    have hv : M04.V (sumsL ws) L (0, 0, 1) = some v := hv
    obtain ⟨Fl, hFl, hg⟩ := lens_good hL1 hne hv
    have pin : PIn ws L := ⟨by omega, by omega, hL1, by omega, by rw [hwl]; exact hLf, hnn'⟩
    have e04 := ((e1.trans e2).trans e3).trans e4
    -- found
    refine q_asgP (ep_pk pin (sq_of h4) (e04 _ _ t3) (ea2 (ev_var rfl) (ev_var rfl))) fun vf H5 e5 ⟨pf, R, ev, hpf, hrow, hRl, h5⟩ => ?_
    subst ev
    obtain ⟨c1, c2⟩ := fnd_code (by omega) hrow hRl
    have hfd := fd_of c1 (by omega) (same_cost (by omega) hL1 hnn hnn' hv hrow hRl)
    clear c1 c2
    generalize asI (fnd ws.length (R.take (2 * ws.length - 2))) = ls at h5 hfd
    have e05 := e04.trans e5
    have g5 := e5 _ _ h4
    have w5 := ((e3.trans e4).trans e5) _ _ h2
    have hlne : ls ≠ [] := fun z => by have := hfd.len; rw [z] at this; simp at this; omega
    obtain ⟨mi, hmi, hmi2⟩ := min_of _ hlne
    obtain ⟨ma, hma, hma2⟩ := KC.max_of _ hlne
    refine flat (σ' := [some (.ref a), some (.int (n : Int)), some (.ref pw), some (.int (L : Int)), some (.ref pg), some (.ref pf), none]) rfl ?_
    refine q_when (b := false) (et_is (et_or (et_test (ev_neD (d := .list (ws.map PyData.int)) (d2 := .list (ws.map PyData.int)) (ed_at (ev_var rfl) (dp_listI (sq_of g5))) (ed_at (ev_var rfl) (dp_listI (sq_of w5))) (shaped_ints _) (shaped_ints _)))
      fun _ => et_or (et_test (ev_ne (ev_len (ev_var rfl) (sq_of h5)) (ev_var rfl)))
      fun _ => et_or (et_test (ev_lt (ev_call (ea1 (ev_var rfl)) (sp_room (sq_of h5) hfd.ok (by rw [hfd.len]; omega) (e05 _ _ t0))) ev_c))
      fun _ => et_or (et_test (ev_lt (ev_minL (ev_var rfl) (sq_of h5) hmi hmi2) ev_c))
      fun _ => et_test (ev_op (ev_maxL (ev_var rfl) (sq_of h5) hma hma2) (ev_var rfl) rv_I0)) ?_) (fun z => by cases z) (fun _ H6 e6 => ?_)
    · rw [eqv_ints, decide_eq_true (show ((((ls.map L2.V.int).length : Nat) : Int) = (n : Int)) by rw [List.length_map, hfd.len, hwl]), decide_eq_false (show ¬ M01.roomL ls < 0 by have := hfd.room; omega), decide_eq_false (show ¬ mi < 1 by have := hfd.bd mi hmi; omega), decide_eq_false (show ¬ (ma > (L : Int)) by have := hfd.bd ma hma; omega)]
      simp
    have w6 := e6 _ _ w5
    have f6 := e6 _ _ h5
    have e06 := e05.trans e6
    have win : ∀ {H' : Hp} {p : Addr}, H' p = some (.lst (ws.map L2.V.int)) → WIn K ws L p H' := fun h => ⟨sq_of h, by omega, by omega, hL1, by omega⟩
    have hld : Fd ws L (lensW ws L) v := by rw [hFl]; exact fd_of ⟨hg.len, hg.bd, hg.kr⟩ (by omega) hg.co
    refine q_when (b := false) (et_is (et_test (ev_ne (i := v) (j := v) (ev_call (ea2 (ev_var rfl) (ev_var rfl)) (spv_cost (sq_of w6) (sq_of f6) hfd.len.symm (by omega) (e06 _ _ t2) hwb hfd.at_ hfd.co))
      (ev_costN (ev_var rfl) (el_call (ea2 (ev_var rfl) (ev_var rfl)) (sp_ll (win w6) hv (e06 _ _ t1))) fun p Ha ea hp => spv_cost (sq_of (ea _ _ w6)) (sq_of hp) hld.len.symm (by omega) (ea _ _ (e06 _ _ t2)) hwb hld.at_ hld.co))) (by simp)) (fun z => by cases z) (fun _ H7 e7 => ?_)
    have e07 := e06.trans e7
    clear hld win w6 f6 hmi hmi2 hma hma2 hlne g5 w5 h5 hfd hpf hrow hRl h4 hpg hw3 h2 hpw hv hFl hg pin hLf eL hlim hne hnn hnn' hwb hwl hws hs1 hs2 e04 e05 e06
    have hs7 := ex_l e07 hs
    -- many
    obtain ⟨m, hm2, hm40, em⟩ : ∃ m : Nat, 2 ≤ m ∧ m ≤ 40 ∧ 2 + cellOf ns 18 % 39 = (m : Int) := ⟨(2 + cellOf ns 18 % 39).toNat, by omega, by omega, by omega⟩
    refine q_asg (v := .int (m : Int)) (ev_is (ev_add ev_c (ev_op (ev_call (ea2 (ev_var rfl) ev_c) (spv_cell (j := 18) hs7 rfl)) ev_c (rv_mod (by decide)))) (by rw [em])) fun H8 e8 => ?_
    have hs8 := ex_l e8 hs7
    refine q_asgL (el_lcR1 (fun _ => true) (fun k => L2.V.int (1 + cellOf ns (19 + k) % 200)) (ea1 (ev_var rfl)) ⟨by omega, by omega⟩ (fun x => rfl) (fun i H1 e hi => et_yes)
      (fun i H1 e hi _ => ev_add ev_c (ev_op (ev_call (ea2 (ev_var rfl) (ev_add ev_c (ev_var rfl))) (spv_cell (j := 19 + i) (ex_l e hs8) (by omega))) ev_c (rv_mod (by decide))))) fun pw2 H9 hpw2 e9 h9 => ?_
    rw [given_all, Int.toNat_natCast] at h9
    generalize hws2 : (List.range m).map (fun k => 1 + cellOf ns (19 + k) % 200) = us at h9
    have hul : us.length = m := by rw [← hws2, List.length_map, List.length_range]
    have hub : ∀ u ∈ us, 1 ≤ u ∧ u ≤ 200 := fun u hu => by
      rw [← hws2] at hu
      obtain ⟨j, _, e⟩ := List.mem_map.mp hu
      omega
    have hua : ∀ i, i < us.length → 0 ≤ us.getD i 0 ∧ us.getD i 0 ≤ 1000000 := fun i hi => by
      have : us.getD i 0 ∈ us := by
        rw [List.getD_eq_getElem?_getD, List.getElem?_eq_getElem hi]
        exact List.getElem_mem _
      have := hub _ this
      omega
    have hua' : ∀ i, 0 ≤ us.getD i 0 := fun i => by
      by_cases hi : i < us.length
      · exact (hua i hi).1
      · rw [List.getD_eq_getElem?_getD, List.getElem?_eq_none (by omega)]
        decide
    have husum : us.sum ≤ 8000 := by
      have key : ∀ l : List Int, (∀ u ∈ l, 1 ≤ u ∧ u ≤ 200) → l.sum ≤ 200 * (l.length : Int) := fun l => by
        induction l with
        | nil => intro _; simp
        | cons u l ih =>
          intro h
          have h1 := ih fun y hy => h y (by simp [hy])
          have h2 := h u (by simp)
          rw [List.sum_cons, List.length_cons]
          push_cast
          omega
      have := key us hub
      omega
    have pin2 : PIn us 20 := ⟨by omega, by omega, by omega, by omega, by
      have : (2 : Nat) ^ 20 = 1048576 := rfl
      omega, hua'⟩
    have e09 := (e07.trans e8).trans e9
    refine q_asgP (ep_pkN pin2 (e09 _ _ t3) (el_listOf (ev_var rfl) (sq_of h9)) ev_c) fun vf H10 e10 ⟨pf2, R2, ev, hpf2, hrow2, hRl2, h10⟩ => ?_
    subst ev
    obtain ⟨c1, c2⟩ := fnd_code (by omega) hrow2 hRl2
    have hj := (joined (by omega) (fun u hu => (hub u hu).1) husum hrow2).2
    have hfd := fd_of c1 (by omega) (c2.trans hj)
    clear c1 c2 hj
    generalize asI (fnd us.length (R2.take (2 * us.length - 2))) = ls2 at h10 hfd
    have e010 := e09.trans e10
    have w10 := e10 _ _ h9
    have hlne : ls2 ≠ [] := fun z => by have := hfd.len; rw [z] at this; simp at this; omega
    obtain ⟨mi2, hmi, hmi2⟩ := min_of _ hlne
    obtain ⟨ma2, hma, hma2⟩ := KC.max_of _ hlne
    refine flat (σ' := [some (.ref a), some (.int (m : Int)), some (.ref pw2), some (.int (L : Int)), some (.ref pg), some (.ref pf2), none]) rfl ?_
    refine q_when (b := false) (et_is (et_or (et_test (ev_ne (ev_len (ev_var rfl) (sq_of h10)) (ev_var rfl)))
      fun _ => et_or (et_test (ev_lt (ev_call (ea1 (ev_var rfl)) (sp_room (sq_of h10) hfd.ok (by rw [hfd.len]; omega) (e010 _ _ t0))) ev_c))
      fun _ => et_or (et_test (ev_lt (ev_minL (ev_var rfl) (sq_of h10) hmi hmi2) ev_c))
      fun _ => et_test (ev_op (ev_maxL (ev_var rfl) (sq_of h10) hma hma2) ev_c rv_I0)) ?_) (fun z => by cases z) (fun _ H11 e11 => ?_)
    · rw [decide_eq_true (show ((((ls2.map L2.V.int).length : Nat) : Int) = (m : Int)) by rw [List.length_map, hfd.len, hul]), decide_eq_false (show ¬ M01.roomL ls2 < 0 by have := hfd.room; omega), decide_eq_false (show ¬ mi2 < 1 by have := hfd.bd mi2 hmi; omega), decide_eq_false (show ¬ (ma2 > (20 : Int)) by have := hfd.bd ma2 hma; omega)]
      rfl
    have w11 := e11 _ _ w10
    have f11 := e11 _ _ h10
    have e011 := e010.trans e11
    refine s_ret (v := .bl true) (ev_is (ev_eq (ev_call (ea2 (ev_var rfl) (ev_var rfl)) (spv_cost (sq_of w11) (sq_of f11) hfd.len.symm (by omega) (e011 _ _ t2) hua hfd.at_ hfd.co)) (ev_call (ea1 (ev_var rfl)) (spv_joined (sq_of w11) (by omega) (by omega) rfl))) (by rw [decide_eq_true rfl])) fun H12 e12 => q H12 (e011.trans e12)
end
end K05
set_option Elab.async false
set_option linter.all false
set_option maxRecDepth 100000
set_option maxHeartbeats 4000000
/-! The end of a law: the head's heap, the script, tables of code objects followed as TabX. -/
namespace KC
open PySem PySem.Spec PyProof.Rows L2 GX Evl
def tabO : Obj := { cls := .none, data := .fields #[] }
/-- tables that stand empty in h, out of the frozen part, of known code objects -/
structure Tbs (K : PySem.W.Frag) (h : Heap) (cs : List (Addr × Addr)) : Prop where
  emp : ∀ p ∈ cs, h.get? p.2 = some tabO
  out : ∀ p ∈ cs, K.lookup p.2 = none
  cod : ∀ p ∈ cs, PySem.W.CodeHd h p.1 p.2
structure Hd0 (K : PySem.W.Frag) (mg mb : Str → Option Value) (s : Shared) : Prop where
  kin : K.In s.heap
  glo : s.heap.Ns mainGlobals mg
  blt : s.heap.Ns builtinsNs mb
  boo : ∀ y : Str, y ≠ "__name__" → mb y = bootBuiltins y
  lim : s.heap.NoLimit
  gen : s.gens = #[]
  bmo : ∃ (bm : Addr) (o : Obj), mg "__builtins__" = some (.ref bm) ∧ bm ≠ builtinsNs ∧ s.heap.get? bm = some o ∧ o.cls = .type "module" ∧ o.dict = some builtinsNs ∧ o.data = .plain
/-- the start: the tables, and the script where it is not frozen -/
def H0 (cs : List (Addr × Addr)) (a : Addr) (u : Option HO) : Hp := fun b => if b ∈ cs.map Prod.snd then some (TabX b) else if b = a then u else none
theorem h0_tab {cs : List (Addr × Addr)} {a b : Addr} {u : Option HO} (m : b ∈ cs.map Prod.snd) : H0 cs a u b = some (TabX b) := if_pos m
theorem h0_a {cs : List (Addr × Addr)} {a : Addr} {u : Option HO} (m : a ∉ cs.map Prod.snd) : H0 cs a u a = u := (if_neg m).trans (if_pos rfl)
theorem h0_no {cs : List (Addr × Addr)} {a b : Addr} {u : Option HO} (m : b ∉ cs.map Prod.snd) (n : b ≠ a) : H0 cs a u b = none := (if_neg m).trans (if_neg n)
section
variable {P : Program} {w : World} {K : PySem.W.Frag} {mg mb : Str → Option Value} {CX : CXT} {s : Shared} {cs : List (Addr × Addr)} {a : Addr} {u : Option HO} {vs : List Value}
theorem Tbs.at_ {h : Heap} (T : Tbs K h cs) {b : Addr} (m : b ∈ cs.map Prod.snd) : h.get? b = some tabO := by
  obtain ⟨p, hp, rfl⟩ := List.mem_map.mp m
  exact T.emp p hp
/-- an object that is neither a list nor a table is not followed -/
theorem h0_free (T : Tbs K s.heap cs) (ha : s.heap.get? a = some { cls := .type "list", data := .seq vs.toArray }) {b : Addr} {o : Obj} (e : s.heap.get? b = some o) (d1 : ∀ xs k, o.data ≠ .seq xs k) (d2 : o.data ≠ .fields #[]) : H0 cs a u b = none := by
  refine h0_no (fun m => ?_) fun z => ?_
  · have q := T.at_ m
    rw [e] at q
    exact d2 (by rw [Option.some.inj q] <;> rfl)
  · subst z
    rw [e] at ha
    exact d1 _ _ (congrArg Obj.data (Option.some.inj ha))
theorem dict_free {o : Obj} {es : Array DictEntry} {ep : Nat} (d : o.data = .dict es ep) : (∀ xs k, o.data ≠ .seq xs k) ∧ o.data ≠ .fields #[] := by
  rw [d]
  exact ⟨fun _ _ z => (nomatch z), fun z => (nomatch z)⟩
theorem plain_free {o : Obj} (d : o.data = .plain) : (∀ xs k, o.data ≠ .seq xs k) ∧ o.data ≠ .fields #[] := by
  rw [d]
  exact ⟨fun _ _ z => (nomatch z), fun z => (nomatch z)⟩
/-- the ground under the law's def -/
structure Grd (P : Program) (w : World) (K : PySem.W.Frag) (mg : Str → Option Value) (cs : List (Addr × Addr)) (H : Hp) (s : Shared) : Prop where
  env : Env0 P w K mg (hidT s.heap H) callerA [] s H
  kin : K.In (hidT s.heap H)
  glo : (hidT s.heap H).Ns mainGlobals mg
  tab : ∀ p ∈ cs, GxR.TabB (hidT s.heap H) mg p.1 p.2
theorem grd_of (D : Hd0 K mg mb s) (T : Tbs K s.heap cs) (ha : s.heap.get? a = some { cls := .type "list", data := .seq vs.toArray }) (hu : u ≠ none → K.lookup a = none) (ok : HOk P w (H0 cs a u) s.heap) : Grd P w K mg cs (H0 cs a u) s := by
  have down : ∀ {b : Addr} {o : Obj}, s.heap.get? b = some o → (∀ xs k, o.data ≠ .seq xs k) ∧ o.data ≠ .fields #[] → (hidT s.heap (H0 cs a u)).get? b = some o := fun e d => hidT_get e (h0_free T ha e d.1 d.2)
  have ns : ∀ {b : Addr} {m : Str → Option Value}, s.heap.Ns b m → (hidT s.heap (H0 cs a u)).Ns b m := fun x => by
    obtain ⟨o, es, ep, e, d, r⟩ := x
    exact ⟨o, es, ep, down e (dict_free d), d, r⟩
  have kin : K.In (hidT s.heap (H0 cs a u)) := fun b o e => by
    refine hidT_get (D.kin b o e) ?_
    by_cases m : b ∈ cs.map Prod.snd
    · obtain ⟨p, hp, rfl⟩ := List.mem_map.mp m
      rw [T.out p hp] at e
      cases e
    · by_cases z : b = a
      · subst z
        rw [h0_a m]
        cases hu1 : u with
        | none => rfl
        | some v =>
          rw [hu (by rw [hu1]; exact Option.some_ne_none v)] at e
          cases e
      · exact h0_no m z
  refine ⟨⟨rfl, ⟨kin, ns D.glo, ⟨mb, ns D.blt, D.boo⟩, ?_⟩, fun b o e => of_hidT e, Nat.le_of_eq (hidT_size _ _), trivial, fun b hb => absurd (show b ∈ ([] : List Addr) from hb) List.not_mem_nil, ok, .of_eq D.gen⟩, kin, ns D.glo, fun p hp => ⟨?_, ?_, fun z => ?_⟩⟩
  · obtain ⟨mc, n1, n2⟩ := D.lim
    exact ⟨mc, ns n1, n2⟩
  · obtain ⟨o, us, f1, f2, f3, f4, f5, f6, f7, e, c1, c2, c3, rest⟩ := T.cod p hp
    refine ⟨o, us, f1, f2, f3, f4, f5, f6, f7, down e ?_, c1, c2, c3, rest⟩
    rw [c2]
    refine ⟨fun _ _ z => (nomatch z), fun z => ?_⟩
    have z' : us = #[] := by injection z
    rw [z'] at c3
    simp at c3
  · obtain ⟨bm, o, b1, b2, b3, b4, b5, b6⟩ := D.bmo
    have g1 : bm ≠ mainGlobals := fun z => by
      obtain ⟨og, es, ep, e, d, _⟩ := D.glo
      rw [← z, b3] at e
      rw [← Option.some.inj e, b6] at d
      cases d
    have g2 : bm ≠ p.2 := fun z => by
      have q := T.emp p hp
      rw [← z, b3] at q
      rw [Option.some.inj q] at b6
      cases b6
    exact ⟨bm, o, b1, b2, g1, g2, down b3 (plain_free b6), b4, b5, b6⟩
  · obtain ⟨og, es, ep, e, d, _⟩ := D.glo
    have q := T.emp p hp
    rw [← z, e] at q
    rw [Option.some.inj q] at d
    cases d
/-- the law is called with its script -/
theorem law_callX {k : Nat} {fa : Addr} {fd : FuncData} {x : Str} {sp : Sp} {ns : List Int} (D : Hd0 K mg mb s) (T : Tbs K s.heap cs) (ha : s.heap.get? a = some { cls := .type "list", data := .seq vs.toArray }) (hi : IntsAre vs ns) (hl : ns.length ≤ sizeLine) (hr : Room k callerA)
    (ok : ∀ base : Heap, K.In base → base.Ns mainGlobals mg → (∀ p ∈ cs, GxR.TabB base mg p.1 p.2) → FnOk P w K mg base CX k fa fd [x] sp) (bd : ∀ (s : Shared) (v : Value), BindsTo s fd ⟨[v], []⟩ [(x, v)])
    (hsp : ∀ H : Hp, (∀ p ∈ cs, H p.2 = some (TabX p.2)) → SqL K H a (ns.map V.int) → sp [.ref a] H (fun v H' => v = .bl true ∧ ∀ p ∈ cs, H' p.2 = some (TabX p.2)) fun _ _ _ => False)
    (hx : ∀ H e s', CX [] H s (fun _ _ _ => False) e s' → False) :
    codeAny (model P w) callerA (.call (.ref fa) ⟨[.ref a], []⟩) (fun r s' => r = .ok (.ret (.bool true)) ∧ OldK s.heap s'.heap ∧ s'.os = s.os ∧ AllBare s'.gens) s := by
  have rv := vals_ints hi
  have anot : a ∉ cs.map Prod.snd := fun m => by
    have q := T.at_ m
    rw [ha] at q
    have q2 := congrArg Obj.data (Option.some.inj q)
    cases q2
  have tabs : ∀ {u : Option HO}, ∀ p ∈ cs, H0 cs a u p.2 = some (TabX p.2) := fun p hp => h0_tab (List.mem_map.mpr ⟨p, hp, rfl⟩)
  -- whatever is followed of the script
  have go : ∀ u : Option HO, (u = none ∨ u = some (.frz { cls := .type "list", data := .seq vs.toArray } (.lst (ns.map V.int)))) → (u ≠ none → K.lookup a = none) → SqL K (H0 cs a u) a (ns.map V.int) →
      codeAny (model P w) callerA (.call (.ref fa) ⟨[.ref a], []⟩) (fun r s' => r = .ok (.ret (.bool true)) ∧ OldK s.heap s'.heap ∧ s'.os = s.os ∧ AllBare s'.gens) s := fun u hu hk hs => by
    have hok : HOk P w (H0 cs a u) s.heap := fun b o e => by
      by_cases m : b ∈ cs.map Prod.snd
      · rw [h0_tab m] at e
        cases e
        exact tabx_ok (T.at_ m) (show TriplesOk [] from trivial)
      · by_cases z : b = a
        · subst z
          rw [h0_a m] at e
          rcases hu with rfl | rfl
          · cases e
          · cases e
            exact ⟨ha, by rw [List.length_map]; exact hl, vs, 0, rv, ha⟩
        · rw [h0_no m z] at e
          cases e
    have G := grd_of (u := u) D T ha hk hok
    refine codeAny_mono ((ok _ G.kin G.glo G.tab).run callerA [] s _ ⟨[.ref a], []⟩ [.ref a] [.ref a] _ _ hr G.env (bd s (.ref a)) (.cons rfl .nil) (hsp _ tabs hs)) fun r s' h => ?_
    match r, h with
    | .error e, h => exact (hx _ e s' h).elim
    | .ok .next, h => exact False.elim h
    | .ok .brk, h => exact False.elim h
    | .ok .cont, h => exact False.elim h
    | .ok (.ret v0), h =>
      obtain ⟨v, H', os, bare, un, hok', r', q, qt⟩ := h
      subst q
      obtain rfl : v0 = Value.bool true := r'
      have same : ∀ b o, b ∉ cs.map Prod.snd → s.heap.get? b = some o → s'.heap.get? b = some o := fun b o m e => by
        by_cases z : b = a
        · subst z
          rcases hu with rfl | rfl
          · exact un.keep b o e (h0_a m) List.not_mem_nil List.not_mem_nil
          · have f2 := hok' b _ (un.frzs b _ _ (h0_a m))
            rw [ha] at e
            rw [← Option.some.inj e]
            exact f2.1
        · exact un.keep b o e (h0_no m z) List.not_mem_nil List.not_mem_nil
      have grew : ∀ p ∈ cs, ∃ more : Array Value, s'.heap.get? p.2 = some { cls := .none, data := .fields more } := fun p hp => by
        obtain ⟨⟨more, e, _⟩, _⟩ := hok' p.2 _ (qt p hp)
        exact ⟨more, e⟩
      refine ⟨rfl, ⟨fun b o e => ?_, fun b o e => ?_⟩, os, bare⟩
      · by_cases m : b ∈ cs.map Prod.snd
        · obtain ⟨p, hp, rfl⟩ := List.mem_map.mp m
          obtain ⟨more, g⟩ := grew p hp
          have eo : o = tabO := Option.some.inj (e.symm.trans (T.emp p hp))
          subst eo
          exact .inr (.inl ⟨((T.cod p hp).tab (ps := #[]) (T.emp p hp)).isCodeTable, rfl, #[], more, rfl, by rw [Array.empty_append]; exact g⟩)
        · exact .inl (same b o m e)
      · by_cases m : b ∈ cs.map Prod.snd
        · obtain ⟨p, hp, rfl⟩ := List.mem_map.mp m
          obtain ⟨more, g⟩ := grew p hp
          exact ⟨_, g⟩
        · exact ⟨o, same b o m e⟩
  cases hk : K.lookup a with
  | none => exact go _ (.inr rfl) (fun _ => hk) (.inl (.inr ⟨_, h0_a anot⟩))
  | some o =>
    have e := (D.kin a o hk).symm.trans ha
    have eo := Option.some.inj e
    subst eo
    exact go none (.inl rfl) (fun z => absurd rfl z) (.inr ⟨_, vs.toArray, _, hk, rfl, rfl, rfl, by rw [List.size_toArray, hi.length]; exact hl, by simpa using rv⟩)
end
/-- what the head's defs have: their code objects, with empty tables -/
def Rec0 (q : Program) (mg : Str → Option Value) (h : Heap) : Prop := ∀ d ∈ recsOf q, ∃ a o fd c P, mg d.name = some (.ref a) ∧ h.get? a = some o ∧ o.data = .func fd ∧ fd.code = .ref c ∧ h.IsCode c P #[] ∧ h.TableAt c P #[]
theorem tab_emp {q : Program} {mg : Str → Option Value} {h : Heap} {K : PySem.W.Frag} (R : Rec0 q mg h) (X : K.In h) {nm : Str} {f c Pt : Addr} {fd : FuncData} {e : Value} {dd : Option Addr} {sl : Array (Option Value)}
    (hrec : ((recsOf q).any fun e => e.name == nm) = true) (hm : mg nm = some (.ref f)) (hk : K.lookup f = some ⟨e, dd, .func fd, sl⟩) (hc : fd.code = .ref c) (C : PySem.W.CodeHd h c Pt) : h.get? Pt = some tabO := by
  obtain ⟨d, hd, hn⟩ := List.any_eq_true.mp hrec
  obtain ⟨f1, o1, fd1, c1, P1, e1, e2, e3, e4, _, ⟨⟨oc, vc, g1, _, g3, g4⟩, g5⟩⟩ := R d hd
  rw [beq_iff_eq.mp hn, hm] at e1
  have ef : f = f1 := Value.ref.inj (Option.some.inj e1)
  subst ef
  rw [X f _ hk] at e2
  have eo := Option.some.inj e2
  subst eo
  have efd : fd = fd1 := by injection e3
  subst efd
  rw [hc] at e4
  have ec : c = c1 := Value.ref.inj e4
  subst ec
  obtain ⟨o2, us, _, _, _, _, _, _, _, k1, _, k2, k3, _⟩ := C
  rw [k1] at g1
  have eo2 := Option.some.inj g1
  subst eo2
  rw [k2] at g3
  have eu : us = vc := by injection g3
  subst eu
  rw [k3] at g4
  have eP : Pt = P1 := Value.ref.inj (Option.some.inj g4)
  subst eP
  exact g5
def LawX (l : PySem.W.OpenLaw) (w : World) (K : PySem.W.Frag) (CX : CXT) (k n : Nat) (x : Str) (mg : Str → Option Value) (fa : Addr) (h : Heap) : Prop :=
  ∃ (fd : FuncData) (cs : List (Addr × Addr)) (sp : Sp), Tbs K h cs ∧ (∀ (s : Shared) (v : Value), BindsTo s fd ⟨[v], []⟩ [(x, v)]) ∧
    (∀ (H : Hp) (a : Addr) (ns : List Int), ns.length ≤ n → (∀ z ∈ ns, Builtin.Int.intBits z ≤ 1048576) → (∀ p ∈ cs, H p.2 = some (TabX p.2)) → SqL K H a (ns.map V.int) → sp [.ref a] H (fun v H' => v = .bl true ∧ ∀ p ∈ cs, H' p.2 = some (TabX p.2)) fun _ _ _ => False) ∧
    ∀ base : Heap, K.In base → base.Ns mainGlobals mg → (∀ p ∈ cs, GxR.TabB base mg p.1 p.2) → FnOk l.prog w K mg base CX k fa fd [x] sp
theorem walk_X {l : PySem.W.OpenLaw} {n k : Nat} {q : Program} {loose : List Str} {XP : (Str → Option Value) → Heap → Prop} {YP : World → Heap → Prop} {d : DefRec} {Kf : Params → PySem.W.Frag} {CX : World → CXT} {x : Str}
    (h1 : l.most = some n) (h2 : n ≤ sizeLine) (h3 : d.params.defaults = []) (h4 : Room k callerA) (h5 : ∀ (w : World) (h : Heap), YP w h → (Kf w.params).In h)
    (F : ∀ (w : World) (mg : Str → Option Value) (fa : Addr) (h : Heap), YP w h → (Kf w.params).In h → h.Ns mainGlobals mg → mg d.name = some (.ref fa) → Rec0 q mg h → LawX l w (Kf w.params) (CX w) k n x mg fa h)
    (h6 : ∀ (w : World) (H : Hp) (s : Shared) (e : Value) (s' : Shared), CX w [] H s (fun _ _ _ => False) e s' → False) :
    PySem.W.WalkO q loose XP YP l.row.toRowW d [] (fun f vs => PySem.call f vs) := by
  refine Att.attach_callB h1 h3 fun w _ s₁ mg mb fa o pm cd doc a vs ns G Y _ _ _ hmg hobj hints hlen hbits hg => ?_
  have X := h5 w _ Y
  obtain ⟨fd, cs, sp, T, bd, hsp, ok⟩ := F w mg fa _ Y X G.T.g hmg G.T.tab
  exact law_callX ⟨X, G.T.g, G.T.b, G.T.builtins, G.T.nolimit, hg, G.T.bmain⟩ T hobj hints (Nat.le_trans hlen h2) h4 ok bd (fun H hT hS => hsp H a ns hlen hbits hT hS) fun H e s' => h6 w H s₁ e s'
end KC
set_option Elab.async false
set_option linter.all false
set_option maxRecDepth 100000
set_option maxHeartbeats 4000000
namespace K05
open PySem PySem.Spec PyProof.Rows L2 GX KC Evl M03 M04 M05 KP
theorem top_of {l : PySem.W.OpenLaw} {q : Program} {w : World} {K : PySem.W.Frag} {h : Heap} {mg : Str → Option Value} {fa : Addr} (X : K.In h) (G : h.Ns mainGlobals mg) (R : Rec0 q mg h) (hfa : mg "law" = some (.ref fa)) (r0 : ((recsOf q).any fun e => e.name == "room") = true)  (r1 : ((recsOf q).any fun e => e.name == "ranks") = true)  (r2 : ((recsOf q).any fun e => e.name == "cost") = true)  (r11 : ((recsOf q).any fun e => e.name == "packaged_lengths") = true)
    {tk ta tb tc : Tok} {tf : Addr} {oFd : Option Addr} {nF : Nat} {oFs : Array (Option Value)}
    {f0 : Addr} {od0 an0 : Option Addr} {sl0 : Array (Option Value)} {oc0 kV0 dc0 pm0 ct0 : Value} {g0 P0 : Addr} {vc0 : Value} {vd0 : Option Addr} {us0 : Array Value} {vl0 : Array (Option Value)}
    (a0 : PySem.W.nsIn K mainGlobals "room" = some (some (.ref f0))) (l0 : K.lookup f0 = some ⟨oc0, od0, .func (PySem.W.fnOf "room" "room" (defArgs s_room) (defBody s_room) (defScope s_room) .none kV0 dc0 pm0 an0 (.ref g0) ct0), sl0⟩) (c0 : PySem.W.codeIn K (.ref g0) "room" = true) (k0 : PySem.W.keepIn K (.ref f0) = true)
    (v0 : K.lookup g0 = some ⟨vc0, vd0, .fields us0, vl0⟩) (p0 : us0[11]? = some (.ref P0)) (t0 : PySem.W.codeHdIn K g0 P0 = true) (n0 : K.lookup P0 = none)
    {f1 : Addr} {od1 an1 : Option Addr} {sl1 : Array (Option Value)} {oc1 kV1 dc1 pm1 ct1 : Value} {g1 P1 : Addr} {vc1 : Value} {vd1 : Option Addr} {us1 : Array Value} {vl1 : Array (Option Value)}
    (a1 : PySem.W.nsIn K mainGlobals "ranks" = some (some (.ref f1))) (l1 : K.lookup f1 = some ⟨oc1, od1, .func (PySem.W.fnOf "ranks" "ranks" (defArgs s_ranks) (defBody s_ranks) (defScope s_ranks) .none kV1 dc1 pm1 an1 (.ref g1) ct1), sl1⟩) (c1 : PySem.W.codeIn K (.ref g1) "ranks" = true) (k1 : PySem.W.keepIn K (.ref f1) = true)
    (v1 : K.lookup g1 = some ⟨vc1, vd1, .fields us1, vl1⟩) (p1 : us1[11]? = some (.ref P1)) (t1 : PySem.W.codeHdIn K g1 P1 = true) (n1 : K.lookup P1 = none)
    {f2 : Addr} {od2 an2 : Option Addr} {sl2 : Array (Option Value)} {oc2 kV2 dc2 pm2 ct2 : Value} {g2 P2 : Addr} {vc2 : Value} {vd2 : Option Addr} {us2 : Array Value} {vl2 : Array (Option Value)}
    (a2 : PySem.W.nsIn K mainGlobals "cost" = some (some (.ref f2))) (l2 : K.lookup f2 = some ⟨oc2, od2, .func (PySem.W.fnOf "cost" "cost" (defArgs s_cost) (defBody s_cost) (defScope s_cost) .none kV2 dc2 pm2 an2 (.ref g2) ct2), sl2⟩) (c2 : PySem.W.codeIn K (.ref g2) "cost" = true) (k2 : PySem.W.keepIn K (.ref f2) = true)
    (v2 : K.lookup g2 = some ⟨vc2, vd2, .fields us2, vl2⟩) (p2 : us2[11]? = some (.ref P2)) (t2 : PySem.W.codeHdIn K g2 P2 = true) (n2 : K.lookup P2 = none)
    {f3 : Addr} {od3 an3 : Option Addr} {sl3 : Array (Option Value)} {oc3 kV3 dc3 pm3 ct3 : Value} {cd3 : Value}
    (a3 : PySem.W.nsIn K mainGlobals "rests" = some (some (.ref f3))) (l3 : K.lookup f3 = some ⟨oc3, od3, .func (PySem.W.fnOf "rests" "rests" (defArgs s_rests) (defBody s_rests) (defScope s_rests) .none kV3 dc3 pm3 an3 cd3 ct3), sl3⟩) (c3 : PySem.W.codeIn K cd3 "rests" = true) (k3 : PySem.W.keepIn K (.ref f3) = true)
    {f4 : Addr} {od4 an4 : Option Addr} {sl4 : Array (Option Value)} {oc4 kV4 dc4 pm4 ct4 : Value} {cd4 : Value}
    (a4 : PySem.W.nsIn K mainGlobals "word_counts" = some (some (.ref f4))) (l4 : K.lookup f4 = some ⟨oc4, od4, .func (PySem.W.fnOf "word_counts" "word_counts" (defArgs s_word_counts) (defBody s_word_counts) (defScope s_word_counts) .none kV4 dc4 pm4 an4 cd4 ct4), sl4⟩) (c4 : PySem.W.codeIn K cd4 "word_counts" = true) (k4 : PySem.W.keepIn K (.ref f4) = true)
    {f5 : Addr} {od5 an5 : Option Addr} {sl5 : Array (Option Value)} {oc5 kV5 dc5 pm5 ct5 : Value} {cd5 : Value}
    (a5 : PySem.W.nsIn K mainGlobals "stage_choices" = some (some (.ref f5))) (l5 : K.lookup f5 = some ⟨oc5, od5, .func (PySem.W.fnOf "stage_choices" "stage_choices" (defArgs s_stage_choices) (defBody s_stage_choices) (defScope s_stage_choices) .none kV5 dc5 pm5 an5 cd5 ct5), sl5⟩) (c5 : PySem.W.codeIn K cd5 "stage_choices" = true) (k5 : PySem.W.keepIn K (.ref f5) = true)
    {f6 : Addr} {od6 an6 : Option Addr} {sl6 : Array (Option Value)} {oc6 kV6 dc6 pm6 ct6 : Value} {cd6 : Value}
    (a6 : PySem.W.nsIn K mainGlobals "reached_stages" = some (some (.ref f6))) (l6 : K.lookup f6 = some ⟨oc6, od6, .func (PySem.W.fnOf "reached_stages" "reached_stages" (defArgs s_reached_stages) (defBody s_reached_stages) (defScope s_reached_stages) .none kV6 dc6 pm6 an6 cd6 ct6), sl6⟩) (c6 : PySem.W.codeIn K cd6 "reached_stages" = true) (k6 : PySem.W.keepIn K (.ref f6) = true)
    {f7 : Addr} {od7 an7 : Option Addr} {sl7 : Array (Option Value)} {oc7 kV7 dc7 pm7 ct7 : Value} {cd7 : Value}
    (a7 : PySem.W.nsIn K mainGlobals "least_sum" = some (some (.ref f7))) (l7 : K.lookup f7 = some ⟨oc7, od7, .func (PySem.W.fnOf "least_sum" "least_sum" (defArgs s_least_sum) (defBody s_least_sum) (defScope s_least_sum) .none kV7 dc7 pm7 an7 cd7 ct7), sl7⟩) (c7 : PySem.W.codeIn K cd7 "least_sum" = true) (k7 : PySem.W.keepIn K (.ref f7) = true)
    {f8 : Addr} {od8 an8 : Option Addr} {sl8 : Array (Option Value)} {oc8 kV8 dc8 pm8 ct8 : Value} {cd8 : Value}
    (a8 : PySem.W.nsIn K mainGlobals "stage_values" = some (some (.ref f8))) (l8 : K.lookup f8 = some ⟨oc8, od8, .func (PySem.W.fnOf "stage_values" "stage_values" (defArgs s_stage_values) (defBody s_stage_values) (defScope s_stage_values) .none kV8 dc8 pm8 an8 cd8 ct8), sl8⟩) (c8 : PySem.W.codeIn K cd8 "stage_values" = true) (k8 : PySem.W.keepIn K (.ref f8) = true)
    {f9 : Addr} {od9 an9 : Option Addr} {sl9 : Array (Option Value)} {oc9 kV9 dc9 pm9 ct9 : Value} {cd9 : Value}
    (a9 : PySem.W.nsIn K mainGlobals "least_lengths" = some (some (.ref f9))) (l9 : K.lookup f9 = some ⟨oc9, od9, .func (PySem.W.fnOf "least_lengths" "least_lengths" (defArgs s_least_lengths) (defBody s_least_lengths) (defScope s_least_lengths) .none kV9 dc9 pm9 an9 cd9 ct9), sl9⟩) (c9 : PySem.W.codeIn K cd9 "least_lengths" = true) (k9 : PySem.W.keepIn K (.ref f9) = true)
    {f10 : Addr} {od10 an10 : Option Addr} {sl10 : Array (Option Value)} {oc10 kV10 dc10 pm10 ct10 : Value} {cd10 : Value}
    (a10 : PySem.W.nsIn K mainGlobals "packages" = some (some (.ref f10))) (l10 : K.lookup f10 = some ⟨oc10, od10, .func (PySem.W.fnOf "packages" "packages" (defArgs s_packages) (defBody s_packages) (defScope s_packages) .none kV10 dc10 pm10 an10 cd10 ct10), sl10⟩) (c10 : PySem.W.codeIn K cd10 "packages" = true) (k10 : PySem.W.keepIn K (.ref f10) = true)
    {f11 : Addr} {od11 an11 : Option Addr} {sl11 : Array (Option Value)} {oc11 kV11 dc11 pm11 ct11 : Value} {g11 P3 : Addr} {vc11 : Value} {vd11 : Option Addr} {us11 : Array Value} {vl11 : Array (Option Value)}
    (a11 : PySem.W.nsIn K mainGlobals "packaged_lengths" = some (some (.ref f11))) (l11 : K.lookup f11 = some ⟨oc11, od11, .func (PySem.W.fnOf "packaged_lengths" "packaged_lengths" (defArgs s_packaged_lengths) (defBody s_packaged_lengths) (defScope s_packaged_lengths) .none kV11 dc11 pm11 an11 (.ref g11) ct11), sl11⟩) (c11 : PySem.W.codeIn K (.ref g11) "packaged_lengths" = true) (k11 : PySem.W.keepIn K (.ref f11) = true)
    (v11 : K.lookup g11 = some ⟨vc11, vd11, .fields us11, vl11⟩) (p11 : us11[11]? = some (.ref P3)) (t11 : PySem.W.codeHdIn K g11 P3 = true) (n11 : K.lookup P3 = none)
    {f12 : Addr} {od12 an12 : Option Addr} {sl12 : Array (Option Value)} {oc12 kV12 dc12 pm12 ct12 : Value} {cd12 : Value}
    (a12 : PySem.W.nsIn K mainGlobals "_law_cell" = some (some (.ref f12))) (l12 : K.lookup f12 = some ⟨oc12, od12, .func (PySem.W.fnOf "_law_cell" "_law_cell" (defArgs s_law_cell) (defBody s_law_cell) (defScope s_law_cell) .none kV12 dc12 pm12 an12 cd12 ct12), sl12⟩) (c12 : PySem.W.codeIn K cd12 "_law_cell" = true) (k12 : PySem.W.keepIn K (.ref f12) = true)
    {f13 : Addr} {od13 an13 : Option Addr} {sl13 : Array (Option Value)} {oc13 kV13 dc13 pm13 ct13 : Value} {cd13 : Value}
    (a13 : PySem.W.nsIn K mainGlobals "_law_weights" = some (some (.ref f13))) (l13 : K.lookup f13 = some ⟨oc13, od13, .func (PySem.W.fnOf "_law_weights" "_law_weights" (defArgs s_law_weights) (defBody s_law_weights) (defScope s_law_weights) .none kV13 dc13 pm13 an13 cd13 ct13), sl13⟩) (c13 : PySem.W.codeIn K cd13 "_law_weights" = true) (k13 : PySem.W.keepIn K (.ref f13) = true)
    {f14 : Addr} {od14 an14 : Option Addr} {sl14 : Array (Option Value)} {oc14 kV14 dc14 pm14 ct14 : Value} {cd14 : Value}
    (a14 : PySem.W.nsIn K mainGlobals "_law_least_limit" = some (some (.ref f14))) (l14 : K.lookup f14 = some ⟨oc14, od14, .func (PySem.W.fnOf "_law_least_limit" "_law_least_limit" (defArgs s_law_least_limit) (defBody s_law_least_limit) (defScope s_law_least_limit) .none kV14 dc14 pm14 an14 cd14 ct14), sl14⟩) (c14 : PySem.W.codeIn K cd14 "_law_least_limit" = true) (k14 : PySem.W.keepIn K (.ref f14) = true)
    {f15 : Addr} {od15 an15 : Option Addr} {sl15 : Array (Option Value)} {oc15 kV15 dc15 pm15 ct15 : Value} {cd15 : Value}
    (a15 : PySem.W.nsIn K mainGlobals "_law_joined" = some (some (.ref f15))) (l15 : K.lookup f15 = some ⟨oc15, od15, .func (PySem.W.fnOf "_law_joined" "_law_joined" (defArgs s_law_joined) (defBody s_law_joined) (defScope s_law_joined) .none kV15 dc15 pm15 an15 cd15 ct15), sl15⟩) (c15 : PySem.W.codeIn K cd15 "_law_joined" = true) (k15 : PySem.W.keepIn K (.ref f15) = true)
    {f16 : Addr} {od16 an16 : Option Addr} {sl16 : Array (Option Value)} {oc16 kV16 dc16 pm16 ct16 : Value} {cd16 : Value}
    (a16 : PySem.W.nsIn K mainGlobals "law" = some (some (.ref f16))) (l16 : K.lookup f16 = some ⟨oc16, od16, .func (PySem.W.fnOf "law" "law" (defArgs s_law) (defBody s_law) (defScope s_law) .none kV16 dc16 pm16 an16 cd16 ct16), sl16⟩) (c16 : PySem.W.codeIn K cd16 "law" = true) (k16 : PySem.W.keepIn K (.ref f16) = true)
    (z_len : PySem.W.nsIn K mainGlobals "len" = some none)
    (z_int : PySem.W.nsIn K mainGlobals "int" = some none)
    (z_min : PySem.W.nsIn K mainGlobals "min" = some none)
    (z_max : PySem.W.nsIn K mainGlobals "max" = some none)
    (z_list : PySem.W.nsIn K mainGlobals "list" = some none)
    (z_sorted : PySem.W.nsIn K mainGlobals "sorted" = some none)
    (z_sum : PySem.W.nsIn K mainGlobals "sum" = some none)
    (z_range : PySem.W.nsIn K mainGlobals "range" = some none)
    (z_enumerate : PySem.W.nsIn K mainGlobals "enumerate" = some none)
    (z_zip : PySem.W.nsIn K mainGlobals "zip" = some none)
    (z_any : PySem.W.nsIn K mainGlobals "any" = some none)
    (z_isinstance : PySem.W.nsIn K mainGlobals "isinstance" = some none)
    (z_bool : PySem.W.nsIn K mainGlobals "bool" = some none)
    (z_reversed : PySem.W.nsIn K mainGlobals "reversed" = some none)
    (y_LONGEST : PySem.W.nsIn K mainGlobals "LONGEST" = some (some (.int 20 tk)))
    (y_FIRST : PySem.W.nsIn K mainGlobals "FIRST" = some (some (.ref tf)))
    (y_ft : K.lookup tf = some ⟨.type "tuple", oFd, .seq #[.int 0 ta, .int 0 tb, .int 1 tc] nF, oFs⟩)
    : LawX l w K CX0 9 63 "script" mg fa h := by
  have e := hfa.symm.trans (PySem.W.mg_of X G a16)
  cases e
  have hd0 : PySem.W.CodeHd h g0 P0 := PySem.W.codeHd_of_K X t0
  have em0 : h.get? P0 = some tabO := tab_emp R X r0 (PySem.W.mg_of X G a0) l0 rfl hd0
  have hd1 : PySem.W.CodeHd h g1 P1 := PySem.W.codeHd_of_K X t1
  have em1 : h.get? P1 = some tabO := tab_emp R X r1 (PySem.W.mg_of X G a1) l1 rfl hd1
  have hd2 : PySem.W.CodeHd h g2 P2 := PySem.W.codeHd_of_K X t2
  have em2 : h.get? P2 = some tabO := tab_emp R X r2 (PySem.W.mg_of X G a2) l2 rfl hd2
  have hd11 : PySem.W.CodeHd h g11 P3 := PySem.W.codeHd_of_K X t11
  have em11 : h.get? P3 = some tabO := tab_emp R X r11 (PySem.W.mg_of X G a11) l11 rfl hd11
  have T1 : ∀ p ∈ ([(g0, P0), (g1, P1), (g2, P2), (g11, P3)] : List (Addr × Addr)), h.get? p.2 = some tabO := by
    intro p hp
    simp only [List.mem_cons, List.not_mem_nil, or_false] at hp
    rcases hp with rfl | rfl | rfl | rfl
    · exact em0
    · exact em1
    · exact em2
    · exact em11
  have T2 : ∀ p ∈ ([(g0, P0), (g1, P1), (g2, P2), (g11, P3)] : List (Addr × Addr)), K.lookup p.2 = none := by
    intro p hp
    simp only [List.mem_cons, List.not_mem_nil, or_false] at hp
    rcases hp with rfl | rfl | rfl | rfl
    · exact n0
    · exact n1
    · exact n2
    · exact n11
  have T3 : ∀ p ∈ ([(g0, P0), (g1, P1), (g2, P2), (g11, P3)] : List (Addr × Addr)), PySem.W.CodeHd h p.1 p.2 := by
    intro p hp
    simp only [List.mem_cons, List.not_mem_nil, or_false] at hp
    rcases hp with rfl | rfl | rfl | rfl
    · exact hd0
    · exact hd1
    · exact hd2
    · exact hd11
  refine ⟨PySem.W.fnOf "law" "law" (defArgs s_law) (defBody s_law) (defScope s_law) .none kV16 dc16 pm16 an16 cd16 ct16, [(g0, P0), (g1, P1), (g2, P2), (g11, P3)], spLaw K P0 P1 P2 P3, ⟨T1, T2, T3⟩, fun s v => .of_eq rfl, fun H a ns hl hb hT hS => ⟨a, ns, rfl, hS, hl, hT _ (List.mem_cons_self), hT _ (List.mem_cons_of_mem _ List.mem_cons_self), hT _ (List.mem_cons_of_mem _ (List.mem_cons_of_mem _ List.mem_cons_self)), hT _ (List.mem_cons_of_mem _ (List.mem_cons_of_mem _ (List.mem_cons_of_mem _ List.mem_cons_self))), fun H2 e2 => ⟨rfl, fun p hp => e2 _ _ (hT p hp)⟩⟩, fun base kb gb TB => ?_⟩
  have B : Bs mg := ⟨PySem.W.mg_none_of X G z_len, PySem.W.mg_none_of X G z_int, PySem.W.mg_none_of X G z_min, PySem.W.mg_none_of X G z_max, PySem.W.mg_none_of X G z_list, PySem.W.mg_none_of X G z_sorted, PySem.W.mg_none_of X G z_sum, PySem.W.mg_none_of X G z_range, PySem.W.mg_none_of X G z_enumerate, PySem.W.mg_none_of X G z_zip, PySem.W.mg_none_of X G z_any, PySem.W.mg_none_of X G z_isinstance, PySem.W.mg_none_of X G z_bool, PySem.W.mg_none_of X G z_reversed⟩
  have TB0 : GxR.TabB base mg g0 P0 := TB (g0, P0) (by simp)
  have TB1 : GxR.TabB base mg g1 P1 := TB (g1, P1) (by simp)
  have TB2 : GxR.TabB base mg g2 P2 := TB (g2, P2) (by simp)
  have TB11 : GxR.TabB base mg g11 P3 := TB (g11, P3) (by simp)
  have T : GT mg tk := ⟨PySem.W.mg_of X G y_LONGEST⟩
  have TF : GF K mg tf := ⟨PySem.W.mg_of X G y_FIRST, fun H => .inr ⟨_, _, _, y_ft, rfl, rfl, sz_of (by show 3 ≤ 100000; decide), .cons ⟨_, rfl⟩ (.cons ⟨_, rfl⟩ (.cons ⟨_, rfl⟩ .nil))⟩⟩
  have F0 : FunT K "room" "room" s_room f0 _ g0 := ⟨⟨oc0, od0, kV0, dc0, pm0, an0, ct0, sl0, rfl, l0, c0⟩, k0⟩
  have C_room := cal_of (P := l.prog) (w := w) (base := base) F0.fn (PySem.W.mg_of X G a0) (F0.fn.binds (ps := ["lengths"]) fun _ _ _ _ _ _ us hl => match us, hl with | [_], _ => rfl) (ok_room (k := 0) F0 TB0 T B)
  have F1 : FunT K "ranks" "ranks" s_ranks f1 _ g1 := ⟨⟨oc1, od1, kV1, dc1, pm1, an1, ct1, sl1, rfl, l1, c1⟩, k1⟩
  have C_ranks := cal_of (P := l.prog) (w := w) (base := base) F1.fn (PySem.W.mg_of X G a1) (F1.fn.binds (ps := ["weights"]) fun _ _ _ _ _ _ us hl => match us, hl with | [_], _ => rfl) (ok_ranks (k := 0) F1 TB1 B)
  have F2 : FunT K "cost" "cost" s_cost f2 _ g2 := ⟨⟨oc2, od2, kV2, dc2, pm2, an2, ct2, sl2, rfl, l2, c2⟩, k2⟩
  have C_cost := cal_of (P := l.prog) (w := w) (base := base) F2.fn (PySem.W.mg_of X G a2) (F2.fn.binds (ps := ["weights", "lengths"]) fun _ _ _ _ _ _ us hl => match us, hl with | [_, _], _ => rfl) (ok_cost (k := 0) F2 TB2 B)
  have F3 := fun_mk (st := s_rests) l3 c3 k3
  have C_rests := cal_of (P := l.prog) (w := w) (base := base) F3 (PySem.W.mg_of X G a3) (F3.binds (ps := ["weights"]) fun _ _ _ _ _ _ us hl => match us, hl with | [_], _ => rfl) (ok_rests (k := 0) F3 B)
  have F4 := fun_mk (st := s_word_counts) l4 c4 k4
  have C_word_counts := cal_of (P := l.prog) (w := w) (base := base) F4 (PySem.W.mg_of X G a4) (F4.binds (ps := ["limit", "depth", "free", "left"]) fun _ _ _ _ _ _ us hl => match us, hl with | [_, _, _, _], _ => rfl) (ok_word_counts (k := 0) F4 B)
  have F5 := fun_mk (st := s_stage_choices) l5 c5 k5
  have C_stage_choices := cal_of (P := l.prog) (w := w) (base := base) F5 (PySem.W.mg_of X G a5) (F5.binds (ps := ["sums", "limit", "stage"]) fun _ _ _ _ _ _ us hl => match us, hl with | [_, _, _], _ => rfl) (ok_stage_choices (k := 0) F5 B C_word_counts)
  have F6 := fun_mk (st := s_reached_stages) l6 c6 k6
  have C_reached_stages := cal_of (P := l.prog) (w := w) (base := base) F6 (PySem.W.mg_of X G a6) (F6.binds (ps := ["weights", "limit"]) fun _ _ _ _ _ _ us hl => match us, hl with | [_, _], _ => rfl) (ok_reached_stages (k := 0) TF F6 B C_rests C_stage_choices)
  have F7 := fun_mk (st := s_least_sum) l7 c7 k7
  have C_least_sum := cal_of (P := l.prog) (w := w) (base := base) F7 (PySem.W.mg_of X G a7) (F7.binds (ps := ["choice", "known"]) fun _ _ _ _ _ _ us hl => match us, hl with | [_, _], _ => rfl) (ok_least_sum (k := 0) F7 B)
  have F8 := fun_mk (st := s_stage_values) l8 c8 k8
  have C_stage_values := cal_of (P := l.prog) (w := w) (base := base) F8 (PySem.W.mg_of X G a8) (F8.binds (ps := ["stages"]) fun _ _ _ _ _ _ us hl => match us, hl with | [_], _ => rfl) (ok_stage_values (k := 0) F8 B C_least_sum)
  have F9 := fun_mk (st := s_least_lengths) l9 c9 k9
  have C_least_lengths := cal_of (P := l.prog) (w := w) (base := base) F9 (PySem.W.mg_of X G a9) (F9.binds (ps := ["weights", "limit"]) fun _ _ _ _ _ _ us hl => match us, hl with | [_, _], _ => rfl) (ok_least_lengths (k := 0) TF F9 B C_reached_stages C_stage_values C_ranks C_least_sum)
  have F10 := fun_mk (st := s_packages) l10 c10 k10
  have C_packages := cal_of (P := l.prog) (w := w) (base := base) F10 (PySem.W.mg_of X G a10) (F10.binds (ps := ["row"]) fun _ _ _ _ _ _ us hl => match us, hl with | [_], _ => rfl) (ok_packages (k := 0) F10 B)
  have F11 : FunT K "packaged_lengths" "packaged_lengths" s_packaged_lengths f11 _ g11 := ⟨⟨oc11, od11, kV11, dc11, pm11, an11, ct11, sl11, rfl, l11, c11⟩, k11⟩
  have C_packaged_lengths := cal_of (P := l.prog) (w := w) (base := base) F11.fn (PySem.W.mg_of X G a11) (F11.fn.binds (ps := ["weights", "limit"]) fun _ _ _ _ _ _ us hl => match us, hl with | [_, _], _ => rfl) (ok_packaged_lengths (k := 0) F11 TB11 B C_packages)
  have F12 := fun_mk (st := s_law_cell) l12 c12 k12
  have C_law_cell := cal_of (P := l.prog) (w := w) (base := base) F12 (PySem.W.mg_of X G a12) (F12.binds (ps := ["script", "k"]) fun _ _ _ _ _ _ us hl => match us, hl with | [_, _], _ => rfl) (ok_cell (k := 0) F12 B)
  have F13 := fun_mk (st := s_law_weights) l13 c13 k13
  have C_law_weights := cal_of (P := l.prog) (w := w) (base := base) F13 (PySem.W.mg_of X G a13) (F13.binds (ps := ["script", "first", "many"]) fun _ _ _ _ _ _ us hl => match us, hl with | [_, _, _], _ => rfl) (ok_weights (k := 0) F13 B C_law_cell)
  have F14 := fun_mk (st := s_law_least_limit) l14 c14 k14
  have C_law_least_limit := cal_of (P := l.prog) (w := w) (base := base) F14 (PySem.W.mg_of X G a14) (F14.binds (ps := ["many"]) fun _ _ _ _ _ _ us hl => match us, hl with | [_], _ => rfl) (ok_law_least_limit (k := 0) F14 B)
  have F15 := fun_mk (st := s_law_joined) l15 c15 k15
  have C_law_joined := cal_of (P := l.prog) (w := w) (base := base) F15 (PySem.W.mg_of X G a15) (F15.binds (ps := ["weights"]) fun _ _ _ _ _ _ us hl => match us, hl with | [_], _ => rfl) (ok_law_joined (k := 0) F15 B)
  have F16 := fun_mk (st := s_law) l16 c16 k16
  exact ok_law (k := 0) F16 B C_law_cell C_law_weights C_law_least_limit C_least_lengths C_packaged_lengths C_law_joined C_room C_cost
end K05
open PySem PySem.W PyProof.Rows
set_option maxHeartbeats 0 in
theorem PySem.Challenge.cw_kraftroom_k05_whole_packages_holds : PySem.Challenge.rw_kraftroom_k05_whole_packages.Holds := by
  w_on; o_law; k_head; (case hw => w_witness2)
  k_fill
  refine KC.walk_X (l := PySem.Challenge.rw_kraftroom_k05_whole_packages) (n := 63) (k := 9) (x := "script") (CX := fun _ => L2.CX0) rfl (by decide) rfl ⟨rfl, by decide, by decide⟩ (fun w h Y => PySem.W.kIn_of Y) ?F (fun _ _ _ _ _ h => h)
  case F =>
    intro w mg fa h Y KX G hmg R
    refine' K05.top_of KX G R hmg ?r0 ?r1 ?r2 ?r11 ?a0 ?l0 ?c0 ?k0 ?v0 ?p0 ?t0 ?n0 ?a1 ?l1 ?c1 ?k1 ?v1 ?p1 ?t1 ?n1 ?a2 ?l2 ?c2 ?k2 ?v2 ?p2 ?t2 ?n2 ?a3 ?l3 ?c3 ?k3 ?a4 ?l4 ?c4 ?k4 ?a5 ?l5 ?c5 ?k5 ?a6 ?l6 ?c6 ?k6 ?a7 ?l7 ?c7 ?k7 ?a8 ?l8 ?c8 ?k8 ?a9 ?l9 ?c9 ?k9 ?a10 ?l10 ?c10 ?k10 ?a11 ?l11 ?c11 ?k11 ?v11 ?p11 ?t11 ?n11 ?a12 ?l12 ?c12 ?k12 ?a13 ?l13 ?c13 ?k13 ?a14 ?l14 ?c14 ?k14 ?a15 ?l15 ?c15 ?k15 ?a16 ?l16 ?c16 ?k16 ?z_len ?z_int ?z_min ?z_max ?z_list ?z_sorted ?z_sum ?z_range ?z_enumerate ?z_zip ?z_any ?z_isinstance ?z_bool ?z_reversed ?y_LONGEST ?y_FIRST ?y_ft
    (case r0 => rfl)
    (case r1 => rfl)
    (case r2 => rfl)
    (case r11 => rfl)
    (case a0 => k_is); (case l0 => k_is); (case c0 => k_is); (case k0 => k_is); (case v0 => k_is); (case p0 => rfl); (case t0 => rfl); (case n0 => rfl); (case a1 => k_is); (case l1 => k_is); (case c1 => k_is); (case k1 => k_is); (case v1 => k_is); (case p1 => rfl); (case t1 => rfl); (case n1 => rfl); (case a2 => k_is); (case l2 => k_is); (case c2 => k_is); (case k2 => k_is); (case v2 => k_is); (case p2 => rfl); (case t2 => rfl); (case n2 => rfl); (case a3 => k_is); (case l3 => k_is); (case c3 => k_is); (case k3 => k_is); (case a4 => k_is); (case l4 => k_is); (case c4 => k_is); (case k4 => k_is); (case a5 => k_is); (case l5 => k_is); (case c5 => k_is); (case k5 => k_is); (case a6 => k_is); (case l6 => k_is); (case c6 => k_is); (case k6 => k_is); (case a7 => k_is); (case l7 => k_is); (case c7 => k_is); (case k7 => k_is); (case a8 => k_is); (case l8 => k_is); (case c8 => k_is); (case k8 => k_is); (case a9 => k_is); (case l9 => k_is); (case c9 => k_is); (case k9 => k_is); (case a10 => k_is); (case l10 => k_is); (case c10 => k_is); (case k10 => k_is); (case a11 => k_is); (case l11 => k_is); (case c11 => k_is); (case k11 => k_is); (case v11 => k_is); (case p11 => rfl); (case t11 => rfl); (case n11 => rfl); (case a12 => k_is); (case l12 => k_is); (case c12 => k_is); (case k12 => k_is); (case a13 => k_is); (case l13 => k_is); (case c13 => k_is); (case k13 => k_is); (case a14 => k_is); (case l14 => k_is); (case c14 => k_is); (case k14 => k_is); (case a15 => k_is); (case l15 => k_is); (case c15 => k_is); (case k15 => k_is); (case a16 => k_is); (case l16 => k_is); (case c16 => k_is); (case k16 => k_is); (case z_len => k_is); (case z_int => k_is); (case z_min => k_is); (case z_max => k_is); (case z_list => k_is); (case z_sorted => k_is); (case z_sum => k_is); (case z_range => k_is); (case z_enumerate => k_is); (case z_zip => k_is); (case z_any => k_is); (case z_isinstance => k_is); (case z_bool => k_is); (case z_reversed => k_is); (case y_LONGEST => k_is); (case y_FIRST => k_is); (case y_ft => k_is)
